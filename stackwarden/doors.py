"""Doors: the parts at which a run may be started."""

from stackwarden.errors import NoDoor


def is_door(takes, gives):
    return all([kind == ("number",) for kind in takes + [gives]])


def check_door(parts, part, inputs):
    if not 0 <= part < len(parts):
        raise NoDoor()
    takes = parts[part][0]
    if not is_door(takes, parts[part][1]) or len(inputs) != len(takes):
        raise NoDoor()
