"""Whole runs, from a door to the end."""

from stackwarden.plain import Plain
from stackwarden.watched import Watched


def finished(machine):
    while machine.end is None:
        machine.step()
    return machine.told()


def run(book, part, inputs, budget):
    return finished(Plain(book, part, inputs, budget))


def run_watched(book, part, inputs, budget):
    return finished(Watched(book, part, inputs, budget))
