"""Code as text: shown, and read again."""

from stackwarden.errors import NoRow
from stackwarden.rows import is_row

FIGURES = "0123456789"
MOST_FIGURES = 10


def line_of(row):
    return " ".join([str(thing) for thing in row])


def shown(rows):
    return "\n".join([line_of(row) for row in rows])


# The words of a line, its remark left out.
def words_of(line):
    kept = line.partition("#")[0]
    return [word for word in kept.split(" ") if word != ""]


# The number that a word writes, or None where it is ill written.
def number_of(word):
    if word == "0":
        return 0
    figures = word[1:] if word.startswith("-") else word
    if len(figures) < 1 or len(figures) > MOST_FIGURES or figures[0] == "0":
        return None
    if not all([figure in FIGURES for figure in figures]):
        return None
    return int(word)


def read(text):
    rows = []
    for at, line in enumerate(text.split("\n")):
        words = words_of(line)
        if len(words) > 0:
            row = (words[0],) + tuple([number_of(word) for word in words[1:]])
            if not is_row(row):
                raise NoRow(at)
            rows.append(row)
    return rows
