"""Models as texts: lines for places and levels, for the weights of each place, and for each tie."""

from asifforever.basics import number_behind, numbers_of_text
from asifforever.errors import BadLine
from asifforever.models import Model


def row_text(row):
    """Numbers, parted by blanks."""
    return " ".join([str(number) for number in row])


def model_text(model):
    """The model as a text."""
    lines = ["places " + str(model.many), "levels " + str(model.levels)]
    for row in model.weights:
        lines.append("weights " + row_text(row))
    for one, other, table in model.ties:
        lines.append(f"tie {one} {other}: " + " | ".join([row_text(row) for row in table]))
    return "".join([line + "\n" for line in lines])


def weights_of_line(line):
    """The weights that a line tells, None if it has not its form."""
    word, _, rest = line.partition(" ")
    return numbers_of_text(rest) if word == "weights" else None


def tie_of_line(line):
    """The triple (one, other, table) that a line tells, None if it has not its form."""
    before, _, behind = line.partition(": ")
    word, _, rest = before.partition(" ")
    places = numbers_of_text(rest)
    table = tuple([numbers_of_text(row) for row in behind.split(" | ")])
    if word != "tie" or places is None or len(places) != 2 or None in table:
        return None
    return places + (table,)


def told_by_line(line, told):
    """What a line tells behind those that told so much, None if it has not the form that must come here."""
    if len(told) == 0:
        return number_behind("places", line)
    if len(told) == 1:
        return number_behind("levels", line)
    return weights_of_line(line) if len(told) < told[0] + 2 else tie_of_line(line)


def read_model(text):
    """The model of which this is the text."""
    if not isinstance(text, str):
        raise BadLine(0)
    lines = text.split("\n")
    rest = lines.pop()
    told = []
    for number, line in enumerate(lines):
        part = told_by_line(line, told)
        if part is None:
            raise BadLine(number + 1)
        told.append(part)
    if rest != "" or told == [] or len(told) < told[0] + 2:
        raise BadLine(len(told) + 1)
    many, levels, *rows = told
    return Model(many, levels, tuple(rows[:many]), tuple(rows[many:]))
