"""Systems: states, and moves that lead states to states, each drawn with its share."""

from asifforever.basics import (
    are_one_together, common_bottom, fraction, fraction_of_text, fraction_text, is_fraction, is_row_below, is_within,
    number_behind, numbers_of_text, tops_over)
from asifforever.errors import BadLine, BadSystem, NoNumber, NoRow, NoSpread, NoState


class System:
    """1 to 12 states and 1 to 24 moves, each a pair (share, tuple of the states led to)."""

    def __init__(self, many, moves):
        if not is_within(1, 12, many):
            raise BadSystem("many")
        if not isinstance(moves, tuple) or not 1 <= len(moves) <= 24:
            raise BadSystem("moves")
        for number, move in enumerate(moves):
            if not is_move(many, move):
                raise BadSystem(number)
        if not are_one_together([share for share, _ in moves]):
            raise BadSystem("shares")
        self.many = many
        self.moves = moves

    def __eq__(self, other):
        return isinstance(other, System) and self.many == other.many and self.moves == other.moves


def is_move(many, thing):
    """Whether a thing is a move of so many states."""
    if not isinstance(thing, tuple) or len(thing) != 2:
        return False
    share, leads = thing
    return is_fraction(share) and share[0] > 0 and is_row_below(many, leads) and len(leads) == many


def is_row(system, thing):
    """Whether a thing is a row of moves of the system."""
    return is_row_below(len(system.moves), thing) and len(thing) <= 400


def led(system, row, state):
    """The state to which a row leads a state."""
    if not is_row(system, row):
        raise NoRow()
    if not is_within(0, system.many - 1, state):
        raise NoState()
    for number in row:
        _, leads = system.moves[number]
        state = leads[state]
    return state


def led_all(system, row):
    """For each state, the one to which a row leads it."""
    if not is_row(system, row):
        raise NoRow()
    return tuple([led(system, row, state) for state in range(system.many)])


def lot_behind(system, row):
    """The lot of the states to which a row leads any state."""
    return tuple(sorted(set(led_all(system, row))))


def share_of(system, row):
    """The share with which just this row of moves is drawn."""
    if not is_row(system, row):
        raise NoRow()
    top = 1
    bottom = 1
    for number in row:
        (above, below), _ = system.moves[number]
        top = top * above
        bottom = bottom * below
    return fraction(top, bottom)


def is_spread(many, thing):
    """Whether a thing is a spread of so many states."""
    if not isinstance(thing, tuple) or len(thing) != many:
        return False
    if not all([is_fraction(share) and share[0] >= 0 for share in thing]):
        return False
    return are_one_together(thing)


def step_tops(system):
    """The bottom common to all moves, and from each state to each the top, over it, of the share of the step."""
    bottom = common_bottom([share for share, _ in system.moves])
    tops = tops_over([share for share, _ in system.moves], bottom)
    table = [[0] * system.many for _ in range(system.many)]
    for top, (_, leads) in zip(tops, system.moves):
        for state, other in enumerate(leads):
            table[state][other] += top
    return bottom, table


def steps(system):
    """For each state the tuple of the shares with which one move leads it to each state."""
    bottom, table = step_tops(system)
    return tuple([tuple([fraction(top, bottom) for top in row]) for row in table])


def spread_behind(system, spread, depth):
    """The spread behind so many moves, if the state is drawn by a spread first."""
    if not is_spread(system.many, spread):
        raise NoSpread()
    if not is_within(0, 60, depth):
        raise NoNumber()
    factor, table = step_tops(system)
    bottom = common_bottom(spread)
    tops = tops_over(spread, bottom)
    for _ in range(depth):
        tops = [sum([top * row[state] for top, row in zip(tops, table)]) for state in range(system.many)]
        bottom = bottom * factor
    return tuple([fraction(top, bottom) for top in tops])


def system_text(system):
    """The system as a text, a line for its states and one for each move."""
    lines = ["states " + str(system.many)]
    for share, leads in system.moves:
        lines.append(fraction_text(share) + ": " + " ".join([str(state) for state in leads]))
    return "".join([line + "\n" for line in lines])


def move_of_line(line):
    """The pair (share, leads) that a line tells, None if it has not its form."""
    before, _, behind = line.partition(": ")
    share = fraction_of_text(before)
    leads = numbers_of_text(behind)
    return None if share is None or leads is None else (share, leads)


def read_system(text):
    """The system of which this is the text."""
    if not isinstance(text, str):
        raise BadLine(0)
    lines = text.split("\n")
    rest = lines.pop()
    told = [number_behind("states", line) if number == 0 else move_of_line(line) for number, line in enumerate(lines)]
    if None in told:
        raise BadLine(told.index(None) + 1)
    if rest != "" or lines == []:
        raise BadLine(len(lines) + 1)
    return System(told[0], tuple(told[1:]))
