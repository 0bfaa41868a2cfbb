"""Reading once: moves in the order in which they are done, in blocks, each state told by what was held before."""

from asifforever.basics import fraction, is_within
from asifforever.errors import NoLength, NoNumber, NoRow, NotMerging
from asifforever.merging import told_tops
from asifforever.systems import is_row, led_all, step_tops


def once(system, length, row):
    """What a row tells, read in blocks: ("told", state, moves read), ("held", state, moves read) or ("none",)."""
    if not is_within(1, 20, length):
        raise NoLength()
    if not is_row(system, row):
        raise NoRow()
    held = None
    whole = len(row) // length
    for block in range(whole):
        leads = led_all(system, row[block * length:block * length + length])
        merges = len(set(leads)) == 1
        if merges and held is not None:
            return "told", held, block * length + length
        if merges:
            held = leads[0]
        elif held is not None:
            held = leads[held]
    return ("none",) if held is None else ("held", held, whole * length)


def times(tops, table):
    """What tops come to, led on by a table of the tops from each state to each."""
    return [sum([top * row[state] for top, row in zip(tops, table)]) for state in range(len(tops))]


def block_tops(system, length):
    """From each state to each the top of the rows of this length that lead it there."""
    _, table = step_tops(system)
    states = range(system.many)
    found = [[1 if one == other else 0 for other in states] for one in states]
    for _ in range(length):
        found = [times(row, table) for row in found]
    return found


def once_shares(system, length, blocks):
    """For each state the share with which it is told within so many blocks behind the first one that merges."""
    if not is_within(1, 20, length):
        raise NoLength()
    whole, told = told_tops(system, length)
    if sum(told) == 0:
        raise NotMerging()
    if not is_within(0, 12, blocks):
        raise NoNumber()
    # By rows that merge each state is led alike; what is left of a row of the table is led by those that do not.
    unmerged = [[top - part for top, part in zip(row, told)] for row in block_tops(system, length)]
    # What is held first has the tops told over their sum, and the next block merges with their sum over whole:
    # so what is held and told by the next block has the tops told over whole.
    held = told
    bottom = 1
    found = [0] * system.many
    for _ in range(blocks):
        found = [top * whole + part for top, part in zip(found, held)]
        held = times(held, unmerged)
        bottom = bottom * whole
    return tuple([fraction(top, bottom) for top in found])
