"""Fair bits that tell moves: the shares part the stretch from 0 to 1, and bits tell stretches within it."""

from asifforever.basics import fraction, is_row_below, is_within
from asifforever.drawing import drawn
from asifforever.errors import NoBits, NoNumber
from asifforever.merging import factors_of


def is_bits(thing):
    """Whether a thing is a tuple of at most 200 bits."""
    return is_row_below(2, thing) and len(thing) <= 200


def ends_of_moves(system):
    """The bottom common to all moves, and the tops at which their stretches end, one behind another from 0 on."""
    bottom, tops = factors_of(system)
    return bottom, [sum(tops[:many]) for many in range(len(tops) + 1)]


def move_within(ends, bottom, number, parts):
    """The move in whose stretch the one from number to number + 1, of so many parts of 1, lies; None if in none."""
    for move in range(len(ends) - 1):
        if ends[move] * parts <= number * bottom and (number + 1) * bottom <= ends[move + 1] * parts:
            return move
    return None


def move_by_bits(system, bits):
    """The pair of the move that bits tell and of how many of them do, None if they do not tell one."""
    if not is_bits(bits):
        raise NoBits()
    bottom, ends = ends_of_moves(system)
    number = 0
    parts = 1
    for at, bit in enumerate(bits):
        number = 2 * number + bit
        parts = 2 * parts
        move = move_within(ends, bottom, number, parts)
        if move is not None:
            return move, at + 1
    return None


def tops_by_bits(system, many):
    """How many rows of so many bits there are, and for each move how many of them tell it."""
    bottom, ends = ends_of_moves(system)
    parts = 1
    for _ in range(many):
        parts = 2 * parts
    if many == 0:
        # Not even a move alone is told without a bit.
        return parts, [0] * (len(ends) - 1)
    # Rows that go on with more bits stay in the stretch, so those whose whole stretch lies in a move's tell it.
    tops = []
    for low, high in zip(ends, ends[1:]):
        first = -(-low * parts // bottom)
        last = high * parts // bottom
        tops.append(max(0, last - first))
    return parts, tops


def told_by_bits(system, many):
    """For each move the share of the rows of so many bits that tell it."""
    if not is_within(0, 40, many):
        raise NoNumber()
    parts, tops = tops_by_bits(system, many)
    return tuple([fraction(top, parts) for top in tops])


def open_by_bits(system, many):
    """The share of the rows of so many bits that tell no move."""
    if not is_within(0, 40, many):
        raise NoNumber()
    parts, tops = tops_by_bits(system, many)
    return fraction(parts - sum(tops), parts)


def coins_of_bits(system, bits):
    """The coins that bits tell, one behind another, and how many bits these take."""
    coins = []
    at = 0
    found = move_by_bits(system, bits)
    while found is not None:
        move, many = found
        coins.append(move)
        at += many
        found = move_by_bits(system, bits[at:])
    return tuple(coins), at


def drawn_by_bits(system, bits, plan):
    """The pair of what is drawn by the coins that bits tell and of how many bits these take."""
    if not is_bits(bits):
        raise NoBits()
    coins, taken = coins_of_bits(system, bits)
    return drawn(system, coins, plan), taken
