"""What several modules need: integers, fractions, and numbers within texts."""

from math import gcd, lcm


def is_integer(thing):
    """Whether a thing is an integer; a flag is none."""
    return isinstance(thing, int) and not isinstance(thing, bool)


def is_within(low, high, thing):
    """Whether a thing is an integer from low to high."""
    return is_integer(thing) and low <= thing <= high


def is_row_below(bound, thing):
    """Whether a thing is a tuple of numbers below a bound."""
    return isinstance(thing, tuple) and all([is_within(0, bound - 1, part) for part in thing])


def is_pair_below(bound, thing):
    """Whether a thing is a pair of numbers below a bound."""
    return isinstance(thing, tuple) and len(thing) == 2 and is_row_below(bound, thing)


def is_ascending(things):
    """Whether each of a tuple of things is less than the next one."""
    return all([one < other for one, other in zip(things, things[1:])])


def is_lot_below(bound, thing):
    """Whether a thing is a lot, perhaps empty, of numbers below a bound."""
    return is_row_below(bound, thing) and is_ascending(thing)


def is_lot_of_pairs(bound, thing):
    """Whether a thing is a lot, perhaps empty, of pairs of numbers below a bound."""
    if not isinstance(thing, tuple) or not all([is_pair_below(bound, part) for part in thing]):
        return False
    return is_ascending(thing)


def is_lot_of_couples(bound, thing):
    """Whether a thing is a lot of pairs of numbers below a bound, the lesser first."""
    return is_lot_of_pairs(bound, thing) and all([one < other for one, other in thing])


def lot_of(things):
    """The lot of the numbers that are among things."""
    return tuple(sorted(set(things)))


def with_part(parts, at, part):
    """The tuple of the same parts, but this one at a place."""
    return parts[:at] + (part,) + parts[at + 1:]


def is_fraction(thing):
    """Whether a thing is a fraction: (top, bottom) in lowest terms, bottom above 0."""
    if not isinstance(thing, tuple) or len(thing) != 2:
        return False
    top, bottom = thing
    return is_integer(top) and is_integer(bottom) and bottom > 0 and gcd(top, bottom) == 1


def fraction(top, bottom):
    """The fraction that is worth top divided by bottom, which is not 0."""
    part = gcd(top, bottom)
    if bottom < 0:
        part = -part
    return top // part, bottom // part


def common_bottom(fractions):
    """The least bottom over which all fractions can be written."""
    found = 1
    for _, bottom in fractions:
        found = lcm(found, bottom)
    return found


def tops_over(fractions, bottom):
    """The tops that fractions have over a bottom that all of theirs divide."""
    return [top * (bottom // part) for top, part in fractions]


def gap_between(one, other):
    """Half the sum of the sizes of the differences of so many fractions and as many others."""
    bottom = common_bottom(one + other)
    sizes = [abs(top - less) for top, less in zip(tops_over(one, bottom), tops_over(other, bottom))]
    return fraction(sum(sizes), 2 * bottom)


def are_one_together(fractions):
    """Whether the sum of fractions is 1."""
    bottom = common_bottom(fractions)
    return sum(tops_over(fractions, bottom)) == bottom


def number_text(number):
    """The figures of a number of any size: Python's own str refuses more than 4300 of them."""
    block = 10 ** 60
    parts = []
    while number >= block:
        number, rest = divmod(number, block)
        parts.append(str(rest).zfill(60))
    parts.append(str(number))
    return "".join(reversed(parts))


def number_of_text(text):
    """The number that a text of 1 to 12 figures tells, None if it has a sign or a needless nought."""
    if not text.isascii() or not text.isdigit() or len(text) > 12:
        return None
    if text.startswith("0") and text != "0":
        return None
    return int(text)


def number_behind(word, line):
    """The number that a line tells behind a word and a blank, None if it has not this form."""
    begun, _, rest = line.partition(" ")
    return number_of_text(rest) if begun == word else None


def numbers_of_text(text):
    """The tuple of the numbers parted by single blanks, None if one is none; there is one at least."""
    numbers = [number_of_text(word) for word in text.split(" ")]
    return None if None in numbers else tuple(numbers)


def fraction_text(share):
    """A fraction from 0 on as TOP/BOTTOM, or TOP alone where bottom is 1."""
    top, bottom = share
    if bottom == 1:
        return number_text(top)
    return number_text(top) + "/" + number_text(bottom)


def fraction_of_text(text):
    """The fraction of which this is the text, None if there is none."""
    above, stroke, below = text.partition("/")
    top = number_of_text(above)
    if stroke == "":
        return None if top is None else (top, 1)
    bottom = number_of_text(below)
    # A bottom of 1 is not written, so a text that has it is the text of nothing.
    if bottom == 1 or not is_fraction((top, bottom)):
        return None
    return top, bottom
