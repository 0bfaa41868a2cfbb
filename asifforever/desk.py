"""A desk, to which lines are told: it keeps models under names, and answers what is asked of them."""

from asifforever.basics import fraction_of_text, fraction_text, number_of_text, number_text
from asifforever.errors import NoLine, NoName
from asifforever.models import colourings, sets_apart, spins, stacks
from asifforever.modeltexts import model_text, row_text
from asifforever.rising import drawn_picture, flips_for
from asifforever.tables import likeliest, share_of_picture, total

# Each line's word, how many numbers stand behind the name, and what may follow them, as often as one likes.
FORMS = {
    "spins": (3, "pairs"),
    "apart": (2, "pairs"),
    "colours": (2, "pairs"),
    "stacks": (3, ""),
    "show": (0, ""),
    "total": (0, ""),
    "share": (1, "numbers"),
    "likeliest": (0, ""),
    "flips": (0, ""),
    "draw": (0, "coins"),
    "drop": (0, ""),
}


def is_name(text):
    """Whether a text is 1 to 8 letters from a to z."""
    return text.isascii() and text.isalpha() and text.islower() and len(text) <= 8


def pair_of_word(word):
    """The pair of numbers that I-J tells, None if a word has not this form."""
    one, _, other = word.partition("-")
    numbers = (number_of_text(one), number_of_text(other))
    return None if None in numbers else numbers


def coin_of_word(word):
    """The pair of a number and a fraction that PLACE@SHARE tells, None if a word has not this form."""
    before, _, behind = word.partition("@")
    coin = (number_of_text(before), fraction_of_text(behind))
    return None if None in coin else coin


def thing_of_word(kind, word):
    """What a word of a kind tells, None if it tells nothing."""
    if kind == "numbers":
        return number_of_text(word)
    if kind == "pairs":
        return pair_of_word(word)
    return coin_of_word(word) if kind == "coins" else None


def parts_of_line(line):
    """The triple of a line's word, its name, and the tuple of the numbers, pairs and coins that it tells."""
    if not isinstance(line, str):
        raise NoLine()
    word, *words = line.split(" ")
    if word not in FORMS or words == [] or not is_name(words[0]):
        raise NoLine()
    many, kind = FORMS[word]
    told = [number_of_text(part) for part in words[1:many + 1]]
    told.extend([thing_of_word(kind, part) for part in words[many + 1:]])
    if len(told) < many or None in told:
        raise NoLine()
    return word, words[0], tuple(told)


def made_model(word, told):
    """The Model that a line makes."""
    if word == "spins":
        return spins(told[0], told[3:], told[1], told[2])
    if word == "apart":
        return sets_apart(told[0], told[2:], told[1])
    if word == "colours":
        return colourings(told[0], told[2:], told[1])
    return stacks(told[0], told[1], told[2])


def picture_text(picture):
    """A picture's values, or none."""
    return "none" if picture is None else row_text(picture)


def flips_text(flips):
    """A sign for each place of flips, or none."""
    return "none" if flips is None else "".join(["-" if flip else "+" for flip in flips])


def draw_text(model, coins):
    """What coins tell by the least flips."""
    flips = flips_for(model)
    if flips is None:
        return "none"
    word, found, many = drawn_picture(model, flips, coins, "one")
    return f"{row_text(found)} by {many}" if word == "told" else word


def shown(text):
    """The text with a mark for each line feed but the last, which stays."""
    return text.replace("\n", "; ", text.count("\n") - 1)


def answer(word, model, told):
    """The answer to what a line asks of a model."""
    if word == "show":
        return shown(model_text(model))
    if word == "total":
        return number_text(total(model))
    if word == "share":
        return fraction_text(share_of_picture(model, told))
    if word == "likeliest":
        return picture_text(likeliest(model))
    if word == "flips":
        return flips_text(flips_for(model))
    return draw_text(model, told)


class Desk:
    """Does lines, and keeps the models that they make."""

    def __init__(self):
        self._models = {}

    def tell(self, line):
        """Does a line and returns its answer."""
        word, name, told = parts_of_line(line)
        if word in ("spins", "apart", "colours", "stacks"):
            self._models[name] = made_model(word, told)
            return "ok"
        if name not in self._models:
            raise NoName(name)
        if word == "drop":
            del self._models[name]
            return "ok"
        return answer(word, self._models[name], told)
