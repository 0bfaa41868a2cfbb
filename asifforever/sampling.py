"""Kept coins: a model is edited while its coins stay, and what they tell is what the model of now tells by them."""

from asifforever.basics import is_within, with_part
from asifforever.errors import BadModel, NoEdit, NoRenewal, NothingDone, TooMany
from asifforever.models import Model
from asifforever.renewals import is_renewal
from asifforever.rising import ends_fit, ends_rising, is_one, led_pair, rises


def weighed(model, place, weights):
    """The Model with other weights at a place."""
    if not is_within(0, model.many - 1, place):
        raise NoEdit()
    try:
        return Model(model.many, model.levels, with_part(model.weights, place, weights), model.ties)
    except BadModel:
        raise NoEdit()


def tied_anew(model, one, other, table):
    """The Model with this tie, in the place of an elder one between the same places."""
    # Looked at first, for ties are sorted by their places.
    if not is_within(0, model.many - 1, other) or not is_within(0, other - 1, one):
        raise NoEdit()
    ties = [held for held in model.ties if held[:2] != (one, other)] + [(one, other, table)]
    ordered = tuple(sorted(ties, key=lambda held: held[:2]))
    try:
        return Model(model.many, model.levels, model.weights, ordered)
    except BadModel:
        raise NoEdit()


class Sampler:
    """Reads renewals, further and further back, and leads both ends by them in a model that may be edited."""

    def __init__(self, model, flips):
        self._ends = ends_rising(model, flips)
        self._model = model
        self._flips = flips
        self._coins = ()
        self._edits = ()
        self._touched = ()

    def read(self, renewal):
        """One coin more, further back."""
        if not is_renewal(self._model, renewal):
            raise NoRenewal()
        if len(self._coins) == 400:
            raise TooMany(400)
        self._coins = self._coins + (renewal,)

    def picture(self):
        """The picture that all coins tell, None if they lead both ends to unlike ones."""
        both = self.pair()
        return both[0] if is_one(both) else None

    def pair(self):
        """The pair of the pictures to which all coins lead both ends."""
        return led_pair(self._model, self._ends, self._coins)

    def coins(self):
        """The tuple of all coins so far."""
        return self._coins

    def weigh(self, place, weights):
        """An edit: other weights at a place."""
        self._edit(weighed(self._model, place, weights), (place,))

    def tie(self, one, other, table):
        """An edit: a tie, in the place of an elder one or a new one."""
        self._edit(tied_anew(self._model, one, other, table), (one, other))

    def _edit(self, model, places):
        """Takes another model, which must rise and have both ends, and keeps the one of now for undo."""
        if not rises(model, self._flips) or not ends_fit(model, self._flips):
            raise NoEdit()
        self._edits = self._edits + ((self._model, places),)
        self._model = model
        self._touched = places

    def undo(self):
        """Takes back the last edit that is not taken back."""
        if self._edits == ():
            raise NothingDone()
        self._model, self._touched = self._edits[-1]
        self._edits = self._edits[:-1]

    def model(self):
        """The model of now."""
        return self._model

    def touched(self):
        """The lot of the places of the last edit, or undo."""
        return self._touched

    def led_again(self):
        """How many coins must be led again behind the last edit, or undo."""
        # The first coin that is done is the last of the tuple, so all up to the last that touches are led again.
        touching = [at + 1 for at, (place, _) in enumerate(self._coins) if place in self._touched]
        return max(touching, default=0)

    def copy(self):
        """Another Sampler that has read and was edited the same, and goes on apart."""
        other = Sampler(self._model, self._flips)
        other._coins = self._coins
        other._edits = self._edits
        other._touched = self._touched
        return other
