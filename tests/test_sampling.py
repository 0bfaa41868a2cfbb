"""Promise 12.1, with 0.2 to 0.5: Samplers, coin by coin and edit by edit."""

import random
import unittest

from asifforever.errors import NoEdit, NoEnds, NoFlips, NoRenewal, NothingDone, NotRising, TooMany
from asifforever.models import Model, sets_apart, spins, stacks
from asifforever.rising import drawn_picture
from asifforever.sampling import Sampler
from byhand import (
    RISING, any_coins, any_rising, ends_by_hand, is_coin_by_hand, pair_led_by_hand, rises_by_hand)
from things import MODEL, any_ties, odd_things, with_one_changed

EVEN = sets_apart(2, ((0, 1),), 1)
TURN = (False, True)
ONES = ((1, 1), (1, 1))
ZERO = (0, 1)
HALF = (1, 2)
APART = ((1, 1), (1, 0))


def seen(sampler):
    """All that a Sampler tells."""
    return (sampler.picture(), sampler.pair(), sampler.coins(), sampler.model(), sampler.touched(), sampler.led_again())


class Hand:
    """A Sampler worked out by hand: the models so far, and the lots of the places that were edited."""

    def __init__(self, model, flips):
        self.flips = flips
        self.coins = ()
        self.models = [model]
        self.edits = []
        self.touched = ()

    def copy(self):
        other = Hand(None, self.flips)
        other.coins, other.touched = self.coins, self.touched
        other.models, other.edits = list(self.models), list(self.edits)
        return other

    def seen(self):
        both = ends_by_hand(self.models[-1], self.flips)
        for coin in reversed(self.coins):
            both = pair_led_by_hand(self.models[-1], both, coin)
        again = 0
        done = list(reversed(self.coins))
        for at, (place, _) in enumerate(done):
            if place in self.touched:
                again = len(done) - at
                break
        return (both[0] if both[0] == both[1] else None, both, self.coins, self.models[-1], self.touched, again)

    def edit(self, model, places):
        """Whether the model may be edited so, and the edit if it may."""
        if model is None or not ends_by_hand(model, self.flips) or not rises_by_hand(model, self.flips):
            return False
        self.models.append(model)
        self.edits.append(places)
        self.touched = places
        return True

    def undo(self):
        if not self.edits:
            return False
        self.models.pop()
        self.touched = self.edits.pop()
        return True


def made(*arguments):
    """A Model, None if they make none."""
    try:
        return Model(*arguments)
    except ValueError:
        return None


def weighed_by_hand(model, place, weights):
    """The model with other weights at a place, None if they make none."""
    rows = list(model.weights)
    rows[place] = weights
    return made(model.many, model.levels, tuple(rows), model.ties)


def tied_by_hand(model, one, other, table):
    """The model with this tie, None if it makes none."""
    ties = {(low, high): rows for low, high, rows in model.ties}
    ties[one, other] = table
    return made(model.many, model.levels, model.weights, tuple((*places, ties[places]) for places in sorted(ties)))


class MadeTest(unittest.TestCase):
    def test_told_ones(self):
        sampler = Sampler(EVEN, TURN)
        self.assertEqual(seen(sampler), (None, ((0, 1), (1, 0)), (), EVEN, (), 0))
        self.assertIsNone(sampler.read((0, ZERO)))
        self.assertEqual(seen(sampler), (None, ((0, 1), (0, 0)), ((0, ZERO),), EVEN, (), 0))
        self.assertIsNone(sampler.read((1, ZERO)))
        self.assertEqual(seen(sampler), ((0, 0), ((0, 0), (0, 0)), ((0, ZERO), (1, ZERO)), EVEN, (), 0))
        level = Sampler(Model(2, 1, ((3,), (1,)), ()), (True, False))
        self.assertEqual((level.picture(), level.pair()), ((0, 0), ((0, 0), (0, 0))))

    def test_no_flips_not_rising_no_ends(self):
        for flips in odd_things() + [(0, 1), (True,), [True, False], (True, False, True)]:
            if not (type(flips) is tuple and [type(flip) for flip in flips] == [bool, bool]):
                self.assertRaises(NoFlips, Sampler, EVEN, flips)
        self.assertRaises(NotRising, Sampler, EVEN, (False, False))
        self.assertRaises(NotRising, Sampler, EVEN, (True, True))
        self.assertRaises(NoEnds, Sampler, Model(1, 2, ((0, 1),), ()), (False,))
        self.assertRaises(NoEnds, Sampler, Model(1, 2, ((1, 0),), ()), (True,))
        self.assertRaises(NoFlips, Sampler, Model(1, 2, ((1, 0),), ()), (0,))


class ReadTest(unittest.TestCase):
    def test_no_renewal(self):
        sampler = Sampler(EVEN, TURN)
        sampler.read((0, ZERO))
        sampler.weigh(0, (1, 2))
        ahead = seen(sampler)
        for coin in odd_things() + list(with_one_changed((0, HALF), odd_things())) + [
                (2, ZERO), (-1, ZERO), (0, (1, 1)), (0, (2, 4)), [0, ZERO], (0,), (0, ZERO, 0), (True, ZERO), "0@0"]:
            if not is_coin_by_hand(EVEN, coin):
                self.assertRaises(NoRenewal, sampler.read, coin)
                self.assertEqual(seen(sampler), ahead)

    def test_too_many(self):
        sampler = Sampler(EVEN, TURN)
        for _ in range(399):
            sampler.read((1, HALF))
        sampler.read((0, ZERO))
        self.assertEqual(len(sampler.coins()), 400)
        self.assertEqual(sampler.picture(), (0, 1))
        ahead = seen(sampler)
        with self.assertRaises(TooMany) as found:
            sampler.read((1, HALF))
        self.assertEqual(found.exception.most, 400)
        self.assertRaises(NoRenewal, sampler.read, (2, HALF))
        self.assertEqual(seen(sampler), ahead)
        sampler.weigh(0, (3, 1))
        self.assertEqual(sampler.led_again(), 400)
        sampler.weigh(1, (3, 1))
        self.assertEqual(sampler.led_again(), 399)
        other = sampler.copy()
        self.assertRaises(TooMany, other.read, (1, HALF))


class EditTest(unittest.TestCase):
    def test_weigh(self):
        sampler = Sampler(EVEN, TURN)
        for coin in ((0, HALF), (1, (1, 4)), (0, ZERO)):
            sampler.read(coin)
        self.assertIsNone(sampler.weigh(0, (3, 1)))
        self.assertEqual(sampler.model(), Model(2, 2, ((3, 1), (1, 1)), EVEN.ties))
        self.assertEqual((sampler.touched(), sampler.led_again()), ((0,), 3))
        sampler.weigh(1, (1, 7))
        self.assertEqual(sampler.model(), Model(2, 2, ((3, 1), (1, 7)), EVEN.ties))
        self.assertEqual((sampler.touched(), sampler.led_again()), ((1,), 2))
        self.assertEqual(sampler.coins(), ((0, HALF), (1, (1, 4)), (0, ZERO)))
        self.assertEqual(sampler.pair(), drawn_picture(sampler.model(), TURN, sampler.coins(), "one")[1] if (
            sampler.picture() is None) else (sampler.picture(),) * 2)
        # What changes nothing is an edit, too.
        sampler.weigh(1, (1, 7))
        sampler.undo()
        self.assertEqual(sampler.model().weights, ((3, 1), (1, 7)))

    def test_tie(self):
        sampler = Sampler(Model(4, 2, ((1, 1),) * 4, ()), (False,) * 4)
        alike, other = ((2, 1), (1, 2)), ((1, 0), (1, 1))
        self.assertIsNone(sampler.tie(1, 3, alike))
        self.assertEqual(sampler.model().ties, ((1, 3, alike),))
        self.assertEqual((sampler.touched(), sampler.led_again()), ((1, 3), 0))
        sampler.tie(0, 2, other)
        sampler.tie(2, 3, alike)
        sampler.tie(1, 2, alike)
        self.assertEqual(sampler.model().ties, ((0, 2, other), (1, 2, alike), (1, 3, alike), (2, 3, alike)))
        # In the place of an elder one.
        sampler.tie(1, 2, other)
        self.assertEqual(sampler.model().ties, ((0, 2, other), (1, 2, other), (1, 3, alike), (2, 3, alike)))
        self.assertEqual(sampler.touched(), (1, 2))
        for coin in ((0, HALF), (1, HALF), (3, HALF), (2, HALF), (0, ZERO), (3, ZERO)):
            sampler.read(coin)
        self.assertEqual(sampler.led_again(), 4)
        sampler.tie(0, 3, ONES)
        self.assertEqual(sampler.led_again(), 6)
        sampler.tie(0, 1, ONES)
        self.assertEqual(sampler.led_again(), 5)

    def test_no_edit_by_weigh(self):
        model = Model(3, 2, ((1, 1),) * 3, ((0, 1, APART),))
        sampler = Sampler(model, (False, True, False))
        sampler.read((0, HALF))
        sampler.weigh(2, (1, 5))
        ahead = seen(sampler)
        for place in odd_things() + [3, 4, -1, "0", (0,), [0], True]:
            self.assertRaises(NoEdit, sampler.weigh, place, (1, 1))
        for weights in odd_things() + list(with_one_changed((1, 1), odd_things())) + [
                (), (1,), (1, 1, 1), [1, 1], (1, -1), (1, 1001), (1, True), "11", None, ((1, 1),)]:
            if not (type(weights) is tuple and weights in ((2, 2),)):
                self.assertRaises(NoEdit, sampler.weigh, 0, weights)
        # Ends that do not fit: 0 at place 0 below, 1 above.
        for place in (0, 1, 2):
            for weights in ((0, 1), (1, 0), (0, 0)):
                self.assertRaises(NoEdit, sampler.weigh, place, weights)
        self.assertEqual(seen(sampler), ahead)
        sampler.weigh(0, (1, 1000))
        self.assertEqual(sampler.model().weights, ((1, 1000), (1, 1), (1, 5)))

    def test_no_edit_by_tie(self):
        many = 6
        ties = tuple((0, other, ONES) for other in (1, 2, 3, 4))
        sampler = Sampler(Model(many, 2, ((1, 1),) * many, ties), (False,) * many)
        sampler.read((0, HALF))
        sampler.tie(0, 4, ((1, 1), (1, 2)))
        ahead = seen(sampler)
        for one, other in (
                (1, 0), (2, 2), (4, 6), (-1, 2), (6, 7), (True, 2), (0, True), (None, 2), (1, None), ("1", "2"),
                (1, (2,)), ([1], 2), (5, 4), (0, 0)):
            self.assertRaises(NoEdit, sampler.tie, one, other, ONES)
        for thing in odd_things():
            self.assertRaises(NoEdit, sampler.tie, thing, 2, ONES)
            self.assertRaises(NoEdit, sampler.tie, 1, thing, ONES)
            self.assertRaises(NoEdit, sampler.tie, 1, 2, thing)
            self.assertRaises(NoEdit, sampler.tie, thing, thing, thing)
        for table in list(with_one_changed(ONES, odd_things())) + [
                [(1, 1), (1, 1)], ((1, 1),), ((1, 1),) * 3, ((1, 1), (1,)), ((1, 1), (1, 1, 1)), ((1, 1), [1, 1]),
                ((1, 1), (1, 1001)), ((1, 1), (1, -1)), ((1, 1), (1, True)), None, (1, 1, 1, 1)]:
            if made(2, 2, ONES, ((0, 1, table),)) is None:
                self.assertRaises(NoEdit, sampler.tie, 1, 2, table)
        # A fifth tie at place 0.
        self.assertRaises(NoEdit, sampler.tie, 0, 5, ONES)
        # It would not rise, or an end would not fit.
        self.assertRaises(NoEdit, sampler.tie, 1, 2, ((1, 2), (2, 1)))
        self.assertRaises(NoEdit, sampler.tie, 1, 2, ((0, 0), (0, 1)))
        self.assertRaises(NoEdit, sampler.tie, 1, 2, ((1, 0), (0, 0)))
        self.assertEqual(seen(sampler), ahead)
        sampler.tie(0, 4, ONES)
        sampler.tie(1, 2, ONES)
        self.assertEqual(len(sampler.model().ties), 5)

    def test_an_edit_beside_one_that_makes_it_fit(self):
        # Ends fit by all weights and ties together, so one by one they are judged as the model is now.
        sampler = Sampler(spins(2, ((0, 1),), 2, 1), (False, False))
        self.assertRaises(NoEdit, sampler.tie, 0, 1, ((1, 2), (2, 1)))
        sampler.tie(0, 1, ((1, 0), (0, 1)))
        sampler.tie(0, 1, ((7, 0), (0, 1)))
        self.assertEqual(sampler.model().ties, ((0, 1, ((7, 0), (0, 1))),))


class UndoTest(unittest.TestCase):
    def test_nothing_done(self):
        sampler = Sampler(EVEN, TURN)
        self.assertRaises(NothingDone, sampler.undo)
        sampler.read((0, ZERO))
        self.assertRaises(NothingDone, sampler.undo)
        self.assertRaises(NoEdit, sampler.weigh, 0, (0, 1))
        self.assertRaises(NothingDone, sampler.undo)
        self.assertEqual(seen(sampler), (None, ((0, 1), (0, 0)), ((0, ZERO),), EVEN, (), 0))

    def test_back_to_the_first_model(self):
        sampler = Sampler(EVEN, TURN)
        sampler.weigh(0, (1, 2))
        sampler.tie(0, 1, ((3, 1), (1, 0)))
        sampler.read((1, HALF))
        sampler.weigh(1, (5, 1))
        models = [Model(2, 2, ((1, 2), (1, 1)), ((0, 1, ((3, 1), (1, 0))),)), Model(2, 2, ((1, 2), (1, 1)), EVEN.ties)]
        self.assertIsNone(sampler.undo())
        self.assertEqual((sampler.model(), sampler.touched(), sampler.led_again()), (models[0], (1,), 1))
        sampler.undo()
        self.assertEqual((sampler.model(), sampler.touched(), sampler.led_again()), (models[1], (0, 1), 1))
        sampler.undo()
        self.assertEqual((sampler.model(), sampler.touched(), sampler.led_again()), (EVEN, (0,), 0))
        ahead = seen(sampler)
        self.assertRaises(NothingDone, sampler.undo)
        self.assertEqual(seen(sampler), ahead)
        self.assertEqual(sampler.coins(), ((1, HALF),))
        # An undo is not taken back, but an edit behind it is.
        sampler.weigh(1, (2, 1))
        sampler.undo()
        self.assertRaises(NothingDone, sampler.undo)


class TurnsTest(unittest.TestCase):
    def change(self, chance, sampler, hand):
        """Something is done to a Sampler and by hand."""
        model = hand.models[-1]
        word = chance.choice(("read", "read", "read", "weigh", "weigh", "tie", "tie", "undo"))
        if word == "read":
            coin = any_coins(chance, model, 1)[0]
            sampler.read(coin)
            hand.coins += (coin,)
        elif word == "undo":
            if hand.undo():
                sampler.undo()
            else:
                self.assertRaises(NothingDone, sampler.undo)
        else:
            if word == "weigh":
                place = chance.randrange(model.many)
                things = (place, tuple(chance.randint(0, 3) for _ in range(model.levels)))
                other, places = weighed_by_hand(model, *things), (place,)
            else:
                places = tuple(chance.randrange(model.many) for _ in range(2))
                table = chance.choice(RISING[model.levels])
                if hand.flips[places[0]] != hand.flips[places[1]]:
                    table = table[::-1]
                things = (*places, table)
                other = tied_by_hand(model, *things)
            if hand.edit(other, places):
                getattr(sampler, word)(*things)
            else:
                self.assertRaises(NoEdit, getattr(sampler, word), *things)
            self.counted[word, other is hand.models[-1]] = self.counted.get((word, other is hand.models[-1]), 0) + 1

    def test_samplers_and_their_copies_by_turns(self):
        chance = random.Random(271)
        self.counted = {}
        for _ in range(25):
            model, flips = any_rising(chance, chance.randint(1, 5), chance.randint(1, 3), 3)
            both = [(Sampler(model, flips), Hand(model, flips))]
            for _ in range(30):
                if chance.random() < 0.08:
                    sampler, hand = chance.choice(both)
                    both.append((sampler.copy(), hand.copy()))
                self.change(chance, *chance.choice(both))
                for sampler, hand in both:
                    self.assertEqual(seen(sampler), hand.seen())
            for sampler, hand in both:
                while hand.undo():
                    sampler.undo()
                    self.assertEqual(seen(sampler), hand.seen())
                self.assertEqual(sampler.model(), model)
                self.assertRaises(NothingDone, sampler.undo)
        self.assertEqual(len(self.counted), 4)
        self.assertGreater(min(self.counted.values()), 20)

    def test_the_sixteenth_step(self):
        chance = random.Random(272)
        fewer = 0
        for _ in range(60):
            model, flips = any_rising(chance, chance.randint(2, 5), 2, 4)
            sampler = Sampler(model, flips)
            for coin in any_coins(chance, model, 8):
                sampler.read(coin)
            place = chance.randrange(model.many)
            sampler.weigh(place, (chance.randint(1, 9), chance.randint(1, 9)))
            again = sampler.led_again()
            fewer += again < 8
            both = ends_by_hand(model, flips)
            for coin in sampler.coins()[again:][::-1]:
                self.assertEqual(pair_led_by_hand(model, both, coin), pair_led_by_hand(sampler.model(), both, coin))
                both = pair_led_by_hand(model, both, coin)
            for coin in sampler.coins()[:again][::-1]:
                both = pair_led_by_hand(sampler.model(), both, coin)
            self.assertEqual(sampler.pair(), both)
            word, thing, _ = drawn_picture(sampler.model(), flips, sampler.coins(), "one")
            self.assertEqual(sampler.picture(), thing if word == "told" else None)
            if word == "undecided":
                self.assertEqual(sampler.pair(), thing)
        self.assertGreater(fewer, 10)

    def test_twelve_places(self):
        chance = random.Random(273)
        sampler = Sampler(stacks(3, 4, 3), (False,) * 12)
        for coin in any_coins(chance, sampler.model(), 30):
            sampler.read(coin)
        for place, _, _ in any_ties(chance, 12, 2, 5, (1,)):
            sampler.weigh(place, (1, 2, 3, 4))
            both = ends_by_hand(sampler.model(), (False,) * 12)
            for coin in sampler.coins()[::-1]:
                both = pair_led_by_hand(sampler.model(), both, coin)
            self.assertEqual(sampler.pair(), both)

    def test_what_is_told_is_no_part_of_it(self):
        sampler = Sampler(EVEN, TURN)
        sampler.read((0, ZERO))
        coins, model = sampler.coins(), sampler.model()
        sampler.read((1, ZERO))
        sampler.weigh(0, (1, 2))
        self.assertEqual((coins, model), (((0, ZERO),), EVEN))
        self.assertNotEqual(sampler, EVEN)
        self.assertEqual(MODEL.many, 2)


if __name__ == "__main__":
    unittest.main()
