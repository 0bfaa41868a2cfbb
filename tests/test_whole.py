"""Promises 0.1 to 0.5 over the whole program: every function and method of the interface, called and called again."""

import sys
import unittest
from importlib import import_module

from asifforever import errors
from asifforever.desk import Desk
from asifforever.distances import depth_within, distance, far_apart, far_from_steady
from asifforever.drawing import Drawer, drawer_of, drawer_text, drawn, is_drawn
from asifforever.merging import bias, merging_row, undecided
from asifforever.models import Model, fitting, sets_apart, spins, stacks
from asifforever.modeltexts import model_text, read_model
from asifforever.renewals import cells, renewed, system_of
from asifforever.rising import drawn_picture, ends_of, flips_for, is_below, is_drawn_picture
from asifforever.sampling import Sampler
from asifforever.steady import by_trees, is_steady, rounds_of, steady_spreads
from asifforever.systems import System, is_spread, led, read_system, spread_behind, steps, system_text
from asifforever.tables import held_at, joint, likeliest, share_of_picture, shares_at, total
from byhand import cells_by_hand
from test_form import INTERFACE, METHODS
from things import MODEL, TWO, long_system, nested, odd_things, with_one_changed

EVEN = sets_apart(2, ((0, 1),), 1)
LINE = System(3, (((1, 2), (1, 2, 2)), ((1, 2), (0, 0, 1))))
ORDER = ((0, 1), (0, 2), (1, 2))
HALF = ((1, 2), (1, 2))
TURN = (False, True)
DOWN = ((0, (0, 1)), (1, (0, 1)))
TEXT = "places 2\nlevels 2\nweights 1 1\nweights 1 1\ntie 0 1: 1 1 | 1 0\n"

# Each function with what is passed, and for each argument the errors that are named for it: None for one that is not
# judged, () for one that is judged without an error.
NO_PLAN = (errors.NoCoins, errors.NoPlan)
CALLS = {
    "systems.led": ((TWO, (0, 1), 1), (None, errors.NoRow, errors.NoState)),
    "systems.led_all": ((TWO, (0, 1)), (None, errors.NoRow)),
    "systems.lot_behind": ((TWO, (0, 1)), (None, errors.NoRow)),
    "systems.share_of": ((TWO, (0, 1)), (None, errors.NoRow)),
    "systems.is_spread": ((2, HALF), (None, ())),
    "systems.spread_behind": ((TWO, HALF, 2), (None, errors.NoSpread, errors.NoNumber)),
    "systems.steps": ((TWO,), (None,)),
    "systems.system_text": ((TWO,), (None,)),
    "systems.read_system": (("states 1\n1: 0\n",), ((errors.BadLine, errors.BadSystem),)),
    "steady.closed_lots": ((TWO,), (None,)),
    "steady.rounds_of": ((TWO, (0, 1)), (None, errors.NoLot)),
    "steady.steady_spreads": ((TWO,), (None,)),
    "steady.is_steady": ((TWO, HALF), (None, ())),
    "steady.tree_weight": ((TWO, 1), (None, errors.NoState)),
    "steady.by_trees": ((TWO,), (None,)),
    "merging.merging_row": ((TWO,), (None,)),
    "merging.is_book": ((TWO, ((0, 1),)), (None, ())),
    "merging.apart": ((TWO,), (None,)),
    "merging.lots_behind": ((TWO, 2), (None, errors.NoNumber)),
    "merging.told_shares": ((TWO, 2), (None, errors.NoNumber)),
    "merging.undecided": ((TWO, 2), (None, errors.NoNumber)),
    "merging.hasty": ((TWO, 2), (None, errors.NoNumber)),
    "merging.bias": ((TWO, 2), (None, errors.NoNumber)),
    "merging.depth_for": ((TWO, (1, 2)), (None, errors.NoShare)),
    "drawing.drawn": ((TWO, (0, 1), "one"), (None, errors.NoCoins, errors.NoPlan)),
    "drawing.Drawer": ((TWO,), (None,)),
    "drawing.drawer_text": ((Drawer(TWO),), (None,)),
    "drawing.drawer_of": ((TWO, "0 1\n"), (None, errors.BadCoin)),
    "drawing.is_drawn": ((TWO, (1, (0, 1))), (None, ())),
    "once.once": ((TWO, 1, (1, 0, 1)), (None, errors.NoLength, errors.NoRow)),
    "once.once_shares": ((TWO, 1, 2), (None, errors.NoLength, errors.NoNumber)),
    "bits.move_by_bits": ((TWO, (0, 0, 1)), (None, errors.NoBits)),
    "bits.told_by_bits": ((TWO, 3), (None, errors.NoNumber)),
    "bits.open_by_bits": ((TWO, 3), (None, errors.NoNumber)),
    "bits.drawn_by_bits": ((TWO, (0, 0, 1), "one"), (None, errors.NoBits, errors.NoPlan)),
    "orders.is_order": ((LINE, ORDER), (None, ())),
    "orders.breaking": ((LINE, ORDER), (None, errors.NoOrder)),
    "orders.ends": ((LINE, ORDER), (None, errors.NoOrder)),
    "orders.least_order": ((LINE, 0, 2), (None, (errors.NoState, errors.NoEnds), (errors.NoState, errors.NoEnds))),
    "orders.merging_by_ends": ((LINE, ORDER), (None, (errors.NoOrder, errors.NotKept, errors.NoEnds))),
    "orders.drawn_by_ends": (
        (LINE, ORDER, (0, 0), "one"), (None, (errors.NoOrder, errors.NotKept, errors.NoEnds), *NO_PLAN)),
    "models.Model": (
        (2, 2, ((1, 1), (1, 1)), ((0, 1, ((1, 1), (1, 0))),)), (errors.BadModel,) * 4),
    "models.weight": ((EVEN, (0, 1)), (None, errors.NoPicture)),
    "models.fitting": ((EVEN,), (None,)),
    "models.spins": (
        (2, ((0, 1),), 2, 1), ((errors.BadModel, errors.NoPairs), errors.NoPairs, errors.BadModel, errors.BadModel)),
    "models.sets_apart": ((2, ((0, 1),), 1), ((errors.BadModel, errors.NoPairs), errors.NoPairs, errors.BadModel)),
    "models.colourings": ((2, ((0, 1),), 3), ((errors.BadModel, errors.NoPairs), errors.NoPairs, errors.BadModel)),
    "models.stacks": ((2, 2, 1), (errors.NoSizes,) * 3),
    "systems.System": ((2, (((1, 3), (1, 0)), ((2, 3), (0, 0)))), (errors.BadSystem,) * 2),
    "renewals.local_shares": ((EVEN, (0, 1), 0), (None, errors.NoPicture, errors.NoPlace)),
    "renewals.renewed": ((EVEN, (0, 1), (1, (1, 2))), (None, errors.NoPicture, errors.NoRenewal)),
    "renewals.cells": ((EVEN, 0), (None, errors.NoPlace)),
    "renewals.system_of": ((EVEN,), (None,)),
    "rising.is_below": ((EVEN, TURN, (0, 1), (1, 0)), (None, errors.NoFlips, errors.NoPicture, errors.NoPicture)),
    "rising.rises": ((EVEN, TURN), (None, errors.NoFlips)),
    "rising.flips_for": ((EVEN,), (None,)),
    "rising.ends_of": ((EVEN, TURN), (None, (errors.NoFlips, errors.NoEnds))),
    "rising.drawn_picture": ((EVEN, TURN, DOWN, "one"), (None, (errors.NoFlips, errors.NotRising), *NO_PLAN)),
    "rising.is_drawn_picture": ((EVEN, TURN, ((0, 0), DOWN)), (None, (errors.NoFlips, errors.NotRising), ())),
    "covers.covered": ((EVEN, ((0, 1), (0,)), DOWN[0]), (None, errors.NoCover, errors.NoRenewal)),
    "covers.drawn_by_cover": ((EVEN, DOWN, "double"), (None, *NO_PLAN)),
    "tables.total": ((EVEN,), (None,)),
    "tables.total_by": ((EVEN, (1, 0)), (None, errors.NoOrdering)),
    "tables.share_of_picture": ((EVEN, (0, 1)), (None, errors.NoPicture)),
    "tables.shares_at": ((EVEN, 0), (None, errors.NoPlace)),
    "tables.joint": ((EVEN, (0, 1)), (None, errors.NoPlaces)),
    "tables.likeliest": ((EVEN,), (None,)),
    "tables.held_at": ((EVEN, 0, 1), (None, errors.NoPlace, errors.NoValue)),
    "distances.distance": ((2, HALF, HALF), (None, errors.NoSpread, errors.NoSpread)),
    "distances.far_apart": ((TWO, 3), (None, errors.NoNumber)),
    "distances.far_from_steady": ((TWO, 3), (None, errors.NoNumber)),
    "distances.settles": ((TWO,), (None,)),
    "distances.depth_within": ((TWO, (1, 9)), (None, errors.NoShare)),
    "sampling.Sampler": ((EVEN, TURN), (None, (errors.NoFlips, errors.NotRising))),
    "modeltexts.model_text": ((EVEN,), (None,)),
    "modeltexts.read_model": ((TEXT,), ((errors.BadLine, errors.BadModel),)),
    "desk.Desk": ((), ()),
}


def function_of(name):
    """The function or class of a name like systems.led."""
    module, _, word = name.partition(".")
    return getattr(import_module("asifforever." + module), word)


def told(thing):
    """What can be compared of an answer: what live objects tell instead of them."""
    if isinstance(thing, Drawer):
        return (thing.state(), thing.depth(), thing.lot(), thing.coins())
    if isinstance(thing, Sampler):
        return (thing.pair(), thing.coins(), thing.model(), thing.touched())
    return "a desk" if isinstance(thing, Desk) else thing


def spoil(thing):
    """Changes a list or a dict that was returned, whatever is in it."""
    if isinstance(thing, (list, dict)):
        thing.clear()


def parts_of(thing):
    """The attributes of a System or a Model."""
    return dict(vars(thing)) if isinstance(thing, (System, Model)) else thing


class WholeTest(unittest.TestCase):
    def test_the_table_has_all_of_the_interface(self):
        names = [f"{module}.{name}" for module, words in INTERFACE.items() for name in words]
        self.assertEqual(sorted(names), sorted(CALLS))
        for name, (passed, judged) in CALLS.items():
            self.assertEqual(len(passed), len(judged), name)

    def test_equal_calls_give_equal_answers_and_new_lists(self):
        for name, (passed, _) in CALLS.items():
            with self.subTest(name):
                function = function_of(name)
                ahead = [parts_of(thing) for thing in passed]
                first = function(*passed)
                kept = told(first)
                if isinstance(kept, (list, dict)):
                    kept = type(kept)(kept)
                spoil(first)
                again = function(*passed)
                self.assertEqual(told(again), kept)
                self.assertEqual(type(again), type(first))
                # Arguments are as they were.
                self.assertEqual([parts_of(thing) for thing in passed], ahead)

    def test_judges_tell_flags(self):
        judges = [name for name in CALLS if ".is_" in name or name in ("rising.rises", "distances.settles")]
        self.assertEqual(len(judges), 9)
        for name in judges:
            self.assertIn(function_of(name)(*CALLS[name][0]), (True, False))

    def test_each_judged_argument_may_be_anything(self):
        things = odd_things()
        for name, (passed, judged) in CALLS.items():
            function = function_of(name)
            for at, named in enumerate(judged):
                if named is None:
                    continue
                others = list(things)
                if isinstance(passed[at], tuple):
                    others += list(with_one_changed(passed[at], things))
                for thing in others:
                    try:
                        found = function(*passed[:at], thing, *passed[at + 1:])
                    except named as wrong:
                        self.assertIsInstance(wrong, errors.DrawError)
                        continue
                    if named == ():
                        self.assertIn(found, (True, False), name)

    def test_methods_may_be_passed_anything(self):
        drawer, sampler, desk = Drawer(TWO), Sampler(EVEN, TURN), Desk()
        desk.tell("apart m 2 1 0-1")
        ahead = [told(drawer), told(sampler)]
        for thing in odd_things():
            self.assertRaises(errors.NoMove, drawer.read, thing)
            self.assertRaises(errors.NoRenewal, sampler.read, thing)
            self.assertRaises(errors.NoEdit, sampler.weigh, thing, (1, 1))
            self.assertRaises(errors.NoEdit, sampler.tie, thing, 1, ((1, 1), (1, 1)))
            self.assertRaises(errors.NoEdit, sampler.tie, 0, 1, thing)
            self.assertRaises(errors.NoLine, desk.tell, thing)
        self.assertEqual([told(drawer), told(sampler)], ahead)
        self.assertEqual(desk.tell("total m"), "3")

    def test_methods_of_which_nothing_is_told_return_none(self):
        sampler = Sampler(EVEN, TURN)
        self.assertEqual(
            [sampler.read(DOWN[0]), sampler.weigh(0, (1, 2)), sampler.tie(0, 1, ((1, 1), (1, 0))), sampler.undo()],
            [None] * 4)
        self.assertEqual(sorted(METHODS), [
            ("desk", "Desk"), ("drawing", "Drawer"), ("models", "Model"), ("sampling", "Sampler"),
            ("systems", "System")])

    def test_objects_are_equal_to_nothing_of_another_class(self):
        things = [TWO, EVEN, Drawer(TWO), Sampler(EVEN, TURN), Desk(), errors.NoRow(), errors.BadSystem("many"), 0, None]
        for at, one in enumerate(things):
            for behind, other in enumerate(things):
                self.assertEqual(one == other, at == behind)
                self.assertEqual(one != other, at != behind)
        self.assertEqual(System(2, TWO.moves), TWO)
        self.assertEqual(sets_apart(2, ((0, 1),), 1), EVEN)

    def test_deep_things_end_no_call(self):
        deep = [
            nested(40, lambda thing: (thing, thing) if thing == 1 else (thing, 0)), nested(40, lambda thing: (0, thing)),
            nested(40, lambda thing: ((0, 1), thing)), nested(40, lambda thing: [thing, thing]),
            nested(13, lambda thing: (thing, thing)), nested(40, lambda thing: {"a": thing, 1: ()})]
        limit = sys.getrecursionlimit()
        for name, (passed, judged) in CALLS.items():
            for at, named in enumerate(judged):
                if named is not None:
                    for thing in deep:
                        try:
                            found = function_of(name)(*passed[:at], thing, *passed[at + 1:])
                            self.assertIs(found, False, name)
                        except named:
                            pass
        self.assertEqual(sys.getrecursionlimit(), limit)

    def test_what_was_returned_may_be_passed_on(self):
        system = system_of(EVEN)
        self.assertEqual(by_trees(system), steady_spreads(system)[0])
        self.assertTrue(is_steady(system, steady_spreads(system)[0]))
        self.assertEqual(steady_spreads(system)[0], tuple(share_of_picture(EVEN, picture) for picture in fitting(EVEN)))
        self.assertTrue(is_spread(2, shares_at(EVEN, 0)))
        self.assertEqual(distance(3, by_trees(system), tuple(joint(EVEN, (0, 1)).values())), (0, 1))
        self.assertEqual(read_system(system_text(system)), system)
        self.assertEqual(read_model(model_text(held_at(EVEN, 0, 1))), held_at(EVEN, 0, 1))
        row = merging_row(system)
        self.assertEqual({led(system, row, state) for state in range(system.many)}, {led(system, row, 0)})
        word, state, many = drawn(system, row[::-1], "one")
        self.assertEqual((word, is_drawn(system, (state, row[::-1][:many]))), ("told", True))
        self.assertEqual(drawer_of(system, drawer_text(Drawer(system))).coins(), ())
        flips = flips_for(EVEN)
        low, high = ends_of(EVEN, flips)
        self.assertTrue(is_below(EVEN, flips, low, high))
        word, picture, many = drawn_picture(EVEN, flips, DOWN, "one")
        self.assertTrue(is_drawn_picture(EVEN, flips, (picture, DOWN[:many])))
        self.assertEqual(share_of_picture(EVEN, likeliest(EVEN)), (1, 3))
        for place in (0, 1):
            self.assertEqual(cells(EVEN, place), cells_by_hand(EVEN, place))
            for at, (start, _) in enumerate(cells(EVEN, place)):
                self.assertEqual(renewed(EVEN, (0, 0), (place, start))[place], at)
                sampler = Sampler(EVEN, flips)
                sampler.read((place, start))
                self.assertEqual(sampler.coins(), ((place, start),))

    def test_whatever_its_size(self):
        system = long_system()
        spread = spread_behind(system, steps(system)[0], 60)
        self.assertGreater(spread[0][1], 10 ** 1000)
        self.assertTrue(is_spread(12, spread))
        self.assertEqual(rounds_of(system, tuple(range(12))), 1)
        far = far_from_steady(system, 3)
        self.assertGreater(far[1], 10 ** 100)
        self.assertEqual(depth_within(system, far), 3)
        self.assertEqual(distance(12, spread, spread), (0, 1))
        # Shares of cells may be longer than 12 digits, and are coins all the same.
        model = spins(5, ((0, 1), (0, 2), (0, 3), (0, 4)), 997, 991)
        starts = [start for start, _ in cells(model, 0)]
        self.assertGreater(max(max(start) for start in starts), 10 ** 11)
        coins = tuple((0, start) for start in starts) + ((1, starts[1]),)
        for plan in ("one", "double"):
            self.assertEqual(drawn_picture(model, (False,) * 5, coins, plan)[0], "undecided")
        self.assertEqual(total(stacks(3, 4, 3)), 4116)
        self.assertEqual(total(Model(12, 4, ((1000,) * 4,) * 12, ())), 4000 ** 12)

    def test_the_overview(self):
        # One and the same spread: by steps, by trees, by weights of pictures; and what is told comes near to it.
        for model in (EVEN, spins(2, ((0, 1),), 2, 1), stacks(1, 2, 2), MODEL):
            if len(fitting(model)) <= 12 and sum(len(cells(model, place)) for place in range(model.many)) <= 24:
                system = system_of(model)
                shares = tuple(share_of_picture(model, picture) for picture in fitting(model))
                self.assertTrue(is_steady(system, shares))
                if merging_row(system) is not None:
                    self.assertEqual(by_trees(system), shares)
                    for top, bottom in (bias(system, 30), undecided(system, 30), far_apart(system, 30)):
                        self.assertLess(top * 10, bottom)


if __name__ == "__main__":
    unittest.main()
