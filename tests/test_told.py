"""Point 2: the checkers, asked of what the functions of the package told, also with a few parts changed."""

import unittest

from betstall.beside import beside, layers_beside
from betstall.between import between, right_between
from betstall.books import gains_of, right_loss
from betstall.causepaper import right_cause
from betstall.causes import cause_of
from betstall.daying import judged_days
from betstall.deeds import done
from betstall.idle import idle_in, without_idle
from betstall.judging import judged
from betstall.layers import right_layers
from betstall.led import led_house, led_weighing
from betstall.lowpaper import right_low
from betstall.news import carried
from betstall.prices import high_of, low_of
from betstall.stands import first_stand, is_stand, worst_of
from betstall.tight import tightened
from betstall.twodays import gains_over, joined, right_days

from tests.halls import stand_right
from tests.helpers import (Maker, between_right, cause_right, check_checker, days_right, even, layers_right, losing,
                           low_right, variants)

HOUSE = ("ab", ())


def on(saying, given=("yes",)):
    return ((((1, 1), saying),), given)


ON_A = on(("a",))
A_BY_B = on(("a",), ("b",))
FAIR = ((on(("a", "b", "and")), (1, 4)), (A_BY_B, (1, 3)))
UNFAIR = ((A_BY_B, (2, 3)), (on(("a", "not"), ("b",)), (1, 2)))
CELLS = (("b",), ("b", "not"))
LISTS = (((on(("a", "not")), (1, 2)),), ())
TODAY = ((A_BY_B, (2, 3)),)
SALE = ((on(("a", "not"), ("b",)), (1, 2)),)
START = first_stand(HOUSE, ((3, 1), (5, 2)))
DEALT = done(START, ("deal", 0, 1, A_BY_B, (1, 3), (2, 1)))
POSTED = done(DEALT[1], ("post", 1, FAIR))


def told_things():
    """What the functions tell of these lists."""
    return [judged(HOUSE, FAIR), judged(HOUSE, UNFAIR), low_of(HOUSE, FAIR, A_BY_B), high_of(HOUSE, FAIR, A_BY_B),
            low_of(HOUSE, FAIR, ON_A), low_of(HOUSE, (), A_BY_B), tightened(HOUSE, FAIR), idle_in(HOUSE, FAIR),
            without_idle(HOUSE, FAIR), cause_of(HOUSE, UNFAIR), carried(HOUSE, FAIR, ("b",)),
            judged_days(HOUSE, TODAY, CELLS, LISTS), judged_days(HOUSE, FAIR, CELLS, ((), ())),
            joined(HOUSE, TODAY, CELLS, LISTS), gains_of(HOUSE, FAIR, ((1, 1), (1, 2))),
            gains_over(HOUSE, TODAY, CELLS, LISTS, ((1, 1),), (((1, 1),), ())), even(HOUSE), (even(HOUSE),),
            between(HOUSE, TODAY, SALE), between(HOUSE, FAIR, ()), beside(HOUSE, ("c", ())),
            layers_beside(HOUSE, (even(HOUSE),), ("c", ()), (even(("c", ())),)), led_house(HOUSE, "ba"),
            led_weighing(HOUSE, even(HOUSE), "ba"), START, DEALT, POSTED, done(POSTED[1], ("hear", ("b",))),
            done(POSTED[1], ("hear", ("a",))), worst_of(DEALT[1], 0)]


def parts(thing):
    """A thing and, where it is a row, all that it holds two steps deep."""
    told = [thing]
    for part in thing if isinstance(thing, tuple) else ():
        told.append(part)
        told += list(part) if isinstance(part, tuple) else []
    return told


class TestTold(unittest.TestCase):

    def check(self, checker, right, own):
        """A checker is asked of all that was told, and of its own things with up to three changes."""
        maker = Maker(110)
        others = [part for thing in told_things() for part in parts(thing)]
        for thing in own:
            self.assertIs(checker(thing), True)
            for turn in range(150):
                changed = thing
                for again in range(maker.dice.randint(2, 3)):
                    changed = maker.dice.choice(variants(changed)) if isinstance(changed, tuple) else changed
                others.append(changed)
        check_checker(self, checker, right, others)

    def test_right_loss(self):
        self.check(lambda thing: right_loss(HOUSE, UNFAIR, thing), lambda thing: losing(HOUSE, UNFAIR, thing),
                   [judged(HOUSE, UNFAIR)[1]])

    def test_right_layers(self):
        self.check(lambda thing: right_layers(HOUSE, FAIR, thing), lambda thing: layers_right(HOUSE, FAIR, thing),
                   [judged(HOUSE, FAIR)[1], low_of(HOUSE, FAIR, ON_A)[1]])

    def test_right_low(self):
        for bet in (A_BY_B, ON_A):
            self.check(lambda thing: right_low(HOUSE, FAIR, bet, thing),
                       lambda thing: low_right(HOUSE, FAIR, bet, thing), [low_of(HOUSE, FAIR, bet)])

    def test_right_cause(self):
        self.check(lambda thing: right_cause(HOUSE, UNFAIR, thing), lambda thing: cause_right(HOUSE, UNFAIR, thing),
                   [cause_of(HOUSE, UNFAIR)])

    def test_right_days(self):
        kind, days = judged_days(HOUSE, TODAY, CELLS, LISTS)
        self.assertEqual(kind, "loss")
        self.check(lambda thing: right_days(HOUSE, TODAY, CELLS, LISTS, thing),
                   lambda thing: days_right(HOUSE, TODAY, CELLS, LISTS, thing), [days])

    def test_right_between(self):
        kind, stakes = between(HOUSE, TODAY, SALE)
        self.assertEqual(kind, "gain")
        self.check(lambda thing: right_between(HOUSE, TODAY, SALE, thing),
                   lambda thing: between_right(HOUSE, TODAY, SALE, thing), [stakes])

    def test_is_stand(self):
        self.check(is_stand, stand_right, [START, DEALT[1]])


if __name__ == "__main__":
    unittest.main()
