"""Point 32: the class Hall."""

import copy
import unittest

from betstall import errors
from betstall.deeds import done
from betstall.hall import Hall
from betstall.stands import first_stand

from tests.halls import HallMaker, on, second_done
from tests.helpers import things

HOUSE = ("ab", ())
PURSES = ((5, 1), (5, 1), (1, 2))
ON_A = on(("a",))
ON_B = on(("b",))
DEAL = ("deal", 0, 1, ON_A, (1, 2), (2, 1))


def made(*deeds):
    hall = Hall(HOUSE, PURSES)
    for deed in deeds:
        hall.do(deed)
    return hall


class TestHall(unittest.TestCase):

    def refuse(self, name, asked, *handed):
        with self.assertRaises(errors.StallError) as caught:
            asked(*handed)
        self.assertIs(type(caught.exception), getattr(errors, name))

    def test_first(self):
        hall = Hall(HOUSE, PURSES)
        self.assertEqual(hall.stand(), first_stand(HOUSE, PURSES))
        self.assertEqual((hall.steps(), len(hall)), (0, 0))
        self.refuse("NoStep", hall.back)
        self.assertEqual(hall.stand(), first_stand(HOUSE, PURSES))

    def test_done_and_taken_back(self):
        hall = Hall(HOUSE, PURSES)
        self.assertEqual(hall.do(DEAL), 0)
        stand = hall.stand()
        self.assertEqual(stand, done(first_stand(HOUSE, PURSES), DEAL)[1])
        self.assertEqual((hall.steps(), len(hall)), (1, 1))
        self.assertEqual(hall.do(("split", 0, (1, 2))), 1)
        self.assertEqual((hall.steps(), len(hall)), (2, 2))
        self.assertEqual(hall.do(("hand", 0, 0, 1, (0, 1))), None)
        self.assertEqual((hall.steps(), len(hall)), (3, 1))
        self.assertIsNone(hall.back())
        self.assertIsNone(hall.back())
        self.assertEqual((hall.stand(), hall.steps(), len(hall)), (stand, 1, 1))
        # The number comes again.
        self.assertEqual(hall.do(("deal", 1, 0, ON_B, (1, 2), (1, 1))), 1)
        self.assertEqual(hall.stand()[4], 2)

    def test_refused(self):
        hall = made(DEAL)
        stand = hall.stand()
        for name, deed in (("NoDeed", None), ("NoDeed", ("back",)), ("NoHolder", ("post", True, ())),
                           ("NoBet", ("post", 0, None)), ("Unfair", ("post", 0, ((ON_A, (2, 1)),))),
                           ("NoStake", ("split", 0, (2, 1))), ("NoTicket", ("clear", 1)),
                           ("NoCover", ("hand", 0, 0, 2, (0, 1))), ("NoSaying", ("hear", ())),
                           ("NoWorld", ("hear", ("no",))), ("NoTicket", ("net", 0, 0))):
            self.refuse(name, hall.do, deed)
            self.assertEqual((hall.stand(), hall.steps(), len(hall)), (stand, 1, 1))
        hall.back()
        self.refuse("NoStep", hall.back)
        self.refuse("NoStep", hall.back)
        self.assertEqual(hall.do(DEAL), 0)

    def test_anything(self):
        hall = made(DEAL)
        stand = hall.stand()
        for thing in things():
            ahead = copy.deepcopy(thing)
            self.refuse("NoDeed", hall.do, thing)
            self.assertEqual(repr(thing), repr(ahead))
        self.assertEqual((hall.stand(), hall.steps()), (stand, 1))

    def test_whatever_comes(self):
        maker = HallMaker(185)
        seen = set()
        for turn in range(25):
            first = maker.stand(0)
            purses = tuple((abs(top), bottom) for top, bottom in first[1])
            hall = Hall(first[0], purses)
            stands = [first_stand(first[0], purses)]
            for again in range(20):
                if maker.dice.random() < 0.25:
                    if len(stands) == 1:
                        self.refuse("NoStep", hall.back)
                    else:
                        self.assertIsNone(hall.back())
                        stands.pop()
                else:
                    deed = maker.deed(stands[-1])
                    due = second_done(stands[-1], deed)
                    if isinstance(due, str):
                        self.refuse(due, hall.do, deed)
                        seen.add(due)
                    else:
                        self.assertEqual(repr(hall.do(deed)), repr(due[0]))
                        stands.append(due[1])
                self.assertEqual(hall.stand(), stands[-1])
                self.assertEqual((hall.steps(), len(hall)), (len(stands) - 1, len(stands[-1][2])))
            while len(stands) > 1:
                hall.back()
                stands.pop()
                self.assertEqual(hall.stand(), stands[-1])
            self.refuse("NoStep", hall.back)
        self.assertGreater(len(seen), 6)

    def test_two_share_nothing(self):
        one, other = Hall(HOUSE, PURSES), Hall(HOUSE, PURSES)
        one.do(DEAL)
        self.assertEqual((other.stand(), other.steps(), len(other)), (first_stand(HOUSE, PURSES), 0, 0))
        self.refuse("NoStep", other.back)
        other.do(("hear", ("a",)))
        other.do(("post", 0, ()))
        self.assertEqual((one.steps(), len(one), one.stand()[0]), (1, 1, HOUSE))
        one.back()
        self.assertEqual(other.steps(), 2)

    def test_its_methods_stand_in_the_class(self):
        for name in ("do", "back", "stand", "steps", "__len__", "__eq__", "__init__"):
            self.assertIn(name, vars(Hall))


class TestEqual(unittest.TestCase):

    def same(self, one, other, due):
        self.assertIs(one == other, due)
        self.assertIs(other == one, due)
        self.assertIs(one != other, not due)
        self.assertIs(other != one, not due)

    def test_by_other_ways(self):
        hall = made(DEAL)
        self.same(hall, hall, True)
        self.same(hall, made(DEAL), True)
        self.same(hall, made(), False)
        self.same(made(), made(), True)
        self.same(made(), Hall(HOUSE, ((5, 1), (5, 1))), False)
        self.same(made(), Hall(("a", ()), PURSES), False)
        longer = made(("post", 0, ((ON_A, (1, 2)),)), ("post", 0, ()), DEAL)
        self.same(hall, longer, True)
        self.assertEqual((hall.steps(), longer.steps()), (1, 3))
        longer.back()
        self.same(hall, longer, False)
        self.same(made(), longer, True)

    def test_what_was_refused_or_taken_back(self):
        hall = made(DEAL, ("hear", ("a",)))
        hall.back()
        with self.assertRaises(errors.NoTicket):
            hall.do(("clear", 7))
        self.same(hall, made(DEAL), True)

    def test_many_counts(self):
        hall = made(DEAL, ("hand", 0, 0, 1, (0, 1)))
        self.assertEqual(len(hall), 0)
        self.same(hall, made(), False)
        self.same(hall, made(DEAL, ("hand", 0, 1, 0, (0, 1))), True)

    def test_nothing_else(self):
        hall = made(DEAL)
        for thing in things() + [hall.stand(), [hall.stand()], (hall.stand(),), len(hall), object(), Hall]:
            self.same(hall, thing, False)


if __name__ == "__main__":
    unittest.main()
