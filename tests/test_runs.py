"""Point 31: runs of deeds."""

import unittest

from betstall.runs import right_run, run
from betstall.stands import first_stand, is_stand

from tests.halls import HallMaker, YES, on, second_done
from tests.helpers import check_checker, check_steady, often_changed, things, variants

HOUSE = ("ab", ())
ON_A = on(("a",))
START = first_stand(HOUSE, ((5, 1), (5, 1), (1, 2)))
DEALS = (("deal", 0, 1, ON_A, (1, 2), (2, 1)), ("split", 0, (1, 2)), ("net", 0, 0), ("post", 2, ((ON_A, (1, 4)),)),
         ("sell", 1, 2, 0, (1, 1)), ("hand", 1, 0, 2, (9, 1)), ("hear", ("b",)), ("clear", 0), ("hear", ("a",)), None)


def second_run(stand, deeds):
    tells = ()
    for deed in deeds:
        told = second_done(stand, deed)
        told, stand = (told, stand) if isinstance(told, str) else told
        tells += (told,)
    return (tells, stand)


class TestRun(unittest.TestCase):

    def test_no_deeds(self):
        self.assertEqual(run(START, ()), ((), START))
        self.assertIs(right_run(START, (), ((), START)), True)

    def test_refused_ones_among_them(self):
        tells, stand = run(START, DEALS)
        self.assertEqual(tells, (0, 1, "NoTicket", 1, 2, "NoCover", (), (3,), (2, 3), "NoDeed"))
        self.assertEqual(stand[:3], (("ab", (("b",), ("a",))), ((6, 1), (13, 4), (5, 4)), ()))
        self.assertEqual(repr((tells, stand)), repr(second_run(START, DEALS)))

    def test_a_refused_deed_leaves_the_stand(self):
        for deed in (("deal", 0, 0, ON_A, (1, 2), (1, 1)), ("deal", 0, 1, None, (1, 2), (1, 1)),
                     ("deal", 0, 1, ON_A, (1, 2), (0, 1)), ("deal", 0, 1, ON_A, (1, 2), (99, 1)), ("split", 0, (1, 1)),
                     ("post", 0, ((ON_A, (2, 1)),)), ("hear", ("c",)), ("hear", ("no",)), ["hear", YES], None):
            name = second_done(START, deed)
            self.assertIsInstance(name, str)
            self.assertEqual(run(START, (deed,) * 3), ((name,) * 3, START))
            self.assertEqual(run(START, (deed,) + DEALS)[1], run(START, DEALS)[1])

    def test_each_refusal_by_its_name(self):
        crowd = (("deal", 0, 1, ON_A, (1, 2), (1, 9)),) * 13
        self.assertEqual(run(START, crowd)[0], tuple(range(12)) + ("TooMany",))
        self.assertEqual(run(START, (("hear", YES),) * 9)[0], ((),) * 8 + ("TooMany",))
        unlike = (("deal", 0, 1, ON_A, (1, 2), (1, 1)), ("deal", 0, 1, ON_A, (1, 3), (1, 1)), ("net", 0, 1))
        self.assertEqual(run(START, unlike)[0], (0, 1, "NotAlike"))
        long = on(("a",), ("yes",) + ("not",) * 38)
        self.assertEqual(run(START, (("post", 0, ((long, (1, 4)),)), ("hear", ("a",))))[0], (1, "TooLong"))

    def test_sixty(self):
        maker = HallMaker(180)
        for turn in range(5):
            stand = maker.stand()
            deeds, here = [], stand
            while len(deeds) < 60:
                deeds.append(maker.deed(here))
                here = run(here, deeds[-1:])[1]
            told = run(stand, tuple(deeds))
            self.assertEqual(repr(told), repr(second_run(stand, deeds)))
            self.assertEqual(len(told[0]), 60)
            self.assertEqual(told[1], here)
            self.assertIs(is_stand(told[1]), True)
            self.assertIs(right_run(stand, tuple(deeds), told), True)

    def test_anything_as_deeds(self):
        deeds = tuple(things())
        for at in range(0, len(deeds), 60):
            row = deeds[at:at + 60]
            self.assertEqual(run(START, row), (("NoDeed",) * len(row), START))

    def test_asked_again(self):
        maker = HallMaker(181)
        calls = [(START, DEALS), (START, ()), (START, DEALS[:3])]
        for turn in range(8):
            stand = maker.stand()
            calls.append((stand, tuple(maker.deed(stand) for again in range(6))))
        check_steady(self, run, calls)
        check_steady(self, right_run, [call + (run(*calls[0]),) for call in calls])


class TestRightRun(unittest.TestCase):

    def check(self, stand, deeds, others=()):
        due = repr(run(stand, deeds))
        check_checker(self, lambda thing: right_run(stand, deeds, thing), lambda thing: repr(thing) == due,
                      list(others) + [run(stand, deeds)])

    def test_one_thing_another_one(self):
        deeds = DEALS[:4]
        tells, stand = run(START, deeds)
        house, purses, tickets, lists, many = stand
        self.assertEqual((tells, many), ((0, 1, "NoTicket", 1), 2))
        wrong = [((False,) + tells[1:], stand), (tells[:1] + (True,) + tells[2:], stand), (tells[:3] + (True,), stand),
                 (tells[:2] + (None,) + tells[3:], stand), (tells[:2] + ("NotAlike",) + tells[3:], stand),
                 (tells + (None,), stand), (tells[:3], stand), (tells, stand, None), (tells,), (stand, tells),
                 (list(tells), stand), [tells, stand], (tells, list(stand)), (tells, (house, list(purses)) + stand[2:]),
                 (tells, (house, ((5, 1), (5, 1), (1, 3))) + stand[2:]), (tells, stand[:4] + (3,)),
                 (tells, (house, ((5, True), (5, 1), (1, 2))) + stand[2:]), (tells, START), (("0",) + tells[1:], stand),
                 (tells, (house, purses, tickets[:1], lists, many)), (tells, (house, purses, tickets, (), many))]
        for thing in wrong:
            self.assertIs(right_run(START, deeds, thing), False, thing)
        self.assertIs(right_run(START, deeds, (tells, stand)), True)
        self.check(START, deeds, wrong)

    def test_a_name_and_none(self):
        deeds = (("deal", 0, 1, ON_A, (1, 2), (1, 1)), ("hand", 0, 0, 1, (0, 1)), ("hand", 0, 0, 1, (0, 1)))
        tells, stand = run(START, deeds)
        self.assertEqual(tells, (0, None, "NoTicket"))
        for row in ((0, "NoTicket", "NoTicket"), (0, None, None), (0, 0, "NoTicket"), (0, False, "NoTicket"),
                    (0, (), "NoTicket"), (0, "None", "NoTicket"), (0, "", "NoTicket"), (None, None, "NoTicket")):
            self.assertIs(right_run(START, deeds, (row, stand)), False)
        self.check(START, deeds, variants(tells) + [(row, stand) for row in variants(tells)])

    def test_an_empty_row_is_no_none(self):
        deeds = (("deal", 0, 1, ON_A, (1, 2), (1, 1)), ("hear", YES))
        tells, stand = run(START, deeds)
        self.assertEqual(tells, (0, ()))
        for told in (None, [], {}, "", 0, False, ((),)):
            self.assertIs(right_run(START, deeds, ((0, told), stand)), False)

    def test_anything(self):
        maker = HallMaker(182)
        for turn in range(6):
            stand = maker.stand(3)
            deeds = tuple(maker.deed(stand) for again in range(4))
            told = run(stand, deeds)
            others = [often_changed(maker.dice, told, many) for many in (1, 1, 1, 2, 3) * 30]
            others += [run(stand, deeds[:3]), run(stand, deeds[::-1]), run(told[1], deeds)]
            self.check(stand, deeds, others)

    def test_of_no_deeds(self):
        self.check(START, (), variants(((), START))[:400] + [((), ()), (START,), ((),), START])


if __name__ == "__main__":
    unittest.main()
