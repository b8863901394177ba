"""propose, accept, cut, withdraw, and -6 of reg, act, set and run: promises 15 to 18, and 0, 1, 2, 8 of offers."""

import unittest

from tests.helper import BIG, CHANGE, GREATEST, LEAST, MOST, StateCase
from tests.helper import accept, act, actions, ask, at, can, compare, counts, cut, ever, first, form, last, most, nested
from tests.helper import propose, reach, read, reg, registers, run, set_to, state, sum_of, withdraw

# x is paid from and gained to, y counts; never can't ever be done.
BOOK = [
    reg(10, "x"),
    reg(0, "y"),
    act(0, "pay", [0, LEAST, 3, 0, CHANGE, -3, 1, CHANGE, 1]),
    act(0, "gain", [0, GREATEST, 20, 0, CHANGE, 5]),
    act(0, "never", [0, LEAST, 1, 0, GREATEST, 0]),
    act(0, "free", [1, CHANGE, 1]),
    act(0, "leap", [1, CHANGE, MOST]),
]
NO_OFFER = [0, 0, 0, 0]
NO_SIDES = (-1, 2, 3, MOST, BIG, -BIG)
NO_RUNS = ("no", "2(", "?", "*(*(pay))", " " * 4097, "00(pay)", "*(free) no", "*(free", "never no")
NEVER_DONE = ("never", "4(pay)", "*(pay) pay", "never *(free)", nested(40, "pay"))
FOR_EVER = ("*(free)", "pay *(free) never", "*(pay) *(free) *(pay)")
# These can be done, but y would hold more than BIG then.
TOO_MUCH = (f"{MOST}(leap) free", nested(40, "leap"), f"*(pay) {MOST}(leap)")


def by(side, text):
    """The calls until that side has offered the run."""
    return BOOK + [propose(side, text)]


class TestPropose(StateCase):
    def test_ordinary(self):
        for side in (0, 1):
            found = ask(by(side, "2(pay)") + [state(), registers()])
            self.assertEqual(found[-3:], [[0, 2], [0, 1, side, 2], [0, 10, 0]])

    def test_no_actions(self):
        for text in ("", "0(never)", "5()", "*()", "*(never)"):
            self.assertEqual(ask(by(1, text) + [state(), accept(0), state()])[-4:],
                             [[0, 0], [0, 1, 1, 0], [0, 0, 10, 0], NO_OFFER])

    def test_stars(self):
        for text, length in (("*(pay)", 3), ("*(pay) *(gain)", 7), ("gain *(2(pay))", 5), ("*(never) free", 1)):
            self.assertEqual(ask(by(0, text) + [state()])[-2:], [[0, length], [0, 1, 0, length]])

    def test_stars_as_they_were_settled_then(self):
        self.assertEqual(last(by(0, "*(pay) *(gain)") + [accept(1)]), [0, 7, 21, 3])
        self.assertEqual(last(by(0, "*(pay) *(gain)") + [cut(1, 4)]), [0, 6, 3])
        tried = [set_to(0, 100), run("pay"), run("*(pay)"), reg(5, "z"), reach("*(pay)")]
        self.assertEqual(last(by(0, "*(pay) *(gain)") + tried + [accept(1)]), [0, 7, 21, 3])
        again = [withdraw(0), set_to(0, 31), propose(1, "*(pay)"), accept(0)]
        self.assertEqual(last(by(0, "*(pay)") + again), [0, 10, 1, 10])

    def test_a_second_one(self):
        for side in (0, 1):
            for text in ("pay", "2(pay)", "", "*(pay)"):
                self.refused(by(0, "2(pay)"), propose(side, text), -6)
                self.refused(by(1, "2(pay)"), propose(side, text), -6)

    def test_no_such_side(self):
        for side in NO_SIDES:
            for text in ("pay", "") + NO_RUNS + NEVER_DONE + FOR_EVER + TOO_MUCH:
                self.refused(BOOK, propose(side, text), -1)
            for text in ("pay", "no", "never", "*(free)") + TOO_MUCH:
                self.refused(by(0, "2(pay)"), propose(side, text), -1)

    def test_no_run(self):
        for text in NO_RUNS:
            self.refused(BOOK, propose(0, text), -2)
            self.refused(by(0, "2(pay)"), propose(0, text), -2)
            self.refused(by(0, "2(pay)"), propose(1, text), -2)

    def test_too_much(self):
        for text in TOO_MUCH:
            self.refused(BOOK, propose(0, text), -4)
            self.refused(by(0, "2(pay)"), propose(0, text), -4)
            self.refused(by(0, "2(pay)"), propose(1, text), -4)

    def test_just_not_too_much(self):
        self.assertEqual(ask(by(0, f"{MOST}(leap)") + [accept(1)])[-2:], [[0, MOST], [0, MOST, 10, BIG]])

    def test_cannot_be_done(self):
        for text in NEVER_DONE:
            self.refused(BOOK, propose(0, text), -7)
            self.refused(by(0, "2(pay)"), propose(1, text), -6)
        self.refused(BOOK, propose(0, f"{MOST}(leap) free never"), -7)
        self.refused(by(0, ""), propose(0, f"{MOST}(leap) free never"), -6)

    def test_goes_on_for_ever(self):
        for text in FOR_EVER:
            self.refused(BOOK, propose(1, text), -8)
            self.refused(by(0, "2(pay)"), propose(1, text), -6)
        self.refused(BOOK, propose(1, f"{MOST}(leap) free *(free)"), -8)

    def test_without_registers(self):
        self.assertEqual(ask([act(0, "a"), propose(0, "3(a)"), accept(1)])[1:], [[0, 3], [0, 3]])
        self.assertEqual(last([act(0, "a"), propose(0, "3(a)"), cut(1, 2)]), [0])

    def test_too_long_to_be_done(self):
        book = [reg(0, "x"), act(0, "up", [0, CHANGE, 1]), act(0, "idle")]
        length = MOST ** 40
        found = ask(book + [propose(1, nested(40, "idle")), state(), cut(0, BIG), state()])
        self.assertEqual(found[-4:], [[0, length], [0, 1, 1, length], [0, 0], NO_OFFER])
        self.assertEqual(last(book + [propose(1, nested(40, "idle")), accept(0)]), [0, length, 0])
        text = f"{MOST}({MOST - 1}(up) 7(idle))"
        length = MOST * (MOST + 6)
        self.assertEqual(last(book + [propose(0, text), accept(1)]), [0, length, MOST * (MOST - 1)])
        for k in (0, 1, MOST - 1, MOST, MOST + 6, MOST + 7, 10 ** 15, BIG):
            rounds, rest = divmod(k, MOST + 6)
            wanted = rounds * (MOST - 1) + min(rest, MOST - 1)
            self.assertEqual(last(book + [propose(0, text), cut(1, k)]), [0, wanted])


class TestAccept(StateCase):
    def test_ordinary(self):
        for side in (0, 1):
            found = ask(by(side, "gain 2(pay)") + [accept(1 - side), state(), registers()])
            self.assertEqual(found[-3:], [[0, 3, 9, 2], NO_OFFER, [0, 9, 2]])

    def test_own(self):
        self.refused(by(0, "2(pay)"), accept(0), -6)
        self.refused(by(1, "2(pay)"), accept(1), -6)

    def test_no_offer(self):
        for before in ([], BOOK, by(0, "pay") + [accept(1)], by(1, "pay") + [cut(0, 1)], by(1, "pay") + [withdraw(1)]):
            for side in (0, 1):
                self.refused(before, accept(side), -6)

    def test_no_such_side(self):
        for side in NO_SIDES:
            self.refused(BOOK, accept(side), -1)
            self.refused(by(0, "2(pay)"), accept(side), -1)
            self.refused(by(1, "2(pay)"), accept(side), -1)

    def test_what_may_be_done_then(self):
        calls = by(0, "pay") + [accept(1), reg(4, "z"), act(0, "more"), set_to(1, 9), run("gain"), propose(1, "pay"),
                                accept(0)]
        self.assertEqual(ask(calls)[-6:], [[0, 2], [0, 5], [0], [0, 1, 12, 9, 4], [0, 1], [0, 1, 9, 10, 4]])

    def test_far_on_the_way(self):
        text = f"{MOST}({MOST}(up)) {MOST}({MOST}(down)) up"
        book = [reg(0, "x"), act(0, "up", [0, CHANGE, MOST]), act(0, "down", [0, CHANGE, -MOST])]
        self.assertEqual(last(book + [propose(0, text), accept(1)]), [0, 2 * MOST ** 2 + 1, MOST])


class TestCut(StateCase):
    def test_each_action(self):
        wanted = [[10, 0], [7, 1], [4, 2], [9, 2], [6, 3], [3, 4], [8, 4]]
        for side in (0, 1):
            for k, held in enumerate(wanted):
                found = ask(by(side, "2(2(pay) gain)") + [cut(1 - side, k), state(), registers()])
                self.assertEqual(found[-3:], [[0] + held, NO_OFFER, [0] + held])

    def test_below_nought_and_beyond(self):
        for k in (-1, -7, -BIG, 7, 8, BIG):
            self.refused(by(0, "2(2(pay) gain)"), cut(1, k), -7)
            self.refused(by(1, "2(2(pay) gain)"), cut(0, k), -7)

    def test_no_actions(self):
        self.assertEqual(last(by(0, "") + [cut(1, 0)]), [0, 10, 0])
        self.refused(by(0, ""), cut(1, 1), -7)
        self.refused(by(0, "0(pay)"), cut(1, -1), -7)

    def test_own(self):
        for k in (-BIG, -1, 0, 1, 2, 3, BIG):
            self.refused(by(0, "2(pay)"), cut(0, k), -6)
            self.refused(by(1, "2(pay)"), cut(1, k), -6)

    def test_no_offer(self):
        for before in ([], BOOK, by(0, "pay") + [accept(1)], by(1, "pay") + [cut(0, 0)], by(1, "pay") + [withdraw(1)]):
            for side in (0, 1):
                for k in (-1, 0, 1, BIG):
                    self.refused(before, cut(side, k), -6)

    def test_no_such_side(self):
        for side in NO_SIDES:
            for k in (-1, 0, 1, BIG):
                self.refused(BOOK, cut(side, k), -1)
                self.refused(by(0, "2(pay)"), cut(side, k), -1)

    def test_stars(self):
        for k, held in ((0, [10, 0]), (3, [1, 3]), (4, [6, 3]), (7, [21, 3])):
            self.assertEqual(last(by(1, "*(pay) *(gain)") + [cut(0, k)]), [0] + held)
        self.refused(by(1, "*(pay) *(gain)"), cut(0, 8), -7)

    def test_what_may_be_done_then(self):
        calls = by(0, "2(pay)") + [cut(1, 1), run("pay"), propose(0, "2(gain)"), state()]
        self.assertEqual(ask(calls)[-4:], [[0, 7, 1], [0, 1, 4, 2], [0, 2], [0, 1, 0, 2]])


class TestCutWhereItWouldBeTooMuch(StateCase):
    BOOK = [
        reg(0, "x"),
        reg(0, "y"),
        act(0, "up", [0, CHANGE, MOST]),
        act(0, "down", [0, CHANGE, -MOST]),
        act(0, "inc", [0, CHANGE, 1]),
        act(0, "dec", [0, CHANGE, -1]),
        act(0, "more", [1, CHANGE, 1]),
    ]

    def test_above(self):
        before = self.BOOK + [run(f"{MOST}(up)"), propose(0, "dec 2(inc) more dec more")]
        for k, held in ((0, [BIG, 0]), (1, [BIG - 1, 0]), (2, [BIG, 0]), (5, [BIG, 1]), (6, [BIG, 2])):
            self.assertEqual(last(before + [cut(1, k)]), [0] + held)
        for k in (3, 4):
            self.refused(before, cut(1, k), -4)

    def test_below(self):
        before = self.BOOK + [run(f"{MOST}(down)"), propose(1, "dec inc")]
        self.refused(before, cut(0, 1), -4)
        self.assertEqual(last(before + [cut(0, 0)]), [0, -BIG, 0])
        self.assertEqual(last(before + [cut(0, 2)]), [0, -BIG, 0])

    def test_the_offer_stays(self):
        before = self.BOOK + [run(f"{MOST}(up)"), propose(0, "inc dec"), cut(1, 1)]
        self.assertEqual(ask(before + [state(), accept(1)])[-3:], [[-4], [0, 1, 0, 2], [0, 2, BIG, 0]])

    def test_with_other_refusals(self):
        before = self.BOOK + [run(f"{MOST}(up)"), propose(0, "inc dec")]
        self.refused(before, cut(0, 1), -6)
        self.refused(before, cut(2, 1), -1)
        self.refused(before, cut(1, 3), -7)
        self.refused(before, cut(1, -1), -7)

    def test_too_long_to_be_done(self):
        before = self.BOOK + [propose(0, f"{MOST}({MOST}(up)) {MOST}({MOST}(down))")]
        self.assertEqual(last(before + [cut(1, MOST)]), [0, BIG, 0])
        self.refused(before, cut(1, MOST + 1), -4)
        self.refused(before, cut(1, BIG), -4)


class TestWithdraw(StateCase):
    def test_ordinary(self):
        for side in (0, 1):
            found = ask(by(side, "2(pay)") + [withdraw(side), state(), registers(), propose(1, "pay"), state()])
            self.assertEqual(found[-5:], [[0], NO_OFFER, [0, 10, 0], [0, 1], [0, 1, 1, 1]])

    def test_the_other_side_s(self):
        self.refused(by(0, "2(pay)"), withdraw(1), -6)
        self.refused(by(1, "2(pay)"), withdraw(0), -6)

    def test_no_offer(self):
        for before in ([], BOOK, by(0, "pay") + [accept(1)], by(1, "pay") + [cut(0, 0)], by(1, "pay") + [withdraw(1)]):
            for side in (0, 1):
                self.refused(before, withdraw(side), -6)

    def test_no_such_side(self):
        for side in NO_SIDES:
            self.refused(BOOK, withdraw(side), -1)
            self.refused(by(0, "2(pay)"), withdraw(side), -1)


class TestWhileThereIsAnOffer(StateCase):
    def test_reg(self):
        for side in (0, 1):
            before = by(side, "2(pay)")
            self.refused(before, reg(1, "z"), -6)
            self.refused(before, reg(1, "x"), -5)
            for call in (reg(MOST + 1, "z"), reg(1, ""), reg(1, "Z"), reg(-MOST - 1, "x")):
                self.refused(before, call, -1)

    def test_reg_where_there_is_no_place(self):
        before = [reg(0, "r" + letter) for letter in "abcdefgh"] + [propose(0, "")]
        for name in ("more", "ra"):
            self.refused(before, reg(0, name), -4)
        self.refused(before, reg(0, "1"), -1)

    def test_act(self):
        for side in (0, 1):
            before = by(side, "2(pay)")
            self.refused(before, act(1, "new"), -6)
            self.refused(before, act(1, "new", [0, CHANGE, 1]), -6)
            self.refused(before, act(1, "pay"), -5)
            for call in (act(2, "new"), act(0, ""), act(0, "new", [0]), act(0, "new", [2, CHANGE, 1]), act(-1, "pay")):
                self.refused(before, call, -1)

    def test_act_where_there_is_no_place(self):
        before = [act(0, "a" + letter) for letter in "abcdefghijklmnop"] + [propose(0, "")]
        for name in ("more", "aa"):
            self.refused(before, act(0, name), -4)
        self.refused(before, act(0, "more", [0, CHANGE, 1]), -1)

    def test_set(self):
        for side in (0, 1):
            before = by(side, "2(pay)")
            self.refused(before, set_to(0, 5), -6)
            self.refused(before, set_to(1, 0), -6)
            for call in (set_to(2, 5), set_to(-1, 5), set_to(0, MOST + 1), set_to(0, -MOST - 1)):
                self.refused(before, call, -1)

    def test_run(self):
        for side in (0, 1):
            before = by(side, "2(pay)")
            for text in ("pay", "", "*(pay)", "0(never)", f"{MOST}(leap)") + NEVER_DONE + FOR_EVER:
                self.refused(before, run(text), -6)
            for text in NO_RUNS:
                self.refused(before, run(text), -2)
            for text in TOO_MUCH:
                self.refused(before, run(text), -4)
            self.refused(before, run(f"{MOST}(leap) free never"), -6)

    def test_without_an_offer(self):
        for before in (BOOK, by(0, "") + [accept(1)], by(0, "") + [cut(1, 0)], by(0, "") + [withdraw(0)]):
            found = ask(before + [run("pay"), reg(1, "z"), act(0, "new"), set_to(0, 5), registers()])
            self.assertEqual(found[-5:], [[0, 1, 7, 1], [0, 2], [0, 5], [0], [0, 5, 1, 1]])
            for text in NEVER_DONE:
                self.refused(before, run(text), -7)
            for text in FOR_EVER:
                self.refused(before, run(text), -8)

    def test_all_other_calls_go_on(self):
        calls = [read("2(pay)"), form(" pay"), sum_of("pay"), counts("pay"), can("pay"), reach("9(pay)"),
                 at(2, "9(pay)"), first(0, 0, 5, "9(pay)"), most("pay"), ever("free"), compare("pay", "gain"),
                 registers(), actions()]
        for call in calls:
            self.assertEqual(last(by(0, "2(pay)") + [call]), last(BOOK + [call]), call)
            self.changes_nothing(by(0, "2(pay)"), call)


if __name__ == "__main__":
    unittest.main()
