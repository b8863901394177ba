"""registers, actions, state: promises 19, 20, 21."""

import unittest

from tests.helper import BIG, CHANGE, GREATEST, LEAST, MOST, StateCase
from tests.helper import accept, act, actions, ask, cut, last, nested, propose, reg, registers, run, set_to, state
from tests.helper import withdraw


class TestRegisters(StateCase):
    def test_none(self):
        self.assertEqual(last([registers()]), [0])
        self.assertEqual(last([act(0, "a"), registers()]), [0])

    def test_in_their_order(self):
        calls = [reg(5, "y"), reg(-7, "x"), reg(0, "a")]
        self.assertEqual(last(calls + [registers()]), [0, 5, -7, 0])

    def test_eight(self):
        calls = [reg(k * k, "r" + letter) for k, letter in enumerate("abcdefgh")]
        self.assertEqual(last(calls + [registers()]), [0] + [k * k for k in range(8)])

    def test_as_they_are_then(self):
        calls = [registers(), reg(1, "x"), registers(), set_to(0, 4), registers(), act(0, "up", [0, CHANGE, 2]),
                 run("3(up)"), registers(), reg(9, "y"), registers()]
        found = ask(calls)
        self.assertEqual([found[k] for k in (0, 2, 4, 7, 9)], [[0], [0, 1], [0, 4], [0, 10], [0, 10, 9]])

    def test_at_big(self):
        calls = [reg(0, "x"), act(0, "up", [0, CHANGE, MOST]), act(0, "down", [0, CHANGE, -MOST])]
        self.assertEqual(last(calls + [run(f"{MOST}(up)"), registers()]), [0, BIG])
        self.assertEqual(last(calls + [run(f"{MOST}(down)"), registers()]), [0, -BIG])

    def test_nothing_is_done(self):
        for before in ([], [reg(1, "x"), act(0, "a"), propose(1, "a")]):
            self.changes_nothing(before, registers())


class TestActions(StateCase):
    def test_none(self):
        self.assertEqual(last([actions()]), [0])
        self.assertEqual(last([reg(1, "x"), actions()]), [0])

    def test_without_registers(self):
        self.assertEqual(last([act(0, "a"), act(1, "b"), act(0, "c"), actions()]), [0, 0, 1, 0])

    def test_what_they_tell(self):
        calls = [reg(0, "x"), reg(0, "y"),
                 act(1, "a", [1, LEAST, 4, 1, GREATEST, 9, 0, CHANGE, -3]),
                 act(0, "b"),
                 act(0, "c", [0, LEAST, 0, 1, GREATEST, 0, 1, CHANGE, 0])]
        self.assertEqual(last(calls + [actions()]), [
            0,
            1, 0, 0, 0, 0, -3, 1, 4, 1, 9, 0,
            0, 0, 0, 0, 0, 0, 0, 0, 0, 0, 0,
            0, 1, 0, 0, 0, 0, 0, 0, 1, 0, 0,
        ])

    def test_several_of_one_kind(self):
        row = [0, LEAST, 2, 0, LEAST, 5, 0, LEAST, 3, 0, GREATEST, 9, 0, GREATEST, 7, 0, GREATEST, 8]
        row += [0, CHANGE, 4, 0, CHANGE, -1, 0, CHANGE, 10]
        self.assertEqual(last([reg(0, "x"), act(1, "a", row), actions()]), [0, 1, 1, 5, 1, 7, 13])

    def test_several_changes_that_come_to_nought(self):
        self.assertEqual(last([reg(0, "x"), act(1, "a", [0, CHANGE, 4, 0, CHANGE, -4]), actions()]),
                         [0, 1, 0, 0, 0, 0, 0])

    def test_least_above_greatest(self):
        self.assertEqual(last([reg(0, "x"), act(0, "a", [0, LEAST, 6, 0, GREATEST, -6]), actions()]),
                         [0, 0, 1, 6, 1, -6, 0])

    def test_changes_beyond_most(self):
        self.assertEqual(last([reg(0, "x"), act(0, "a", [0, CHANGE, -MOST] * 1666), actions()]),
                         [0, 0, 0, 0, 0, 0, -1666 * MOST])

    def test_registers_that_came_later(self):
        calls = [act(1, "a"), reg(0, "x"), act(0, "b", [0, LEAST, 7, 0, CHANGE, 2]), reg(0, "y"),
                 act(1, "c", [1, GREATEST, 3])]
        self.assertEqual(last(calls + [actions()]), [
            0,
            1, 0, 0, 0, 0, 0, 0, 0, 0, 0, 0,
            0, 1, 7, 0, 0, 2, 0, 0, 0, 0, 0,
            1, 0, 0, 0, 0, 0, 0, 0, 1, 3, 0,
        ])

    def test_all_there_may_be(self):
        calls = [reg(0, "r" + letter) for letter in "abcdefgh"]
        calls += [act(k % 2, "a" + letter, [k // 2, CHANGE, k + 1]) for k, letter in enumerate("abcdefghijklmnop")]
        wanted = [0]
        for k in range(16):
            wanted.append(k % 2)
            for number in range(8):
                wanted += [0, 0, 0, 0, k + 1 if number == k // 2 else 0]
        self.assertEqual(last(calls + [actions()]), wanted)

    def test_whatever_the_registers_hold(self):
        calls = [reg(0, "x"), act(1, "a", [0, LEAST, -4, 0, CHANGE, 3])]
        for value in (-MOST, 5, MOST):
            self.assertEqual(last(calls + [set_to(0, value), actions()]), [0, 1, 1, -4, 0, 0, 3])

    def test_a_refused_one_is_not_there(self):
        self.assertEqual(last([act(1, "a"), act(2, "b"), act(0, "a"), actions()]), [0, 1])

    def test_nothing_is_done(self):
        for before in ([], [reg(1, "x"), act(0, "a"), propose(1, "a")]):
            self.changes_nothing(before, actions())


class TestState(StateCase):
    BOOK = [reg(10, "x"), act(0, "pay", [0, LEAST, 3, 0, CHANGE, -3]), act(0, "idle")]

    def test_before_while_and_after(self):
        for side in (0, 1):
            for answer in (accept(1 - side), cut(1 - side, 0), cut(1 - side, 2), withdraw(side)):
                found = ask([state()] + self.BOOK + [state(), propose(side, "2(pay)"), state(), answer, state()])
                self.assertEqual(found[0], [0, 0, 0, 0])
                self.assertEqual(found[4], [0, 0, 0, 0])
                self.assertEqual(found[6], [0, 1, side, 2])
                self.assertEqual(found[8], [0, 0, 0, 0])

    def test_length(self):
        for text, length in (("", 0), ("pay", 1), ("*(pay)", 3), ("7(8(idle))", 56), (nested(40, "idle"), MOST ** 40)):
            for side in (0, 1):
                self.assertEqual(last(self.BOOK + [propose(side, text), state()]), [0, 1, side, length])

    def test_a_refused_offer_is_not_there(self):
        for call in (propose(2, "pay"), propose(0, "no"), propose(0, "4(pay)"), propose(0, "*(idle)")):
            self.assertEqual(last(self.BOOK + [call, state()]), [0, 0, 0, 0])

    def test_nothing_is_done(self):
        self.changes_nothing(self.BOOK, state())
        self.changes_nothing(self.BOOK + [propose(0, "pay")], state())


if __name__ == "__main__":
    unittest.main()
