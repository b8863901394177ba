"""Answers held against doing the actions one by one, at many small runs."""

import random
import unittest

from tests.helper import accept, act, ask, at, can, counts, cut, first, form, letters, propose, reach, read, reg
from tests.helper import registers, run, set_to, state, sum_of
from tests.helper import depth_of, expanded, one_text_of, rules_of, states_along, steps_of, summed, text_of

NAMES = ["a", "b", "ab", "pay", "gain", "abcdefgh"]
LONGEST = 300
LONGEST_STAR = 24


def some_action(source, width):
    told = [{}, {}, {}]
    for k in range(width):
        change = source.randint(-4, 4) if source.random() < 0.6 else 0
        if change != 0 or source.random() < 0.2:
            told[2][k] = change
        # Limits stand mostly where the change leads to, so that stars are done some times and then no more.
        if source.random() < (0.5 if change < 0 else 0.1):
            told[0][k] = source.randint(-20, 5)
        if source.random() < (0.5 if change > 0 else 0.1):
            told[1][k] = source.randint(-5, 20)
    return (source.randint(0, 1), told[0], told[1], told[2])


def some_row(source, actions, depth, parts):
    row = []
    for _ in range(source.randint(0, parts)):
        if depth > 0 and source.random() < 0.5:
            times = source.choice([0, 1, 1, 2, 2, 3, 4, 7])
            row.append(("rep", times, some_row(source, actions, depth - 1, parts)))
        else:
            row.append(("act", source.randrange(actions)))
    return row


def some_short_row(source, actions, depth, parts, longest):
    while True:
        row = some_row(source, actions, depth, parts)
        if len(expanded(row)) <= longest:
            return row


class Case:
    def __init__(self, seed):
        self.source = random.Random(seed)
        self.width = self.source.choice([0, 1, 1, 1, 2, 2, 2, 3])
        self.held = [self.source.randint(-12, 12) for _ in range(self.width)]
        self.actions = [some_action(self.source, self.width) for _ in range(self.source.randint(1, 5))]
        self.book = [reg(value, "r" * (k + 1)) for k, value in enumerate(self.held)]
        self.book += [act(action[0], NAMES[k], rules_of(action)) for k, action in enumerate(self.actions)]

    def row(self):
        return some_short_row(self.source, len(self.actions), 3, 4, LONGEST)

    def parts(self):
        """A run that may have stars."""
        found = []
        for _ in range(self.source.randint(0, 5)):
            if self.source.random() < 0.5:
                found.append(("star", some_short_row(self.source, len(self.actions), 2, 3, LONGEST_STAR)))
            else:
                found += some_short_row(self.source, len(self.actions), 2, 2, 40)
        return found

    def text(self, parts):
        return text_of(parts, NAMES, lambda: " " * self.source.choice([0, 0, 0, 1, 2]))

    def ask(self, calls):
        return ask(self.book + calls)[len(self.book):]


class TestOneByOne(unittest.TestCase):
    def test_sum_and_counts(self):
        for seed in range(1500):
            case = Case(seed)
            row = case.row()
            steps = expanded(row)
            text = case.text(row)
            found = case.ask([sum_of(text), counts(text)])
            self.assertEqual(found[0], summed(case.actions, steps, case.width), (seed, text))
            self.assertEqual(found[1], [0] + [steps.count(k) for k in range(len(case.actions))], (seed, text))

    def test_read_and_form(self):
        for seed in range(600):
            case = Case(seed)
            parts = case.parts()
            stars = [part for part in parts if part[0] == "star"]
            text = case.text(parts)
            found = case.ask([read(text), form(text)])
            self.assertEqual(found[0], [1, len(parts), len(stars), depth_of(parts)], (seed, text))
            self.assertEqual(found[1], [0] + letters(one_text_of(parts, NAMES)), (seed, text))

    def test_can_reach_at_run_without_stars(self):
        for seed in range(1500):
            case = Case(seed)
            self.held_against_steps(case, case.row(), seed)

    def test_can_reach_at_run_with_stars(self):
        for seed in range(2000):
            case = Case(seed)
            self.held_against_steps(case, case.parts(), seed)

    def held_against_steps(self, case, parts, seed):
        text = case.text(parts)
        steps = steps_of(case.actions, parts, case.held)
        if steps is None:
            calls = [can(text), reach(text), at(0, text), at(-1, text), run(text)]
            self.assertEqual(case.ask(calls), [[-8], [-8], [-8], [-7], [-8]], (seed, text))
            return
        along = states_along(case.actions, steps, case.held)
        reached = len(along) - 1
        is_whole = reached == len(steps)
        found = case.ask([can(text), reach(text), run(text), reach("")])
        self.assertEqual(found[0], [0, 1 if is_whole else 0], (seed, text))
        self.assertEqual(found[1], [0, reached, 1 if is_whole else 0] + along[-1], (seed, text))
        self.assertEqual(found[2], [0, len(steps)] + along[-1] if is_whole else [-7], (seed, text))
        self.assertEqual(found[3], [0, 0, 1] + (along[-1] if is_whole else case.held), (seed, text))
        self.at_held_against_steps(case, text, along, seed)

    def at_held_against_steps(self, case, text, along, seed):
        ks = list(range(len(along) + 2))
        if len(ks) > 40:
            ks = sorted(case.source.sample(ks, 34)) + ks[-6:]
        found = case.ask([at(k, text) for k in ks])
        wanted = [[0] + along[k] if k < len(along) else [-7] for k in ks]
        self.assertEqual(found, wanted, (seed, text))

    def test_first_without_stars(self):
        for seed in range(700):
            case = Case(seed)
            self.first_held_against_steps(case, case.row(), seed)

    def test_first_with_stars(self):
        for seed in range(1000):
            case = Case(seed)
            self.first_held_against_steps(case, case.parts(), seed)

    def first_held_against_steps(self, case, parts, seed):
        text = case.text(parts)
        steps = steps_of(case.actions, parts, case.held)
        along = None if steps is None else states_along(case.actions, steps, case.held)
        calls = []
        wanted = []
        for number in range(case.width):
            values = [held[number] for held in along or [case.held]]
            for up in (0, 1):
                for mark in self.some_marks(case, min(values) - 2, max(values) + 2):
                    calls.append(first(number, up, mark, text))
                    wanted.append([-8] if along is None else self.first_along(along, number, up, mark))
        self.assertEqual(case.ask(calls), wanted, (seed, text))

    def some_marks(self, case, low, high):
        marks = list(range(low, high + 1))
        return marks if len(marks) <= 12 else sorted(case.source.sample(marks, 12))

    def first_along(self, along, number, up, mark):
        for k, held in enumerate(along):
            if held[number] >= mark if up else held[number] <= mark:
                return [0, k] + held
        return [-7]

    def test_offers_cut_at_each_action(self):
        for seed in range(500):
            case = Case(seed)
            parts = case.parts()
            text = case.text(parts)
            steps = steps_of(case.actions, parts, case.held)
            along = [] if steps is None else states_along(case.actions, steps, case.held)
            if steps is None or len(along) <= len(steps):
                self.assertEqual(case.ask([propose(0, text), state()]), [[-8 if steps is None else -7], [0] * 4])
                continue
            self.assertEqual(case.ask([propose(0, text), accept(1)]), [[0, len(steps)], [0, len(steps)] + along[-1]])
            for k in sorted(case.source.sample(range(len(along)), min(len(along), 8))):
                found = case.ask([propose(1, text), state(), cut(0, k), registers(), state()])
                wanted = [[0, len(steps)], [0, 1, 1, len(steps)], [0] + along[k], [0] + along[k], [0] * 4]
                self.assertEqual(found, wanted, (seed, text, k))
            self.assertEqual(case.ask([propose(1, text), cut(0, len(steps) + 1)])[-1], [-7])

    def test_many_calls_on_one_state(self):
        for seed in range(150):
            case = Case(seed)
            calls = []
            wanted = []
            held = case.held
            for _ in range(20):
                if held and case.source.random() < 0.3:
                    number = case.source.randrange(len(held))
                    held = held[:number] + [case.source.randint(-12, 12)] + held[number + 1:]
                    calls.append(set_to(number, held[number]))
                    wanted.append([0])
                parts = case.parts()
                steps = steps_of(case.actions, parts, held)
                calls.append(run(case.text(parts)))
                if steps is None:
                    wanted.append([-8])
                    continue
                along = states_along(case.actions, steps, held)
                if len(along) <= len(steps):
                    wanted.append([-7])
                    continue
                held = along[-1]
                wanted.append([0, len(steps)] + held)
            self.assertEqual(case.ask(calls), wanted, seed)

    def test_the_runs_are_of_all_sorts(self):
        ends = {"for ever": 0, "whole": 0, "cut": 0, "starred": 0}
        for seed in range(2000):
            case = Case(seed)
            parts = case.parts()
            steps = steps_of(case.actions, parts, case.held)
            if steps is None:
                ends["for ever"] += 1
                continue
            whole = len(states_along(case.actions, steps, case.held)) > len(steps)
            ends["whole" if whole else "cut"] += 1
            plain = [part for part in parts if part[0] != "star"]
            ends["starred"] += len(steps) > len(expanded(plain))
        self.assertTrue(all(count >= 200 for count in ends.values()), ends)


if __name__ == "__main__":
    unittest.main()
