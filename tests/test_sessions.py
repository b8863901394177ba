"""Whole lists of calls held against a model that does all actions one by one."""

import collections
import random
import unittest

from tests.helper import BIG, CHANGE, MOST
from tests.helper import accept, act, actions, ask, at, can, compare, counts, cut, ever, first, form, letters, most
from tests.helper import propose, reach, reg, registers, run, set_to, state, sum_of, withdraw
from tests.helper import comes_to_a_limit, done, done_while_able, expanded, is_able, one_text_of, rules_of, states_along
from tests.helper import steps_of, summed, text_of
from tests.test_one_by_one import NAMES, some_action, some_short_row

REGISTERS = ["r" * (k + 1) for k in range(8)]
WRONG_TEXTS = ["(", "no", "2(", "a)", "*(*(a))", "*(a", "01(a)", "A", "*(a) ?"]


class Model:
    """What the document says, with all that's due told as a list: the refusal nearest to 0 is answered."""

    def __init__(self):
        self.names = []
        self.held = []
        self.book = []
        self.offer = None

    def steps(self, parts):
        return steps_of(self.book, parts, self.held)

    def along(self, steps):
        return states_along(self.book, steps, self.held)

    def is_starred(self, parts):
        return any(part[0] == "star" for part in parts)

    def due_of_plain(self, parts):
        """What's due of a text where no star may be."""
        if parts is None:
            return [-2]
        return [-3] if self.is_starred(parts) else []

    def due_of_doing(self, parts):
        if parts is None:
            return [-2]
        due = [-6] if self.offer is not None else []
        steps = self.steps(parts)
        if steps is None:
            return due + [-8]
        along = self.along(steps)
        if len(along) <= len(steps):
            return due + [-7]
        return due + ([-4] if any(abs(value) > BIG for value in along[-1]) else [])

    def reg(self, value, name):
        due = [-1] if abs(value) > MOST or not name else []
        due += [-4] if len(self.held) == 8 else []
        due += [-5] if name in self.names else []
        due += [-6] if self.offer is not None else []
        if not due:
            self.names.append(name)
            self.held = self.held + [value]
        return due or [0, len(self.held) - 1]

    def act(self, name, action):
        due = [-5] if NAMES.index(name) < len(self.book) else []
        due += [-6] if self.offer is not None else []
        if not due:
            self.book.append(action)
        return due or [0, len(self.book) - 1]

    def set_to(self, number, value):
        due = [-1] if not 0 <= number < len(self.held) or abs(value) > MOST else []
        due += [-6] if self.offer is not None else []
        if not due:
            self.held = self.held[:number] + [value] + self.held[number + 1:]
        return due or [0]

    def form(self, parts):
        return [-2] if parts is None else [0] + letters(one_text_of(parts, NAMES))

    def sum_of(self, parts):
        return self.due_of_plain(parts) or summed(self.book, expanded(parts), len(self.held))

    def counts(self, parts):
        due = self.due_of_plain(parts)
        return due or [0] + [expanded(parts).count(k) for k in range(len(self.book))]

    def can(self, parts):
        if parts is None:
            return [-2]
        steps = self.steps(parts)
        return [-8] if steps is None else [0, int(len(self.along(steps)) > len(steps))]

    def run(self, parts):
        due = self.due_of_doing(parts)
        if due:
            return due
        steps = self.steps(parts)
        self.held = self.along(steps)[-1]
        return [0, len(steps)] + self.held

    def reach(self, parts):
        if parts is None:
            return [-2]
        steps = self.steps(parts)
        if steps is None:
            return [-8]
        along = self.along(steps)
        return [0, len(along) - 1, int(len(along) > len(steps))] + along[-1]

    def at(self, k, parts):
        if parts is None:
            return [-2]
        due = [-7] if k < 0 else []
        steps = self.steps(parts)
        if steps is None:
            return due + [-8]
        along = self.along(steps)
        return due or ([-7] if k >= len(along) else [0] + along[k])

    def first(self, number, up, mark, parts):
        due = [-1] if not 0 <= number < len(self.held) or up not in (0, 1) else []
        due += [-2] if parts is None else []
        if due:
            return due
        steps = self.steps(parts)
        if steps is None:
            return [-8]
        for k, held in enumerate(self.along(steps)):
            if held[number] >= mark if up else held[number] <= mark:
                return [0, k] + held
        return [-7]

    def times(self, steps):
        """How often the steps can be done one time behind the other; None for any number of times."""
        held = done_while_able(self.book, steps, self.held)
        if held is not None and not comes_to_a_limit(self.book, steps):
            return None
        times = 0
        while held is not None:
            times += 1
            held = done_while_able(self.book, steps, held)
        return times

    def most(self, parts):
        due = self.due_of_plain(parts)
        if due:
            return due
        times = self.times(expanded(parts))
        return [-8] if times is None else [0, times]

    def ever(self, parts):
        due = self.due_of_plain(parts)
        if due:
            return due
        steps = expanded(parts)
        if not steps or self.times(steps) is not None:
            return [0, 0]
        if self.along(steps)[-1] != self.held:
            return [0, 1]
        return [0, 3 if all(self.book[number][0] for number in steps) else 2]

    def compare(self, one, other):
        due = self.due_of_plain(one) + self.due_of_plain(other)
        if due:
            return due
        width = len(self.held)
        a = summed(self.book, expanded(one), width)
        b = summed(self.book, expanded(other), width)
        same = all(a[7 * k + 6] == b[7 * k + 6] for k in range(width))
        return [0, int(same), int(self.asks_no_more(a, b)), int(self.asks_no_more(b, a))]

    def asks_no_more(self, a, b):
        for k in range(2, len(a), 7):
            if a[k] and not (b[k] and b[k + 1] >= a[k + 1]):
                return False
            if a[k + 2] and not (b[k + 2] and b[k + 3] <= a[k + 3]):
                return False
        return True

    def propose(self, side, parts):
        due = ([-1] if side not in (0, 1) else []) + self.due_of_doing(parts)
        if due:
            return due
        self.offer = (side, self.steps(parts))
        return [0, len(self.offer[1])]

    def due_of_answer(self, side, offering):
        due = [-1] if side not in (0, 1) else []
        return due + ([-6] if self.offer is None or self.offer[0] != offering else [])

    def accept(self, side):
        due = self.due_of_answer(side, 1 - side)
        if due:
            return due
        steps = self.offer[1]
        for number in steps:
            if not is_able(self.book[number], self.held):
                raise AssertionError("an offer can always be done")
            self.held = done(self.book[number], self.held)
        self.offer = None
        return [0, len(steps)] + self.held

    def cut(self, side, k):
        due = self.due_of_answer(side, 1 - side)
        if self.offer is None or not 0 <= k <= len(self.offer[1]):
            return due + [-7]
        then = self.along(self.offer[1])[k]
        due += [-4] if not due and any(abs(value) > BIG for value in then) else []
        if due:
            return due
        self.held = then
        self.offer = None
        return [0] + self.held

    def withdraw(self, side):
        due = self.due_of_answer(side, side)
        if not due:
            self.offer = None
        return due or [0]

    def registers(self):
        return [0] + self.held

    def actions(self):
        answer = [0]
        for must, least, greatest, change in self.book:
            answer.append(must)
            for k in range(len(self.held)):
                answer += [int(k in least), least.get(k, 0), int(k in greatest), greatest.get(k, 0), change.get(k, 0)]
        return answer

    def state(self):
        return [0, 0, 0, 0] if self.offer is None else [0, 1, self.offer[0], len(self.offer[1])]


MAKERS = {
    "reg": reg, "set_to": set_to, "form": form, "sum_of": sum_of, "counts": counts, "can": can, "run": run,
    "reach": reach, "at": at, "first": first, "most": most, "ever": ever, "compare": compare, "propose": propose,
    "accept": accept, "cut": cut, "withdraw": withdraw, "registers": registers, "actions": actions, "state": state,
}
TEXTS_AT = {"form": 1, "sum_of": 1, "counts": 1, "can": 1, "run": 1, "reach": 1, "at": 2, "first": 4, "most": 1,
            "ever": 1, "compare": 1, "propose": 2}


class Session:
    def __init__(self, seed):
        self.source = random.Random(seed)
        self.model = Model()
        self.calls = []
        self.wanted = []
        self.tally = collections.Counter()
        # Where registers are about BIG no star ends that can be done one by one.
        self.is_lifted = False

    def note(self, kind, call, due):
        answer = due if due[0] >= 0 else [max(due)]
        self.calls.append(call)
        self.wanted.append(answer)
        self.tally[kind, min(0, answer[0])] += 1
        if kind in ("ever", "compare"):
            self.tally[kind, tuple(answer)] += 1

    def begin_about_big(self):
        """One register at BIG and one at -BIG: what so long a run comes to is known without doing it."""
        self.is_lifted = True
        self.model.names = REGISTERS[:2]
        self.model.held = [BIG, -BIG]
        # What one of these takes beyond BIG another brings back.
        self.model.book = [(0, {}, {}, {0: change, 1: -change}) for change in (1, -1, 2, -2)]
        lifting = (0, {}, {}, {0: MOST, 1: -MOST})
        self.calls = [reg(0, REGISTERS[0]), reg(0, REGISTERS[1])]
        self.calls += [act(0, name, rules_of(action)) for name, action in zip(NAMES, self.model.book + [lifting])]
        self.calls += [run(f"{MOST}({NAMES[4]})")]
        self.wanted = [[0, 0], [0, 1], [0, 0], [0, 1], [0, 2], [0, 3], [0, 4], [0, MOST, BIG, -BIG]]

    def parts(self):
        if self.source.random() < 0.06 or not self.model.book:
            return None
        book = len(self.model.book)
        if self.is_lifted:
            return some_short_row(self.source, book, 1, 5, 9)
        if self.source.random() < 0.5:
            return some_short_row(self.source, book, 2, 3, 60)
        found = []
        for _ in range(self.source.randint(1, 3)):
            if self.source.random() < 0.4:
                found.append(("star", some_short_row(self.source, book, 1, 3, 8)))
            else:
                found += some_short_row(self.source, book, 2, 2, 20)
        return found

    def text(self, parts):
        if parts is None:
            return self.source.choice(WRONG_TEXTS)
        return text_of(parts, NAMES, lambda: " " * self.source.choice([0, 0, 0, 1]))

    def value(self):
        return self.source.choice([self.source.randint(-12, 12)] * 15 + [MOST + 1])

    def side(self):
        return self.source.choice([0, 1] * 6 + [2, -1])

    def some_arguments(self, kind):
        source = self.source
        number = source.randint(-1, len(self.model.held))
        if kind == "reg":
            return [self.value(), source.choice(REGISTERS[:5])]
        if kind == "set_to":
            return [number, self.value()]
        if kind == "at":
            return [source.randint(-2, 30), self.parts()]
        if kind == "first":
            near = self.model.held[number] if 0 <= number < len(self.model.held) else 0
            mark = max(-BIG, min(BIG, near + source.randint(-12, 12)))
            return [number, source.choice([0, 1] * 8 + [2]), mark, self.parts()]
        if kind == "compare":
            return [self.parts(), self.parts()]
        if kind == "propose":
            return [self.side(), self.parts()]
        if kind == "cut":
            length = len(self.model.offer[1]) if self.model.offer else 3
            return [self.side(), source.randint(-1, length + 1)]
        if kind in ("accept", "withdraw"):
            return [self.side()]
        return [] if kind in ("registers", "actions", "state") else [self.parts()]

    def step(self):
        kinds = list(MAKERS) + ["run", "propose", "propose", "act"]
        if self.is_lifted:
            kinds = ["run", "propose", "propose", "cut", "cut", "accept", "first", "at", "reach", "registers", "state"]
        kind = self.source.choice(kinds)
        # The model has an action where the call has a row.
        if kind == "act":
            self.act()
            return
        told = self.some_arguments(kind)
        texts_at = TEXTS_AT.get(kind, 9) - 1
        call = MAKERS[kind](*told[:texts_at], *[self.text(parts) for parts in told[texts_at:]])
        self.note(kind, call, getattr(self.model, kind)(*told))

    def act(self):
        name = NAMES[min(len(self.model.book) + self.source.choice([0, 0, -1]), 4)]
        name = NAMES[0] if not self.model.book else name
        action = some_action(self.source, len(self.model.held))
        self.note("act", act(action[0], name, rules_of(action)), self.model.act(name, action))

    def begin(self):
        for k in range(self.source.choice([0, 1, 1, 2, 2, 3])):
            value = self.source.randint(-12, 12)
            self.note("reg", reg(value, REGISTERS[k]), self.model.reg(value, REGISTERS[k]))
        for _ in range(self.source.randint(1, 4)):
            self.act()


class TestSessions(unittest.TestCase):
    def played(self, seeds, is_lifted):
        tally = collections.Counter()
        for seed in seeds:
            session = Session(seed)
            if is_lifted:
                session.begin_about_big()
            else:
                session.begin()
            while len(session.calls) < 60:
                session.step()
            self.assertEqual(ask(session.calls), session.wanted, seed)
            tally += session.tally
        return tally

    def test_small_registers(self):
        tally = self.played(range(400), False)
        refusals = {
            "reg": (-1, -5, -6), "act": (-5, -6), "set_to": (-1, -6), "form": (-2,), "sum_of": (-2, -3),
            "counts": (-2, -3), "can": (-2, -8), "run": (-2, -6, -7, -8), "reach": (-2, -8), "at": (-2, -7, -8),
            "first": (-1, -2, -7, -8), "most": (-2, -3, -8), "ever": (-2, -3), "compare": (-2, -3),
            "propose": (-1, -2, -6, -7, -8), "accept": (-1, -6), "cut": (-1, -6, -7), "withdraw": (-1, -6),
            "registers": (), "actions": (), "state": (),
        }
        for kind, numbers in refusals.items():
            for number in (0,) + numbers:
                self.assertGreater(tally[kind, number], 10, (kind, number))
        for k in range(4):
            self.assertGreater(tally["ever", (0, k)], 3, k)

    def test_compare(self):
        tally = collections.Counter()
        for seed in range(400):
            session = Session(seed)
            session.begin()
            for _ in range(20):
                told = [some_short_row(session.source, len(session.model.book), 1, 3, 6) for _ in range(2)]
                # The same parts in another order add the same, but ask something else.
                if session.source.random() < 0.5:
                    told[1] = session.source.sample(told[0], len(told[0]))
                call = compare(*[session.text(parts) for parts in told])
                session.note("compare", call, session.model.compare(*told))
            self.assertEqual(ask(session.calls), session.wanted, seed)
            tally += session.tally
        for k in range(8):
            self.assertGreater(tally["compare", (0, k // 4, k // 2 % 2, k % 2)], 10, k)

    def test_registers_about_big(self):
        tally = self.played(range(400), True)
        for kind, number in (("run", -4), ("run", 0), ("propose", -4), ("propose", 0), ("propose", -6), ("cut", -4),
                             ("cut", 0), ("accept", 0), ("first", 0), ("first", -7)):
            self.assertGreater(tally[kind, number], 10, (kind, number))


if __name__ == "__main__":
    unittest.main()
