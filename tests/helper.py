"""Calls written by name, their answers one by one, and a model that does actions one by one."""

import unittest

from shortruns.duel import answers

MOST = 10 ** 9
BIG = 10 ** 18

LEAST = 0
GREATEST = 1
CHANGE = 2


def row_of(text):
    letters = list(text.encode("latin-1")) if isinstance(text, str) else list(text)
    return [len(letters)] + letters


def reg(value, name):
    return [0, value] + row_of(name)


def act(must, name, row=()):
    return [1, must] + row_of(name) + [len(row)] + list(row)


def set_to(number, value):
    return [2, number, value]


def read(text):
    return [3] + row_of(text)


def form(text):
    return [4] + row_of(text)


def sum_of(text):
    return [5] + row_of(text)


def counts(text):
    return [6] + row_of(text)


def can(text):
    return [7] + row_of(text)


def run(text):
    return [8] + row_of(text)


def reach(text):
    return [9] + row_of(text)


def at(k, text):
    return [10, k] + row_of(text)


def first(number, up, mark, text):
    return [11, number, up, mark] + row_of(text)


def most(text):
    return [12] + row_of(text)


def ever(text):
    return [13] + row_of(text)


def compare(one, other):
    return [14] + row_of(one) + row_of(other)


def propose(side, text):
    return [15, side] + row_of(text)


def accept(side):
    return [16, side]


def cut(side, k):
    return [17, side, k]


def withdraw(side):
    return [18, side]


def registers():
    return [19]


def actions():
    return [20]


def state():
    return [21]


def ask(calls):
    """The answers of the calls, a list each."""
    told = answers([number for call in calls for number in call])
    found = []
    start = 0
    while start < len(told):
        end = start + 1 + told[start]
        found.append(told[start + 1:end])
        start = end
    if len(found) != len(calls) or start != len(told):
        raise AssertionError("there is not one answer for each call")
    return found


def last(calls):
    return ask(calls)[-1]


def letters(text):
    return list(text.encode("latin-1"))


def look():
    """Calls that show the whole state: what can be told of it, what the offer does, and which names are free."""
    calls = [registers(), actions(), state(), accept(0), accept(1), registers()]
    return calls + [reg(0, name) for name in ("x", "y", "more")] + [act(0, name) for name in ("a", "b", "more")]


class StateCase(unittest.TestCase):
    def changes_nothing(self, before, call):
        with_it = ask(before + [call] + look())[len(before) + 1:]
        self.assertEqual(with_it, ask(before + look())[len(before):], call)

    def refused(self, before, call, number):
        """The call is refused with that number, and the state is as it was."""
        self.assertEqual(last(before + [call]), [number], call)
        StateCase.changes_nothing(self, before, call)


def nested(depth, inside, times=MOST):
    return f"{times}(" * depth + inside + ")" * depth


# The model. An action is (must, {register: least}, {register: greatest}, {register: change}); a part is
# ("act", number), ("rep", times, row) or ("star", row).

def rules_of(action):
    must, least, greatest, change = action
    rules = []
    for kind, told in ((LEAST, least), (GREATEST, greatest), (CHANGE, change)):
        for number, value in told.items():
            rules += [number, kind, value]
    return rules


def is_able(action, held):
    must, least, greatest, change = action
    return (all(held[number] >= value for number, value in least.items())
            and all(held[number] <= value for number, value in greatest.items()))


def done(action, held):
    then = list(held)
    for number, value in action[3].items():
        then[number] += value
    return then


def expanded(row):
    """The actions of a row without stars, one by one."""
    found = []
    for part in row:
        if part[0] == "act":
            found.append(part[1])
        else:
            for _ in range(part[1]):
                found += expanded(part[2])
    return found


def done_while_able(book, row, held):
    """The registers behind all actions of the row, or None if one can't be done."""
    now = held
    for number in row:
        if not is_able(book[number], now):
            return None
        now = done(book[number], now)
    return now


def comes_to_a_limit(book, row):
    """Whether doing the row again and again drives some register towards a limit that one of its actions tells."""
    found = [book[number] for number in row]
    for must, least, greatest, change in found:
        for number in least:
            if sum(action[3].get(number, 0) for action in found) < 0:
                return True
        for number in greatest:
            if sum(action[3].get(number, 0) for action in found) > 0:
                return True
    return False


def star_steps(book, row, held):
    """All actions of a star with that row, done one by one, and the registers then; None if it goes on for ever."""
    steps = []
    now = held
    then = done_while_able(book, row, now)
    if row and then is not None and not comes_to_a_limit(book, row):
        return None
    while row and then is not None:
        steps += row
        now = then
        then = done_while_able(book, row, now)
    return steps, now


def steps_of(book, parts, held):
    """The run's actions from these registers, stars done one by one; None if it goes on for ever."""
    steps = []
    now = held
    for part in parts:
        if part[0] != "star":
            row = expanded([part])
            steps += row
            if now is not None:
                now = done_while_able(book, row, now)
        elif now is not None:
            found = star_steps(book, expanded(part[1]), now)
            if found is None:
                return None
            steps += found[0]
            now = found[1]
    return steps


def states_along(book, steps, held):
    """The registers before the first step, and behind each one until one can't be done."""
    found = [list(held)]
    for number in steps:
        if not is_able(book[number], found[-1]):
            break
        found.append(done(book[number], found[-1]))
    return found


def summed(book, steps, width):
    """The answer of sum, by the document's words for each of its numbers."""
    answer = [0, len(steps)]
    for k in range(width):
        added = [0]
        leasts = []
        greatests = []
        for number in steps:
            must, least, greatest, change = book[number]
            if k in least:
                leasts.append(least[k] - added[-1])
            if k in greatest:
                greatests.append(greatest[k] - added[-1])
            added.append(added[-1] + change.get(k, 0))
        answer += [1, max(leasts)] if leasts else [0, 0]
        answer += [1, min(greatests)] if greatests else [0, 0]
        answer += [added[-1], min(added), max(added)]
    return answer


def text_of(row, names, blank):
    """A text of the row; blank() says what stands between tokens, if only it isn't needed."""
    text = blank()
    for part in row:
        if part[0] == "act":
            text += names[part[1]] + " " + blank()
        elif part[0] == "rep":
            text += str(part[1]) + blank() + "(" + text_of(part[2], names, blank) + ")" + blank()
        else:
            text += "*" + blank() + "(" + text_of(part[1], names, blank) + ")" + blank()
    return text


def one_text_of(row, names):
    found = []
    for part in row:
        if part[0] == "act":
            found.append(names[part[1]])
        elif part[0] == "rep":
            found.append(f"{part[1]}({one_text_of(part[2], names)})")
        else:
            found.append(f"*({one_text_of(part[1], names)})")
    return " ".join(found)


def depth_of(row):
    return max([0] + [1 + depth_of(part[-1]) for part in row if part[0] != "act"])
