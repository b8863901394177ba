"""The parts of runs, each with the sum of its row and of the whole of it."""

from shortruns.sums import chained
from shortruns.sums import repeated


# action is None but for an action. An action has an empty row and counts as done once, so that those who walk a run
# need not tell it from a repeat. times and whole are None for a star, as long as it isn't settled.
class Part:
    def __init__(self, action, times, row, once, whole):
        self.action = action
        self.times = times
        self.row = row
        self.once = once
        self.whole = whole


def action_part(action, total):
    return Part(action, 1, [], total, total)


def star_part(row, width):
    return Part(None, None, row, sum_of_row(row, width), None)


def repeat_part(times, row, width):
    return repeat_with_sum(times, row, sum_of_row(row, width))


# A settled star's row has its sum already.
def repeat_with_sum(times, row, once):
    return Part(None, times, row, once, repeated(once, times))


def sum_of_row(row, width):
    return chained([part.whole for part in row], width)


def counts_of(row, width):
    counts = [0 for k in range(width)]
    todo = [(part, 1) for part in row]
    while len(todo) > 0:
        entry = todo.pop()
        part = entry[0]
        times = entry[1] * part.times
        if part.action is not None:
            counts[part.action] += times
        todo.extend([(inner, times) for inner in part.row])
    return counts
