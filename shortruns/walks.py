"""Going along runs: how often stars are done, how far a run gets, how things stand on its way, when a mark is met."""

from shortruns.parts import Part
from shortruns.parts import repeat_with_sum
from shortruns.parts import sum_of_row
from shortruns.sums import can_be_done
from shortruns.sums import most_times
from shortruns.sums import moved


# How many actions of a run can be done before the first that can't, and what the registers hold behind these.
class Reached:
    def __init__(self, done, held):
        self.done = done
        self.held = held


# The run with a repeat in place of each star, as one part that's done once; None if it goes on for ever.
def settled(row, held):
    now = held
    able = True
    parts = []
    for part in row:
        if part.times is None:
            times = most_times(part.once, now) if able and part.once.length > 0 else 0
            if times is None:
                return None
            parts.append(repeat_with_sum(times, part.row, part.once))
        else:
            parts.append(part)
        able = able and can_be_done(parts[-1].whole, now)
        if able:
            now = moved(now, parts[-1].whole, 1)
    total = sum_of_row(parts, len(held))
    return Part(None, 1, parts, total, total)


# The first part of a row that can't be done whole is gone into: its row's full times are done at once, and what stops
# it lies in the time behind these. An action has no row, so the way ends there.
def reach(run, held):
    done = 0
    now = held
    row = [run]
    while len(row) > 0:
        inner = []
        for part in row:
            if not can_be_done(part.whole, now):
                times = most_times(part.once, now)
                done += times * part.once.length
                now = moved(now, part.once, times)
                inner = part.row
                break
            done += part.whole.length
            now = moved(now, part.whole, 1)
        row = inner
    return Reached(done, now)


# The registers behind the first so many actions, whether or not these can be done.
def behind(run, steps, held):
    left = steps
    now = held
    row = [run]
    while left > 0:
        inner = []
        for part in row:
            if part.whole.length > left:
                times = left // part.once.length
                left -= times * part.once.length
                now = moved(now, part.once, times)
                inner = part.row
                break
            left -= part.whole.length
            now = moved(now, part.whole, 1)
        row = inner
    return now


# Downwards is told as a climb too, with its signs turned round, so that there is one way to walk for both.
def peak_of(span, is_up):
    return span.highest if is_up else -span.lowest


def rise_of(span, is_up):
    return span.added if is_up else -span.added


# How many times of a row are done before the time within which it gets that high. It gets there, if not the first
# time, then by rising from one time to the next.
def times_below(once, is_up, height):
    missing = height - peak_of(once, is_up)
    if missing <= 0:
        return 0
    return -(-missing // rise_of(once, is_up))


# Behind how many actions at the least the register has come that far up (or down), whether or not these can be done;
# None if it never does. The first part that gets there is gone into, and as no part before it did, the height that's
# left is above 0 at every part: so the action that's come to at last is the very one that gets there.
def steps_to_climb(run, number, is_up, height):
    if height <= 0:
        return 0
    if peak_of(run.whole.spans[number], is_up) < height:
        return None
    done = 0
    left = height
    row = [run]
    while len(row) > 0:
        inner = []
        for part in row:
            if peak_of(part.whole.spans[number], is_up) >= left:
                times = times_below(part.once.spans[number], is_up, left)
                done += times * part.once.length
                left -= times * rise_of(part.once.spans[number], is_up)
                inner = part.row
                break
            done += part.whole.length
            left -= rise_of(part.whole.spans[number], is_up)
        row = inner
    return done + 1
