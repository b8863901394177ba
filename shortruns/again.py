"""The calls that tell of doing a run again and again, from the registers as they are: most, ever."""

from shortruns.limits import FOR_EVER
from shortruns.parts import counts_of
from shortruns.parts import sum_of_row
from shortruns.state import read_in_state
from shortruns.sums import most_times
from shortruns.telling import refusal_without_stars

COMES_TO_AN_END = 0
CHANGES_THINGS = 1
NEED_NOT_GO_ON = 2
MUST_GO_ON = 3


# Whether each action that the row comes to must be done: one that stands in a row done 0 times isn't among them.
def is_all_must(state, row):
    counts = counts_of(row, len(state.actions))
    return all([action.must == 1 for action, count in zip(state.actions, counts) if count > 0])


def course_of(state, row):
    total = sum_of_row(row, len(state.held))
    if total.length == 0 or most_times(total, state.held) is not None:
        return COMES_TO_AN_END
    if any([span.added != 0 for span in total.spans]):
        return CHANGES_THINGS
    return MUST_GO_ON if is_all_must(state, row) else NEED_NOT_GO_ON


# A run without actions asks nothing of the registers, so it can be done any number of times like others that don't.
def call_most(state, numbers, rows):
    reading = read_in_state(state, rows[0])
    refusal = refusal_without_stars(reading)
    if refusal < 0:
        return [refusal]
    times = most_times(sum_of_row(reading.row, len(state.held)), state.held)
    return [FOR_EVER] if times is None else [0, times]


def call_ever(state, numbers, rows):
    reading = read_in_state(state, rows[0])
    refusal = refusal_without_stars(reading)
    if refusal < 0:
        return [refusal]
    return [0, course_of(state, reading.row)]
