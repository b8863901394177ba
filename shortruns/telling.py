"""The calls that tell of a text whatever the registers hold: read, form, sum, counts, compare."""

from shortruns.limits import NO_RUN
from shortruns.limits import STAR_NOT_ALLOWED
from shortruns.parts import counts_of
from shortruns.parts import sum_of_row
from shortruns.state import read_in_state
from shortruns.sums import adds_the_same
from shortruns.sums import asks_no_more
from shortruns.tokens import one_text
from shortruns.tokens import tokens_of


def told_limit(limit):
    if limit is None:
        return [0, 0]
    return [1, limit]


def told_span(span):
    return told_limit(span.least) + told_limit(span.greatest) + [span.added, span.lowest, span.highest]


# 0 where there is nothing to refuse.
def refusal_without_stars(reading):
    if reading.place > 0:
        return NO_RUN
    if reading.stars > 0:
        return STAR_NOT_ALLOWED
    return 0


def call_read(state, numbers, rows):
    reading = read_in_state(state, rows[0])
    if reading.place > 0:
        return [0, reading.place]
    return [1, len(reading.row), reading.stars, reading.deepest]


def call_form(state, numbers, rows):
    if read_in_state(state, rows[0]).place > 0:
        return [NO_RUN]
    return [0] + one_text(tokens_of(rows[0]))


def call_sum(state, numbers, rows):
    reading = read_in_state(state, rows[0])
    refusal = refusal_without_stars(reading)
    if refusal < 0:
        return [refusal]
    total = sum_of_row(reading.row, len(state.held))
    answer = [0, total.length]
    for span in total.spans:
        answer.extend(told_span(span))
    return answer


def call_counts(state, numbers, rows):
    reading = read_in_state(state, rows[0])
    refusal = refusal_without_stars(reading)
    if refusal < 0:
        return [refusal]
    return [0] + counts_of(reading.row, len(state.actions))


def call_compare(state, numbers, rows):
    readings = [read_in_state(state, text) for text in rows]
    refusals = [refusal_without_stars(reading) for reading in readings]
    due = [refusal for refusal in refusals if refusal < 0]
    if len(due) > 0:
        return [max(due)]
    one = sum_of_row(readings[0].row, len(state.held))
    other = sum_of_row(readings[1].row, len(state.held))
    return [
        0,
        1 if adds_the_same(one, other) else 0,
        1 if asks_no_more(one, other) else 0,
        1 if asks_no_more(other, one) else 0,
    ]
