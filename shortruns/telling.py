"""The calls that tell of a text whatever the registers hold: read, form, sum, counts."""

from shortruns.limits import NO_RUN
from shortruns.limits import STAR_NOT_ALLOWED
from shortruns.parts import counts_of
from shortruns.parts import sum_of_row
from shortruns.state import read_in_state
from shortruns.tokens import one_text
from shortruns.tokens import tokens_of


def told_limit(limit):
    if limit is None:
        return [0, 0]
    return [1, limit]


def told_span(span):
    return told_limit(span.least) + told_limit(span.greatest) + [span.added, span.lowest, span.highest]


# 0 where there is nothing to refuse.
def refusal_without_stars(reading):
    if reading.place > 0:
        return NO_RUN
    if reading.stars > 0:
        return STAR_NOT_ALLOWED
    return 0


def call_read(state, numbers, rows):
    reading = read_in_state(state, rows[0])
    if reading.place > 0:
        return [0, reading.place]
    return [1, len(reading.row), reading.stars, reading.deepest]


def call_form(state, numbers, rows):
    if read_in_state(state, rows[0]).place > 0:
        return [NO_RUN]
    return [0] + one_text(tokens_of(rows[0]))


def call_sum(state, numbers, rows):
    reading = read_in_state(state, rows[0])
    refusal = refusal_without_stars(reading)
    if refusal < 0:
        return [refusal]
    total = sum_of_row(reading.row, len(state.held))
    answer = [0, total.length]
    for span in total.spans:
        answer.extend(told_span(span))
    return answer


def call_counts(state, numbers, rows):
    reading = read_in_state(state, rows[0])
    refusal = refusal_without_stars(reading)
    if refusal < 0:
        return [refusal]
    return [0] + counts_of(reading.row, len(state.actions))
