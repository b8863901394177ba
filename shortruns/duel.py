"""The calls of one list, answered in order on one new state."""

from shortruns.again import call_ever
from shortruns.again import call_most
from shortruns.doing import call_at
from shortruns.doing import call_can
from shortruns.doing import call_first
from shortruns.doing import call_reach
from shortruns.doing import call_run
from shortruns.making import call_act
from shortruns.making import call_reg
from shortruns.making import call_set
from shortruns.offers import call_accept
from shortruns.offers import call_cut
from shortruns.offers import call_propose
from shortruns.offers import call_withdraw
from shortruns.showing import call_actions
from shortruns.showing import call_registers
from shortruns.showing import call_state
from shortruns.state import State
from shortruns.telling import call_compare
from shortruns.telling import call_counts
from shortruns.telling import call_form
from shortruns.telling import call_read
from shortruns.telling import call_sum

# By the call's number, like what answered_by gives back.
HOW_MANY_NUMBERS = (1, 1, 2, 0, 0, 0, 0, 0, 0, 0, 1, 3, 0, 0, 0, 1, 1, 2, 1, 0, 0, 0)
HOW_MANY_ROWS = (1, 2, 0, 1, 1, 1, 1, 1, 1, 1, 1, 1, 1, 1, 2, 1, 0, 0, 0, 0, 0, 0)


def answered_by():
    return [
        call_reg,
        call_act,
        call_set,
        call_read,
        call_form,
        call_sum,
        call_counts,
        call_can,
        call_run,
        call_reach,
        call_at,
        call_first,
        call_most,
        call_ever,
        call_compare,
        call_propose,
        call_accept,
        call_cut,
        call_withdraw,
        call_registers,
        call_actions,
        call_state,
    ]


# end is where the call behind these rows begins.
class Rows:
    def __init__(self, rows, end):
        self.rows = rows
        self.end = end


def rows_from(calls, start, how_many):
    rows = []
    end = start
    for k in range(how_many):
        begin = end + 1
        end = begin + calls[end]
        rows.append(calls[begin:end])
    return Rows(rows, end)


def answers(calls):
    callees = answered_by()
    state = State()
    told = []
    at = 0
    while at < len(calls):
        number = calls[at]
        callee = callees[number]
        start_of_rows = at + 1 + HOW_MANY_NUMBERS[number]
        found = rows_from(calls, start_of_rows, HOW_MANY_ROWS[number])
        answer = callee(state, calls[at + 1:start_of_rows], found.rows)
        told.append(len(answer))
        told.extend(answer)
        at = found.end
    return told
