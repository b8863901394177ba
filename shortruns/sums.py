"""Sums: what a row of actions asks of the registers before it, and what it does to them."""


# What a sum says of one register. least and greatest are None where the register may be as low, or as high, as it will.
class Span:
    def __init__(self, least, greatest, added, lowest, highest):
        self.least = least
        self.greatest = greatest
        self.added = added
        self.lowest = lowest
        self.highest = highest


class Sum:
    def __init__(self, length, spans):
        self.length = length
        self.spans = spans


def empty_span():
    return Span(None, None, 0, 0, 0)


def step_span(least, greatest, change):
    return Span(least, greatest, change, min(0, change), max(0, change))


def stricter_least(one, other):
    if one is None:
        return other
    if other is None:
        return one
    return max(one, other)


def stricter_greatest(one, other):
    if one is None:
        return other
    if other is None:
        return one
    return min(one, other)


# A limit that holds when something has been added already, told of the value before that.
def limit_before(limit, added):
    if limit is None:
        return None
    return limit - added


def joined_span(first, then):
    return Span(
        stricter_least(first.least, limit_before(then.least, first.added)),
        stricter_greatest(first.greatest, limit_before(then.greatest, first.added)),
        first.added + then.added,
        min(first.lowest, first.added + then.lowest),
        max(first.highest, first.added + then.highest),
    )


# What is added grows evenly from one time to the next, so the first time and the last one are the only ones that can
# be strictest, lowest or highest; how many lie between makes no odds.
def repeated_span(once, times):
    before_last = (times - 1) * once.added
    return Span(
        limit_before(once.least, min(0, before_last)),
        limit_before(once.greatest, max(0, before_last)),
        times * once.added,
        min(0, before_last) + once.lowest,
        max(0, before_last) + once.highest,
    )


def empty_sum(width):
    return Sum(0, [empty_span() for k in range(width)])


def joined(first, then):
    spans = [joined_span(one, other) for one, other in zip(first.spans, then.spans)]
    return Sum(first.length + then.length, spans)


def repeated(once, times):
    if times == 0:
        return empty_sum(len(once.spans))
    return Sum(times * once.length, [repeated_span(span, times) for span in once.spans])


def chained(sums, width):
    total = empty_sum(width)
    for one in sums:
        total = joined(total, one)
    return total


def span_allows(span, value):
    if span.least is not None and value < span.least:
        return False
    return span.greatest is None or value <= span.greatest


def can_be_done(total, held):
    return all([span_allows(span, value) for span, value in zip(total.spans, held)])


def moved(held, total, times):
    return [value + times * span.added for span, value in zip(total.spans, held)]


# None: any number of times.
def span_times(span, value):
    if not span_allows(span, value):
        return 0
    if span.added < 0 and span.least is not None:
        return (value - span.least) // -span.added + 1
    if span.added > 0 and span.greatest is not None:
        return (span.greatest - value) // span.added + 1
    return None


# How often at most a row with this sum can be done, one time behind the other. None: any number of times.
def most_times(once, held):
    most = None
    for span, value in zip(once.spans, held):
        most = stricter_greatest(most, span_times(span, value))
    return most


def adds_the_same(one, other):
    return all([span.added == beside.added for span, beside in zip(one.spans, other.spans)])


# Nothing more is asked where the stricter of two limits is the one beside.
def span_asks_no_more(span, beside):
    return (stricter_least(span.least, beside.least) == beside.least
            and stricter_greatest(span.greatest, beside.greatest) == beside.greatest)


# Whether the one can be done wherever the other can, as far as least and greatest values say, each by itself.
def asks_no_more(one, other):
    return all([span_asks_no_more(span, beside) for span, beside in zip(one.spans, other.spans)])
