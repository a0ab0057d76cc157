"""Sets of whole numbers, told as spans."""


def spans_of(pairs):
    return put_together([(end_of(low), end_of(high)) for low, high in pairs if has_numbers(low, high)])


def has_numbers(low, high):
    return low is None or high is None or low <= high


def end_of(number):
    return () if number is None else (number,)


# Sorted as tuples are, a low without a least number, (), comes ahead of all others, as it should.
def put_together(found):
    spans = []
    for low, high in sorted(found):
        if len(spans) > 0 and reaches(spans[-1][1], low):
            spans[-1] = (spans[-1][0], higher(spans[-1][1], high))
        else:
            spans.append((low, high))
    return tuple(spans)


# Spans side by side are one span too: hence the 1.
def reaches(high, low):
    return high == () or low == () or low[0] <= high[0] + 1


def higher(one, other):
    if one == () or other == ():
        return ()
    return max(one, other)


def mixed_spans(word, one, other):
    if word == "or":
        return put_together(one + other)
    if word == "less":
        return in_both(one, all_but(other))
    return in_both(one, other)


def in_both(one, other):
    return all_but(put_together(all_but(one) + all_but(other)))


def all_but(spans):
    gaps = []
    start = ()
    for low, high in spans:
        if low != ():
            gaps.append((start, (low[0] - 1,)))
        if high == ():
            return tuple(gaps)
        start = (high[0] + 1,)
    gaps.append((start, ()))
    return tuple(gaps)


def in_spans(spans, number):
    return any([is_between(low, number, high) for low, high in spans])


def is_between(low, number, high):
    return (low == () or low[0] <= number) and (high == () or number <= high[0])


def number_of(spans):
    if spans == ():
        return None
    ends = spans[0][0] + spans[0][1]
    return ends[0] if len(ends) > 0 else 0
