"""Days, stretches of days, and matters."""

LAST_DAY = 9999
ALL_MATTERS = 255


def is_whole(thing, least, most):
    # To Python a truth is an int, too; here it is no whole number.
    return isinstance(thing, int) and not isinstance(thing, bool) and least <= thing <= most


def is_day(thing):
    return is_whole(thing, 0, LAST_DAY)


def is_stretch(thing):
    if not isinstance(thing, tuple) or len(thing) != 2 or not is_day(thing[0]):
        return False
    return thing[1] is None or (is_day(thing[1]) and thing[0] < thing[1])


def lies_in(day, stretch):
    return stretch[0] <= day and (stretch[1] is None or day < stretch[1])


def is_within(one, other):
    return other[0] <= one[0] and ends_within(one[1], other[1])


def ends_within(stop, bound):
    if bound is None:
        return True
    return stop is not None and stop <= bound


def met(one, other):
    start = max(one[0], other[0])
    stop = earlier_stop(one[1], other[1])
    if stop is not None and stop <= start:
        return None
    return (start, stop)


def earlier_stop(one, other):
    if one is None:
        return other
    if other is None:
        return one
    return min(one, other)


def is_matters(thing):
    return is_whole(thing, 1, ALL_MATTERS)


def covers(matters, some):
    return (matters & some) == some


def listed(matters):
    return [k for k in range(matters.bit_length()) if (matters >> k) & 1 == 1]
