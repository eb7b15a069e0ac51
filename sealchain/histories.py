"""The days at which something may change, how a row came to hold as more was heard, and where registers part."""

from sealchain.papers import holds, judged
from sealchain.rows import parts_in


def days_in(row):
    days = [row[0]]
    for part, value in parts_in(row):
        if part == "day" or part == "since":
            days.append(value)
        elif part == "stretch":
            days.extend([day for day in value if day is not None])
    return days


def moments(book):
    days = [0]
    for row in book:
        days.extend(days_in(row))
    return sorted(set(days))


def as_heard(book):
    return sorted(range(len(book)), key=lambda number: (book[number][0], number))


# The rows heard on places instead of days: so those of one day are heard one by one, too.
def paced(book, order):
    return tuple([(order.index(number), row[1]) for number, row in enumerate(book)])


def history(book, day, number):
    order = as_heard(book)
    rows = paced(book, order)
    told = []
    held = False
    for place, heard_now in enumerate(order):
        now = holds(rows, place, day, number)
        if now != held:
            told.append((heard_now, now))
        held = now
    return told


def parted(one, other):
    days = sorted(set(moments(one) + moments(other)))
    # Before the first row is heard nothing is judged in either, so no other day needs to be asked for known.
    for known in sorted(set([row[0] for row in one + other])):
        for day in days:
            if judged(one, known, day) != judged(other, known, day):
                return (known, day)
    return None
