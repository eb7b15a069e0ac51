"""Registers: rows numbered by their places, and which of them are known by a day."""

from sealchain.errors import NoRegister
from sealchain.rows import MOST_ROWS, day_of, is_row, people_in

MOST_PEOPLE = 20


def root_offices(rows):
    return [row[1][1] for row in rows if row[1][0] == "root"]


def is_second_root(ahead, row):
    return row[1][0] == "root" and row[1][1] in root_offices(ahead)


def count_people(rows):
    names = []
    for row in rows:
        names.extend(people_in(row))
    return len(set(names))


def is_refused(book, place):
    # Everything ahead of the place has been found good by now, so it may be read as rows.
    if place >= MOST_ROWS or not is_row(book[place]):
        return True
    return is_second_root(book[:place], book[place]) or count_people(book[:place + 1]) > MOST_PEOPLE


def register_of(rows):
    if not isinstance(rows, (list, tuple)):
        raise NoRegister(None)
    book = tuple(rows)
    for place in range(len(book)):
        if is_refused(book, place):
            raise NoRegister(place)
    return book


def heard(book, known):
    return [number for number, row in enumerate(book) if row[0] <= known]


def in_order(book, known):
    dated = [number for number in heard(book, known) if day_of(book[number]) is not None]
    return sorted(dated, key=lambda number: (day_of(book[number]), number))
