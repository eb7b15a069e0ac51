"""Registers: rows numbered by their places, and which of them are known by a day."""

from sealchain.errors import NoRegister
from sealchain.rows import MOST_ROWS, day_of, is_row, part_of, people_in, word_of

MOST_PEOPLE = 20


def root_offices(rows):
    return [part_of(row, "office") for row in rows if word_of(row) == "root"]


def is_second_root(ahead, row):
    return word_of(row) == "root" and part_of(row, "office") in root_offices(ahead)


def count_people(rows):
    names = []
    for row in rows:
        names.extend(people_in(row))
    return len(set(names))


def is_refused(book, place):
    # Everything ahead of the place has been found good by now, so it may be read as rows.
    if place >= MOST_ROWS or not is_row(book[place]):
        return True
    return is_second_root(book[:place], book[place]) or count_people(book[:place + 1]) > MOST_PEOPLE


def register_of(rows):
    if not isinstance(rows, (list, tuple)):
        raise NoRegister(None)
    book = tuple(rows)
    for place in range(len(book)):
        if is_refused(book, place):
            raise NoRegister(place)
    return book


def heard(book, known):
    return [number for number, row in enumerate(book) if row[0] <= known]


def is_known(book, known, number):
    # Rows speak of numbers that no row has, and lists may hold any: these are as if heard never.
    return 0 <= number < len(book) and book[number][0] <= known


def rank(book, number):
    return (day_of(book[number]), number)


def is_ahead(book, one, other):
    return rank(book, one) < rank(book, other)


def in_order(book, known):
    dated = [number for number in heard(book, known) if day_of(book[number]) is not None]
    return sorted(dated, key=lambda number: rank(book, number))


def roots(book, known):
    known_rows = [book[number] for number in heard(book, known)]
    return dict([(part_of(row, "office"), row) for row in known_rows if word_of(row) == "root"])
