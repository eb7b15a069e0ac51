"""Who lives, who has a seal, and which sealings are sound."""

from sealchain.registers import heard, is_known, rank
from sealchain.rows import day_of, part_of, word_of

SEALINGS = ("chosen", "heir", "leave", "paper", "like", "copy", "call")


def tells(row, words, person, day):
    return word_of(row) in words and part_of(row, "person") == person and day_of(row) <= day


def told_of(book, known, words, person, day):
    return [number for number in heard(book, known) if tells(book[number], words, person, day)]


def lives(book, known, person, day):
    return len(told_of(book, known, ("death",), person, day)) == 0


def has_seal(book, known, person, day):
    told = told_of(book, known, ("lost", "found"), person, day)
    if len(told) == 0:
        return True
    return word_of(book[max(told, key=lambda number: rank(book, number))]) == "found"


def is_sound(book, known, number):
    if not is_known(book, known, number) or word_of(book[number]) not in SEALINGS:
        return False
    sealer = part_of(book[number], "by")
    day = day_of(book[number])
    return lives(book, known, sealer, day) and has_seal(book, known, sealer, day)
