"""Why a row doesn't stand, what leans on a row alone, and which lists are shut."""

from sealchain.chains import bases, bears, calls, leave_bar, leaves_to, links, office_bar, stood
from sealchain.claims import claims
from sealchain.registers import roots
from sealchain.rows import day_of, part_of, word_of
from sealchain.seals import is_sound


def office_faults(book, known, number):
    row = book[number]
    claimed = claims(book, known)
    by_name = roots(book, known)
    offices = sorted(set([claim[0] for claim in claimed if claim[1] == part_of(row, "by")]))
    return [("office", office, office_bar(claimed, row, by_name[office])) for office in offices]


def leave_fault(book, number, leave):
    bar = leave_bar(book, number, leave)
    # It is asked of a row that doesn't stand: a leave that could bear it must have fallen.
    return ("leave", leave, "falls" if bar is None else bar)


def leave_faults(book, known, number):
    leaves = leaves_to(book, known, part_of(book[number], "by"))
    return [leave_fault(book, number, leave) for leave in leaves]


def copy_fault(book, known, number):
    word = "none" if len(bases(book, known, number)) == 0 else "falls"
    return ("copy", part_of(book[number], "of"), word)


def base_faults(book, known, number):
    if word_of(book[number]) == "copy":
        return [copy_fault(book, known, number)]
    told = office_faults(book, known, number) + leave_faults(book, known, number)
    if len(told) == 0:
        return [("none",)]
    return told


def faults(book, known, day, number):
    if number in stood(links(book, known, day)):
        return []
    if day_of(book[number]) > day:
        return [("early",)]
    if not is_sound(book, known, number):
        return [("seal",)]
    called = calls(book, known, number, day)
    if len(called) > 0:
        return [("called", called[0])]
    return base_faults(book, known, number)


def leaning(book, known, day, number):
    found = links(book, known, day)
    left = stood(dict([(each, resting) for each, resting in found.items() if each != number]))
    return sorted([each for each in stood(found) if each not in left])


def is_shut(book, known, day, numbers):
    found = links(book, known, day)
    borne = [number for number, resting in found.items() if any([bears(base, numbers) for base in resting])]
    # Those that are borne are each once and such rows alone, so a list of other numbers, or of one twice, differs.
    return sorted(numbers) == sorted(borne)
