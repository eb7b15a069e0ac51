"""Which rows bear which, what stands by them, and the chains that lead from an office to a row."""

from sealchain.claims import claims, holder_by, is_held_by
from sealchain.registers import heard, in_order, is_ahead, is_known, roots
from sealchain.rows import day_of, part_of, word_of
from sealchain.seals import is_sound
from sealchain.stretches import covers, is_within, lies_in

PAPERS = ("paper", "like", "copy")


def is_paper(book, known, number):
    return is_known(book, known, number) and word_of(book[number]) in PAPERS


def is_leave(book, known, number):
    return is_known(book, known, number) and word_of(book[number]) == "leave"


def is_borne(book, known, number):
    return is_leave(book, known, number) or is_paper(book, known, number)


def may_call(book, known, claimed, call, number):
    row = book[number]
    caller = part_of(book[call], "by")
    if caller == part_of(row, "by"):
        return True
    if word_of(row) == "copy":
        return False
    over = [root for root in roots(book, known).values() if covers(part_of(root, "matters"), part_of(row, "matters"))]
    return any([is_held_by(claimed, root, caller, day_of(book[call])) for root in over])


def calls_in(book, known, claimed, call, number, day):
    row = book[call]
    if word_of(row) != "call" or part_of(row, "of") != number or day_of(row) > day:
        return False
    return is_sound(book, known, call) and may_call(book, known, claimed, call, number)


def calls_by(book, known, claimed, number, day):
    if not is_borne(book, known, number):
        return []
    return [call for call in heard(book, known) if calls_in(book, known, claimed, call, number, day)]


def calls(book, known, number, day):
    return calls_by(book, known, claims(book, known), number, day)


# A bar is the word for why an office or a leave is no base of a row; None where it is one.
def reach_bar(row, above):
    if not covers(part_of(above, "matters"), part_of(row, "matters")):
        return "matters"
    if word_of(row) == "leave" and part_of(row, "further") >= part_of(above, "further"):
        return "further"
    return None


def office_bar(claimed, row, root):
    if not is_held_by(claimed, root, part_of(row, "by"), day_of(row)):
        return "holder"
    return reach_bar(row, root)


def leave_bar(book, number, leave):
    row = book[number]
    stretch = part_of(book[leave], "stretch")
    if not is_ahead(book, leave, number):
        return "order"
    if not lies_in(day_of(row), stretch) or not is_within(part_of(row, "stretch"), stretch):
        return "days"
    return reach_bar(row, book[leave])


def leaves_to(book, known, person):
    leaves = [number for number in heard(book, known) if is_leave(book, known, number)]
    return [number for number in leaves if part_of(book[number], "person") == person]


def office_bases(book, known, claimed, number):
    row = book[number]
    bearing = [root for root in roots(book, known).values() if office_bar(claimed, row, root) is None]
    return [("office", part_of(root, "office"), holder_by(claimed, root, day_of(row))[2]) for root in bearing]


def leave_bases(book, known, number):
    leaves = leaves_to(book, known, part_of(book[number], "by"))
    return [("leave", leave) for leave in leaves if leave_bar(book, number, leave) is None]


def copy_bases(book, known, number):
    of = part_of(book[number], "of")
    if is_paper(book, known, of) and is_ahead(book, of, number):
        return [("copy", of)]
    return []


def bases_by(book, known, claimed, number):
    if not is_borne(book, known, number):
        return []
    if word_of(book[number]) == "copy":
        return copy_bases(book, known, number)
    found = office_bases(book, known, claimed, number) + leave_bases(book, known, number)
    return sorted(found, key=lambda base: (base[-1], base))


def bases(book, known, number):
    return bases_by(book, known, claims(book, known), number)


def is_fit(book, known, claimed, number, day):
    if not is_sound(book, known, number) or day_of(book[number]) > day:
        return False
    return len(calls_by(book, known, claimed, number, day)) == 0


# Links are a dict, its keys in order, of the bases of each row that stands on the day if one of them bears it.
def links(book, known, day):
    claimed = claims(book, known)
    found = {}
    for number in in_order(book, known):
        if is_borne(book, known, number) and is_fit(book, known, claimed, number, day):
            found[number] = bases_by(book, known, claimed, number)
    return found


def bears(base, among):
    return base[0] == "office" or base[1] in among


# Told as a dict of True by number, so that each is found at once.
def stood(found):
    stands = {}
    # Each base is ahead in the order, so it is settled by the time that it is asked for.
    for number, resting in found.items():
        if any([bears(base, stands) for base in resting]):
            stands[number] = True
    return stands


def standing(book, known, day):
    return sorted(stood(links(book, known, day)))


def first_bearer(resting, stands):
    return [base for base in resting if bears(base, stands)][0]


def chain(book, known, day, number):
    found = links(book, known, day)
    stands = stood(found)
    if number not in stands:
        return None
    told = [number]
    bearer = first_bearer(found[number], stands)
    while bearer[0] != "office":
        told.append(bearer[1])
        bearer = first_bearer(found[bearer[1]], stands)
    told.append(bearer[2])
    return list(reversed(told))


def is_begun(resting, first):
    return first in [base[2] for base in resting if base[0] == "office"]


def is_linked(resting, ahead):
    return ahead in [base[1] for base in resting if base[0] != "office"]


def is_chain(book, known, day, numbers):
    found = links(book, known, day)
    if len(numbers) < 2 or not all([number in found for number in numbers[1:]]):
        return False
    if not is_begun(found[numbers[1]], numbers[0]):
        return False
    return all([is_linked(found[number], ahead) for ahead, number in zip(numbers[1:], numbers[2:])])
