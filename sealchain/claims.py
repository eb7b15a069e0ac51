"""Claims to offices, tuples (office, person, since, until, number), and who holds an office on a day."""

from sealchain.registers import in_order, rank, roots
from sealchain.rows import day_of, part_of, word_of
from sealchain.seals import is_sound, lives, told_of
from sealchain.stretches import lies_in


def is_alive(claim, day):
    return lies_in(day, (claim[2], claim[3]))


def by_since(claim):
    return (claim[2], claim[4])


def by_office(claim):
    return (claim[0], claim[2], claim[4])


def chief_of(alive, rule):
    if rule == "last":
        return max(alive, key=by_since)[1]
    return min(alive, key=by_since)[1]


def holder_by(claimed, root, day):
    alive = [claim for claim in claimed if claim[0] == part_of(root, "office") and is_alive(claim, day)]
    people = sorted(set([claim[1] for claim in alive]))
    if len(people) == 0:
        return ("none",)
    if len(people) > 1 and part_of(root, "rule") == "open":
        return ("parted", people)
    person = chief_of(alive, part_of(root, "rule"))
    # By whatever rule a person holds it, the number is that of the oldest claim.
    oldest = min([claim for claim in alive if claim[1] == person], key=by_since)
    return ("one", person, oldest[4])


def is_held_by(claimed, root, person, day):
    return holder_by(claimed, root, day)[:2] == ("one", person)


def is_first_death(book, known, number):
    row = book[number]
    deaths = told_of(book, known, ("death",), part_of(row, "person"), day_of(row))
    return min(deaths, key=lambda each: rank(book, each)) == number


def counts(book, known, so_far, number):
    row = book[number]
    if word_of(row) == "death":
        return is_first_death(book, known, number)
    if word_of(row) not in ("named", "chosen", "heir"):
        return False
    root = roots(book, known).get(part_of(row, "office"))
    if root is None:
        return False
    if word_of(row) == "named":
        return True
    return is_sound(book, known, number) and is_held_by(so_far, root, part_of(row, "by"), day_of(row))


def new_claim(row, since, number):
    return (part_of(row, "office"), part_of(row, "person"), since, None, number)


def ended(so_far, offices, person, day):
    left = []
    for claim in so_far:
        if claim[0] not in offices or claim[1] != person or not (is_alive(claim, day) or claim[2] > day):
            left.append(claim)
        elif claim[2] < day:
            left.append((claim[0], person, claim[2], day, claim[4]))
    return left


def after_choice(so_far, row, number):
    since = part_of(row, "since")
    left = ended(so_far, [part_of(row, "office")], part_of(row, "by"), since)
    return left + [new_claim(row, since, number)]


def inherited(book, known, so_far, heirs, number):
    person = part_of(book[number], "person")
    day = day_of(book[number])
    told = []
    for office in sorted(set([claim[0] for claim in so_far if claim[1] == person and is_alive(claim, day)])):
        heir = heirs.get((office, person))
        if heir is not None and lives(book, known, heir, day):
            told.append((office, heir, day, None, number))
    return told


def after_death(book, known, so_far, heirs, number):
    offices = [claim[0] for claim in so_far]
    left = ended(so_far, offices, part_of(book[number], "person"), day_of(book[number]))
    return left + inherited(book, known, so_far, heirs, number)


def claims(book, known):
    so_far = []
    heirs = {}
    for number in in_order(book, known):
        row = book[number]
        if not counts(book, known, so_far, number):
            continue
        if word_of(row) == "named":
            so_far = so_far + [new_claim(row, day_of(row), number)]
        elif word_of(row) == "chosen":
            so_far = after_choice(so_far, row, number)
        elif word_of(row) == "heir":
            heirs[(part_of(row, "office"), part_of(row, "by"))] = part_of(row, "person")
        else:
            so_far = after_death(book, known, so_far, heirs, number)
    return sorted(so_far, key=by_office)


def holder(book, known, office, day):
    root = roots(book, known).get(office)
    if root is None:
        return ("none",)
    return holder_by(claims(book, known), root, day)
