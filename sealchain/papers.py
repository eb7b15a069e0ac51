"""The words of papers, and which papers hold on a day, for whom."""

from sealchain.chains import is_paper, standing
from sealchain.rows import part_of, word_of
from sealchain.stretches import lies_in


def changed(pieces, place, piece):
    # Where the place is how many there are, the first slice is all of them and the last one is empty.
    return pieces[:place] + (piece,) + pieces[place + 1:]


# The path leads from the row asked for to the paper; the pieces are put together the other way about.
def put_together(book, path):
    pieces = part_of(book[path[-1]], "pieces")
    for number in reversed(path):
        if word_of(book[number]) != "like":
            continue
        for place, piece in part_of(book[number], "changes"):
            if place > len(pieces):
                return ("beyond", number)
            pieces = changed(pieces, place, piece)
    return ("words", pieces)


def words(book, known, number):
    path = []
    at = number
    while at not in path:
        if not is_paper(book, known, at):
            return ("lacks", at)
        path.append(at)
        if word_of(book[at]) == "paper":
            return put_together(book, path)
        at = part_of(book[at], "of")
    # What leads into the ring is no part of it.
    return ("ring", sorted(path[path.index(at):]))


# It is asked of rows that stand: a copy among them is of a row ahead of it, so the way comes to an end.
def paper_behind(book, number):
    row = book[number]
    while word_of(row) == "copy":
        row = book[part_of(row, "of")]
    return row


def holding(book, known, day):
    stands = [number for number in standing(book, known, day) if is_paper(book, known, number)]
    return [number for number in stands if lies_in(day, part_of(paper_behind(book, number), "stretch"))]


def whom_of(book, number):
    return part_of(paper_behind(book, number), "whom")


def holds(book, known, day, number, person=None):
    if number not in holding(book, known, day):
        return False
    return person is None or whom_of(book, number) in (None, person)


def judged(book, known, day):
    return [(number, whom_of(book, number), words(book, known, number)) for number in holding(book, known, day)]
