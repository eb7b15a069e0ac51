"""A desk: it keeps a register and two days, and answers rows of words by texts."""

from sealchain.chains import chain, is_borne, standing
from sealchain.claims import holder
from sealchain.errors import NoNumber, NoText, NoWord
from sealchain.faults import faults, leaning
from sealchain.histories import history
from sealchain.papers import holds, words
from sealchain.registers import register_of
from sealchain.rows import MOST_ROWS, is_name
from sealchain.stretches import LAST_DAY, is_whole
from sealchain.texts import number_of, read, row_of, shown

# The kinds of the words behind the first one; add isn't among them, since it takes all behind its blank as it is.
KINDS = {
    "known": ("day",),
    "on": ("day",),
    "text": (),
    "holder": ("name",),
    "stands": ("number",),
    "holds": ("number", "name"),
    "faults": ("number",),
    "standing": (),
    "leaning": ("number",),
    "words": ("number",),
    "history": ("number",),
}


def meant(kind, word):
    if kind == "name":
        if not is_name(word):
            raise NoWord()
        return word
    number = number_of(word)
    if not is_whole(number, 0, LAST_DAY if kind == "day" else MOST_ROWS - 1):
        raise NoWord()
    return number


# The first word of a row, and what the others mean.
def asked(row):
    said = row.split(" ")
    if said[0] not in KINDS or len(said) != 1 + len(KINDS[said[0]]):
        raise NoWord()
    return said[:1] + [meant(kind, word) for kind, word in zip(KINDS[said[0]], said[1:])]


def check_number(book, known, said):
    if "number" in KINDS[said[0]] and said[1] >= len(book):
        raise NoNumber()
    if said[0] == "faults" and not is_borne(book, known, said[1]):
        raise NoNumber()


def joined(parts):
    return " ".join([str(part) for part in parts])


def yes_or_no(truth):
    return "yes" if truth else "no"


def numbers_told(numbers):
    return joined(numbers) if len(numbers) > 0 else "none"


def holder_told(told):
    if told[0] == "parted":
        return joined(["parted"] + told[1])
    return joined(told[:2])


def chain_told(numbers):
    return "no" if numbers is None else joined(["yes"] + numbers)


def faults_told(told):
    return "; ".join([joined(fault) for fault in told]) if len(told) > 0 else "stands"


def words_told(told):
    if told[0] == "words" or told[0] == "ring":
        return joined([told[0]] + list(told[1]))
    return joined(told)


def history_told(told):
    return "; ".join([joined([number, yes_or_no(truth)]) for number, truth in told]) if len(told) > 0 else "none"


def answer(book, known, on, said):
    if said[0] == "text":
        return shown(book)
    if said[0] == "holder":
        return holder_told(holder(book, known, said[1], on))
    if said[0] == "stands":
        return chain_told(chain(book, known, on, said[1]))
    if said[0] == "holds":
        return yes_or_no(holds(book, known, on, said[1], said[2]))
    if said[0] == "faults":
        return faults_told(faults(book, known, on, said[1]))
    if said[0] == "standing":
        return numbers_told(standing(book, known, on))
    if said[0] == "leaning":
        return numbers_told(leaning(book, known, on, said[1]))
    if said[0] == "words":
        return words_told(words(book, known, said[1]))
    return history_told(history(book, on, said[1]))


class Desk:
    def __init__(self, text):
        self.book = read(text)
        self.known = LAST_DAY
        self.on = 0

    def take(self, line):
        row = row_of(line)
        if row is None:
            raise NoText(len(self.book))
        self.book = register_of(self.book + (row,))
        return "ok"

    def say(self, row):
        if not isinstance(row, str):
            raise NoWord()
        if row.startswith("add "):
            return self.take(row[len("add "):])
        said = asked(row)
        check_number(self.book, self.known, said)
        if said[0] == "known":
            self.known = said[1]
            return "ok"
        if said[0] == "on":
            self.on = said[1]
            return "ok"
        return answer(self.book, self.known, self.on, said)
