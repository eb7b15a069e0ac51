"""Registers as texts: a line for each row, its words parted by single blanks."""

from sealchain.errors import NoText
from sealchain.registers import register_of
from sealchain.rows import PARTS, is_row, parts_in, word_of
from sealchain.stretches import listed

NOTHING = "-"
MATTER_LETTERS = "abcdefgh"
NUMBER_PARTS = ("day", "since", "further", "of")
MOST_FIGURES = 4


def is_figures(word):
    # No number here has more figures, and a text of very many is more than int takes.
    if not 1 <= len(word) <= MOST_FIGURES or not all(["0" <= sign <= "9" for sign in word]):
        return False
    return word == "0" or word[0] != "0"


def number_of(word):
    # A word that writes no number is read as one that no part of a row may be.
    return int(word) if is_figures(word) else -1


def letters_of(matters):
    return "".join([MATTER_LETTERS[k] for k in listed(matters)])


def matters_of(word):
    matters = 0
    for k, letter in enumerate(MATTER_LETTERS):
        if letter in word:
            matters = matters | (1 << k)
    # Written back it is another word where its letters don't rise, stand twice, or are others: then 0, no matters.
    return matters if letters_of(matters) == word else 0


def stop_of(word):
    return None if word == NOTHING else number_of(word)


# Of an odd count of words the last change is left without a piece, and so is none.
def changes_of(words):
    pairs = [words[k:k + 2] for k in range(0, len(words), 2)]
    return tuple([tuple([number_of(pair[0])] + pair[1:]) for pair in pairs])


def value_of(part, words):
    if part in NUMBER_PARTS:
        return number_of(words[0])
    if part == "matters":
        return matters_of(words[0])
    if part == "stretch":
        return (number_of(words[0]), stop_of(words[1]))
    if part == "whom":
        return None if words[0] == NOTHING else words[0]
    if part == "pieces":
        return tuple(words)
    if part == "changes":
        return changes_of(words)
    return words[0]


def count_words(part, left):
    if part == "stretch":
        return 2
    # These stand last in their rows, and take all that is left.
    if part == "pieces" or part == "changes":
        return len(left)
    return 1


def deed_of(words):
    deed = words[:1]
    left = words[1:]
    for part in PARTS[words[0]]:
        count = count_words(part, left)
        if count > len(left):
            return None
        deed.append(value_of(part, left[:count]))
        left = left[count:]
    return tuple(deed) if len(left) == 0 else None


def row_of(line):
    words = line.split(" ")
    if len(words) < 2 or words[1] not in PARTS:
        return None
    row = (number_of(words[0]), deed_of(words[1:]))
    return row if is_row(row) else None


def read(text):
    if not isinstance(text, str):
        raise NoText(None)
    lines = text.split("\n") if text != "" else []
    rows = [row_of(line) for line in lines]
    if None in rows:
        raise NoText(rows.index(None))
    return register_of(rows)


def words_of(part, value):
    if part == "matters":
        return [letters_of(value)]
    if part == "pieces":
        return list(value)
    if part == "stretch" or part == "whom":
        ends = value if part == "stretch" else (value,)
        return [NOTHING if each is None else str(each) for each in ends]
    if part == "changes":
        return [f"{place} {piece}" for place, piece in value]
    return [str(value)]


def line_of(row):
    words = [str(row[0]), word_of(row)]
    for part, value in parts_in(row):
        words.extend(words_of(part, value))
    return " ".join(words)


def shown(book):
    return "\n".join([line_of(row) for row in book])
