"""Names, and the rows of which a register is made."""

from sealchain.stretches import is_day, is_matters, is_stretch, is_whole

MOST_ROWS = 60
MOST_LETTERS = 8
MOST_PIECES = 8
MOST_FURTHER = 9

RULES = ("open", "first", "last")

# The parts behind the first word of each deed, told once: all that asks for a part goes by them.
PARTS = {
    "root": ("office", "matters", "further", "rule"),
    "named": ("day", "office", "person"),
    "chosen": ("day", "by", "office", "person", "since"),
    "heir": ("day", "by", "office", "person"),
    "death": ("day", "person"),
    "lost": ("day", "person"),
    "found": ("day", "person"),
    "leave": ("day", "by", "person", "matters", "stretch", "further"),
    "paper": ("day", "by", "matters", "stretch", "whom", "pieces"),
    "like": ("day", "by", "matters", "stretch", "whom", "of", "changes"),
    "copy": ("day", "by", "of"),
    "call": ("day", "by", "of"),
}

PERSON_PARTS = ("by", "person", "whom")


def is_name(thing):
    if not isinstance(thing, str) or not 1 <= len(thing) <= MOST_LETTERS:
        return False
    # Not islower: that takes letters beyond a to z, and figures beside them.
    return all(["a" <= sign <= "z" for sign in thing])


def is_piece(thing):
    # A piece is no name, but is written like one.
    return is_name(thing)


def is_rule(thing):
    return isinstance(thing, str) and thing in RULES


def is_pieces(thing):
    if not isinstance(thing, tuple) or not 1 <= len(thing) <= MOST_PIECES:
        return False
    return all([is_piece(piece) for piece in thing])


def is_change(thing):
    if not isinstance(thing, tuple) or len(thing) != 2:
        return False
    return is_whole(thing[0], 0, MOST_PIECES - 1) and is_piece(thing[1])


def is_changes(thing):
    if not isinstance(thing, tuple) or not all([is_change(change) for change in thing]):
        return False
    places = [change[0] for change in thing]
    return all([place < later for place, later in zip(places, places[1:])])


def is_part(part, thing):
    if part == "day" or part == "since":
        return is_day(thing)
    if part == "office" or part == "by" or part == "person":
        return is_name(thing)
    if part == "whom":
        return thing is None or is_name(thing)
    if part == "matters":
        return is_matters(thing)
    if part == "stretch":
        return is_stretch(thing)
    if part == "further":
        return is_whole(thing, 0, MOST_FURTHER)
    if part == "rule":
        return is_rule(thing)
    if part == "of":
        return is_whole(thing, 0, MOST_ROWS - 1)
    if part == "pieces":
        return is_pieces(thing)
    return is_changes(thing)


def is_deed(thing):
    # The first word is asked for its kind first: what is no text need not bear to be looked up.
    if not isinstance(thing, tuple) or len(thing) == 0 or not isinstance(thing[0], str):
        return False
    if thing[0] not in PARTS or len(thing) != 1 + len(PARTS[thing[0]]):
        return False
    return all([is_part(part, value) for part, value in zip(PARTS[thing[0]], thing[1:])])


def is_timely(row):
    day = day_of(row)
    if day is None:
        return True
    if word_of(row) == "chosen" and part_of(row, "since") < day:
        return False
    return day <= row[0]


def is_row(thing):
    if not isinstance(thing, tuple) or len(thing) != 2:
        return False
    return is_day(thing[0]) and is_deed(thing[1]) and is_timely(thing)


def word_of(row):
    return row[1][0]


def part_of(row, part):
    return row[1][1 + PARTS[word_of(row)].index(part)]


def day_of(row):
    if word_of(row) == "root":
        return None
    return part_of(row, "day")


def parts_in(row):
    return list(zip(PARTS[word_of(row)], row[1][1:]))


def people_in(row):
    names = [value for part, value in parts_in(row) if part in PERSON_PARTS and value is not None]
    return sorted(set(names))
