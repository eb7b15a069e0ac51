"""Rows and odd things that several tests use."""


class Touchy:
    """Bears no comparison, no truth test, no length and no look-up."""

    def refuse(self, *others):
        raise RuntimeError("touched")

    __eq__ = __ne__ = __lt__ = __le__ = __gt__ = __ge__ = refuse
    __bool__ = __len__ = __hash__ = __iter__ = __getitem__ = refuse


def odd_things():
    """Things that are no day, stretch, matters, name or row."""
    return [
        None, True, False, 1.0, 0.0, float("nan"), float("inf"), 1j, -1, -10 ** 40, 10 ** 40,
        "", " ", "1", "5 6", b"", b"king", bytearray(b"king"), [], ["king"], [1, 2], {}, {1: 2},
        set(), {1}, frozenset(), (), (None,), (None, None), ((), ()), ([], []), (1,), (1, 2, 3),
        ("root", 1), (1, ("death", 1, "ann"), 2), [1, ("death", 1, "ann")],
        range(3), iter([]), object(), Touchy(), (Touchy(), Touchy()), (1, Touchy()),
        (1, (Touchy(),)), (1, ("death", Touchy(), Touchy())), (1, ([],)), (1, ({}, 1, 2)), len, int, Ellipsis,
    ]


# One good row for each deed, and the kind of each part behind the deed's word.
GOOD = {
    "root": (7, ("root", "king", 5, 2, "open")),
    "named": (7, ("named", 5, "king", "ann")),
    "chosen": (7, ("chosen", 5, "ann", "king", "bob", 6)),
    "heir": (7, ("heir", 5, "ann", "king", "bob")),
    "death": (7, ("death", 5, "ann")),
    "lost": (7, ("lost", 5, "ann")),
    "found": (7, ("found", 5, "ann")),
    "leave": (7, ("leave", 5, "ann", "bob", 5, (3, 9), 2)),
    "paper": (7, ("paper", 5, "ann", 5, (3, None), "bob", ("let", "him", "pass"))),
    "like": (7, ("like", 5, "ann", 5, (3, 9), None, 4, ((0, "do"), (2, "stay")))),
    "copy": (7, ("copy", 5, "ann", 4)),
    "call": (7, ("call", 5, "ann", 4)),
}
KINDS = {
    "root": ["name", "matters", "further", "rule"],
    "named": ["day", "name", "name"],
    "chosen": ["day", "name", "name", "name", "since"],
    "heir": ["day", "name", "name", "name"],
    "death": ["day", "name"],
    "lost": ["day", "name"],
    "found": ["day", "name"],
    "leave": ["day", "name", "name", "matters", "stretch", "further"],
    "paper": ["day", "name", "matters", "stretch", "whom", "pieces"],
    "like": ["day", "name", "matters", "stretch", "whom", "number", "changes"],
    "copy": ["day", "name", "number"],
    "call": ["day", "name", "number"],
}


def with_part(row, place, value):
    """The row with another value at a place of its deed."""
    heard, deed = row
    return (heard, deed[:place] + (value,) + deed[place + 1:])


def done(day, word, *parts, heard=None):
    """A row of a deed of that day, heard on it where nothing else is told."""
    return (day if heard is None else heard, (word, day) + parts)


def root(office, matters=7, further=3, rule="open", heard=0):
    return (heard, ("root", office, matters, further, rule))


def leave(day, by, person, matters=1, stretch=(0, None), further=0, heard=None):
    return done(day, "leave", by, person, matters, stretch, further, heard=heard)


def paper(day, by, matters=1, stretch=(0, None), whom=None, pieces=("let",), heard=None):
    return done(day, "paper", by, matters, stretch, whom, pieces, heard=heard)


def like(day, by, of, matters=1, stretch=(0, None), whom=None, changes=(), heard=None):
    return done(day, "like", by, matters, stretch, whom, of, changes, heard=heard)


def copied(day, by, of, heard=None):
    return done(day, "copy", by, of, heard=heard)


def call(day, by, of, heard=None):
    return done(day, "call", by, of, heard=heard)


KING = root("king")
ANN = done(0, "named", "king", "ann")

# A chain of every kind of link: the office, two leaves, a paper, a copy and a copy of the copy.
LONG = [
    KING, ANN, leave(2, "ann", "bob", 3, (0, 20), 2), leave(3, "bob", "eve", 1, (3, 10), 1),
    paper(4, "eve", 1, (4, 8)), copied(6, "dan", 4), copied(7, "eve", 5),
]


def check_own(case, ask, told):
    """That a list is told, and asked again is told the same, whatever the asker did with the first one."""
    first = ask()
    case.assertIsInstance(first, list)
    case.assertEqual(first, told)
    first.reverse()
    first.append("more")
    case.assertEqual(ask(), told)
    case.assertEqual(first, told[::-1] + ["more"])
