"""Rows and odd things that several tests use."""


class Touchy:
    """Bears no comparison, no truth test, no length and no look-up."""

    def refuse(self, *others):
        raise RuntimeError("touched")

    __eq__ = __ne__ = __lt__ = __le__ = __gt__ = __ge__ = refuse
    __bool__ = __len__ = __hash__ = __iter__ = __getitem__ = refuse


def odd_things():
    """Things that are no day, stretch, matters, name or row."""
    return [
        None, True, False, 1.0, 0.0, float("nan"), float("inf"), 1j, -1, -10 ** 40, 10 ** 40,
        "", " ", "1", "5 6", b"", b"king", bytearray(b"king"), [], ["king"], [1, 2], {}, {1: 2},
        set(), {1}, frozenset(), (), (None,), (None, None), ((), ()), ([], []), (1,), (1, 2, 3),
        ("root", 1), (1, ("death", 1, "ann"), 2), [1, ("death", 1, "ann")],
        range(3), iter([]), object(), Touchy(), (Touchy(), Touchy()), (1, Touchy()),
        (1, (Touchy(),)), (1, ("death", Touchy(), Touchy())), (1, ([],)), (1, ({}, 1, 2)), len, int, Ellipsis,
    ]


# One good row for each deed, and the kind of each part behind the deed's word.
GOOD = {
    "root": (7, ("root", "king", 5, 2, "open")),
    "named": (7, ("named", 5, "king", "ann")),
    "chosen": (7, ("chosen", 5, "ann", "king", "bob", 6)),
    "heir": (7, ("heir", 5, "ann", "king", "bob")),
    "death": (7, ("death", 5, "ann")),
    "lost": (7, ("lost", 5, "ann")),
    "found": (7, ("found", 5, "ann")),
    "leave": (7, ("leave", 5, "ann", "bob", 5, (3, 9), 2)),
    "paper": (7, ("paper", 5, "ann", 5, (3, None), "bob", ("let", "him", "pass"))),
    "like": (7, ("like", 5, "ann", 5, (3, 9), None, 4, ((0, "do"), (2, "stay")))),
    "copy": (7, ("copy", 5, "ann", 4)),
    "call": (7, ("call", 5, "ann", 4)),
}
KINDS = {
    "root": ["name", "matters", "further", "rule"],
    "named": ["day", "name", "name"],
    "chosen": ["day", "name", "name", "name", "since"],
    "heir": ["day", "name", "name", "name"],
    "death": ["day", "name"],
    "lost": ["day", "name"],
    "found": ["day", "name"],
    "leave": ["day", "name", "name", "matters", "stretch", "further"],
    "paper": ["day", "name", "matters", "stretch", "whom", "pieces"],
    "like": ["day", "name", "matters", "stretch", "whom", "number", "changes"],
    "copy": ["day", "name", "number"],
    "call": ["day", "name", "number"],
}


def with_part(row, place, value):
    """The row with another value at a place of its deed."""
    heard, deed = row
    return (heard, deed[:place] + (value,) + deed[place + 1:])
