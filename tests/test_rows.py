import copy
import unittest

from samples import GOOD, KINDS, odd_things, with_part
from sealchain.rows import day_of, is_name, is_row, people_in

GOOD_VALUES = {
    "name": ["a", "z", "king", "abcdefgh", "zzzzzzzz", "open", "root"],
    "matters": [1, 2, 128, 254, 255],
    "further": list(range(0, 10)),
    "rule": ["open", "first", "last"],
    "day": [0, 1, 4, 5],
    "since": [5, 6, 7, 8, 9999],
    "stretch": [(0, 1), (0, None), (5, 6), (9999, None), (0, 9999)],
    "whom": [None, "a", "abcdefgh", "ann"],
    "number": [0, 1, 58, 59],
    "pieces": [("a",), ("abcdefgh",), ("a", "a"), tuple("abcdefgh")],
    "changes": [(), ((0, "a"),), ((7, "abcdefgh"),), ((0, "a"), (1, "a")), tuple((k, "a") for k in range(8))],
}
BAD_NAMES = ["", "abcdefghi", "King", "kinG", "king1", "1", "a b", " king", "king ", " ", "king\n", "a-b", "a_b", "-",
             "{", "`", "~", "@", "[", "a" * 9000, 7, 0, ["k"], ("k",), b"king", {"k": 1}, 1.5]
BAD_PIECES = BAD_NAMES + [None, True]
BAD_VALUES = {
    "name": BAD_NAMES + [None, True, False],
    "matters": [0, 256, -1, True, False, None, "5", "a", 5.0, [5], (5,)],
    "further": [-1, 10, True, False, None, "2", 2.0, [2], (2,)],
    "rule": ["", "Open", "any", "open ", "opens", "firs", None, True, 0, ["open"], ("open",), {}, b"open"],
    "day": [-1, 10000, True, False, None, "5", 5.0, [5], (5,), 8, 9999],
    "since": [-1, 10000, True, False, None, "6", 6.0, [6], (6,), 4, 0],
    "stretch": [(3, 3), (3, 2), [3, 9], [3, None], (3,), (3, 9, 9), (), None, True, 3, "39", (True, 9), (3, True),
                (None, 9), (3, "9"), ("3", 9), (-1, 9), (3, 10000), (3, 9.0)],
    "whom": BAD_NAMES + [True, False, ()],
    "number": [-1, 60, 61, True, False, None, "4", 4.0, [4], (4,)],
    "pieces": [(), tuple("abcdefghi"), ["a"], "a", "abc", None, True, 1, {"a": 1}]
    + [("a", piece) for piece in BAD_PIECES] + [(piece, "a") for piece in BAD_PIECES],
    "changes": [[], [(0, "a")], ([0, "a"],), ((0,),), ((0, "a", "b"),), ((),), (0, "a"), ("a",), (None,), None, True,
                0, "", {}, ((0, "a"), (0, "b")), ((1, "a"), (0, "b")), ((0, "a"), (2, "b"), (1, "c")),
                ((0, "a"), (2, "b"), (2, "c")), ((8, "a"),), ((-1, "a"),), ((True, "a"),), ((False, "a"),),
                ((None, "a"),), (("0", "a"),), ((0.0, "a"),), tuple((k, "a") for k in range(9))]
    + [((0, piece),) for piece in BAD_PIECES] + [((0, "a"), (1, piece)) for piece in BAD_PIECES],
}


class TestNames(unittest.TestCase):
    def test_names(self):
        for thing in GOOD_VALUES["name"] + list("abcdefghijklmnopqrstuvwxyz"):
            self.assertIs(is_name(thing), True, thing)

    def test_no_names(self):
        for thing in BAD_VALUES["name"] + odd_things():
            self.assertIs(is_name(thing), False)


class TestIsRow(unittest.TestCase):
    def test_there_are_twelve_deeds(self):
        self.assertEqual(len(GOOD), 12)

    def test_each_deed_good(self):
        for row in GOOD.values():
            self.assertIs(is_row(row), True, row)

    def test_each_part_with_other_good_values(self):
        for word, row in GOOD.items():
            for place, kind in enumerate(KINDS[word], start=1):
                for value in GOOD_VALUES[kind]:
                    other = with_part(row, place, value)
                    self.assertIs(is_row(other), True, other)

    def test_each_part_spoiled_in_turn(self):
        for word, row in GOOD.items():
            for place, kind in enumerate(KINDS[word], start=1):
                for value in BAD_VALUES[kind]:
                    other = with_part(row, place, value)
                    self.assertIs(is_row(other), False, other)

    def test_each_part_an_odd_thing(self):
        for word, row in GOOD.items():
            for place, kind in enumerate(KINDS[word], start=1):
                for value in odd_things():
                    if kind == "whom" and value is None or kind == "changes" and isinstance(value, tuple) and not value:
                        continue
                    self.assertIs(is_row(with_part(row, place, value)), False, (word, kind))

    def test_a_part_left_out(self):
        for heard, deed in GOOD.values():
            for place in range(len(deed)):
                self.assertIs(is_row((heard, deed[:place] + deed[place + 1:])), False, (deed, place))

    def test_a_part_more(self):
        for heard, deed in GOOD.values():
            for more in (None, 0, 5, "ann", (), (3, 9)):
                self.assertIs(is_row((heard, deed + (more,))), False, (deed, more))
            for more in (None, 7, deed):
                self.assertIs(is_row((heard, deed, more)), False)

    def test_lists_instead_of_tuples(self):
        for heard, deed in GOOD.values():
            self.assertIs(is_row([heard, deed]), False)
            self.assertIs(is_row((heard, list(deed))), False)

    def test_a_deed_alone_is_no_row(self):
        for heard, deed in GOOD.values():
            self.assertIs(is_row(deed), False, deed)

    def test_heard(self):
        for heard, deed in GOOD.values():
            for bad in (-1, 10000, True, False, None, "7", 7.0, [7]):
                self.assertIs(is_row((bad, deed)), False, (bad, deed))
            self.assertIs(is_row((9999, deed)), True)

    def test_the_day_is_no_later_than_heard(self):
        for word, (heard, deed) in GOOD.items():
            if word == "root":
                self.assertIs(is_row((0, deed)), True)
            else:
                self.assertIs(is_row((5, deed)), True, deed)
                self.assertIs(is_row((4, deed)), False, deed)
                self.assertIs(is_row((0, deed)), False, deed)

    def test_days_at_the_ends(self):
        self.assertIs(is_row((0, ("death", 0, "ann"))), True)
        self.assertIs(is_row((9999, ("death", 9999, "ann"))), True)
        self.assertIs(is_row((9998, ("death", 9999, "ann"))), False)

    def test_since_is_not_before_the_day_but_perhaps_behind_heard(self):
        for since, told in [(4, False), (5, True), (6, True), (7, True), (8, True), (9999, True), (10000, False)]:
            self.assertIs(is_row((7, ("chosen", 5, "ann", "king", "bob", since))), told, since)

    def test_a_stretch_need_not_hold_the_day(self):
        for stretch in ((0, 1), (8, 9), (9, None)):
            self.assertIs(is_row((7, ("leave", 5, "ann", "bob", 1, stretch, 0))), True)
            self.assertIs(is_row((7, ("paper", 5, "ann", 1, stretch, None, ("a",)))), True)
            self.assertIs(is_row((7, ("like", 5, "ann", 1, stretch, None, 0, ()))), True)

    def test_the_same_name_for_all_in_a_row(self):
        self.assertIs(is_row((7, ("leave", 5, "ann", "ann", 5, (3, 9), 2))), True)
        self.assertIs(is_row((7, ("chosen", 5, "ann", "ann", "ann", 6))), True)
        self.assertIs(is_row((7, ("heir", 5, "ann", "ann", "ann"))), True)
        self.assertIs(is_row((7, ("paper", 5, "ann", 5, (3, 9), "ann", ("ann",)))), True)

    def test_other_first_words(self):
        for heard, deed in GOOD.values():
            for word in ("", "Root", "deaths", " death", "papers", "text", None, True, 0, ("death",), ["death"],
                         {}, b"death"):
                self.assertIs(is_row((heard, (word,) + deed[1:])), False, (word, deed))

    def test_one_deeds_word_before_anothers_parts(self):
        alike = {"death": "one", "lost": "one", "found": "one", "copy": "of", "call": "of"}
        for word in GOOD:
            for other, (heard, deed) in GOOD.items():
                told = word == other or alike.get(word, word) == alike.get(other, other)
                self.assertIs(is_row((heard, (word,) + deed[1:])), told, (word, deed))

    def test_things_of_any_kind(self):
        for thing in odd_things():
            self.assertIs(is_row(thing), False)
            self.assertIs(is_row((7, thing)), False)
            self.assertIs(is_row((thing, ("death", 0, "ann"))), False)

    def test_nothing_handed_in_is_changed(self):
        things = [[7, ["death", 5, "ann"]], (7, ["paper", 5, "ann", 5, [3, 9], None, ["a"]]), {"root": [1]}]
        before = copy.deepcopy(things)
        for thing in things:
            is_row(thing)
            is_name(thing)
        self.assertEqual(things, before)


class TestDayOf(unittest.TestCase):
    def test_each_deed(self):
        for word, row in GOOD.items():
            self.assertEqual(day_of(row), None if word == "root" else 5, word)

    def test_day_0_is_a_day(self):
        self.assertEqual(day_of((0, ("death", 0, "ann"))), 0)
        self.assertIsNotNone(day_of((0, ("death", 0, "ann"))))


class TestPeopleIn(unittest.TestCase):
    def test_each_deed(self):
        told = {word: people_in(row) for word, row in GOOD.items()}
        self.assertEqual(told, {
            "root": [], "named": ["ann"], "chosen": ["ann", "bob"], "heir": ["ann", "bob"], "death": ["ann"],
            "lost": ["ann"], "found": ["ann"], "leave": ["ann", "bob"], "paper": ["ann", "bob"], "like": ["ann"],
            "copy": ["ann"], "call": ["ann"],
        })

    def test_whom_none_and_told(self):
        self.assertEqual(people_in((7, ("paper", 5, "eve", 5, (3, 9), None, ("let",)))), ["eve"])
        self.assertEqual(people_in((7, ("paper", 5, "eve", 5, (3, 9), "dan", ("let",)))), ["dan", "eve"])
        self.assertEqual(people_in((7, ("like", 5, "eve", 5, (3, 9), None, 4, ((0, "do"),)))), ["eve"])
        self.assertEqual(people_in((7, ("like", 5, "eve", 5, (3, 9), "dan", 4, ((0, "do"),)))), ["dan", "eve"])

    def test_sorted_whichever_comes_first(self):
        self.assertEqual(people_in((7, ("leave", 5, "zoe", "amy", 5, (3, 9), 2))), ["amy", "zoe"])
        self.assertEqual(people_in((7, ("leave", 5, "amy", "zoe", 5, (3, 9), 2))), ["amy", "zoe"])
        self.assertEqual(people_in((7, ("chosen", 5, "zoe", "king", "amy", 6))), ["amy", "zoe"])
        for by in "abcdefghij":
            for person in "abcdefghij":
                told = [by] if by == person else [min(by, person), max(by, person)]
                self.assertEqual(people_in((7, ("heir", 5, by, "king", person))), told)

    def test_the_same_name_twice_is_told_once(self):
        self.assertEqual(people_in((7, ("leave", 5, "ann", "ann", 5, (3, 9), 2))), ["ann"])
        self.assertEqual(people_in((7, ("chosen", 5, "ann", "king", "ann", 6))), ["ann"])
        self.assertEqual(people_in((7, ("heir", 5, "ann", "king", "ann"))), ["ann"])
        self.assertEqual(people_in((7, ("paper", 5, "ann", 5, (3, 9), "ann", ("let",)))), ["ann"])

    def test_an_office_called_like_a_person(self):
        self.assertEqual(people_in((7, ("root", "ann", 5, 2, "open"))), [])
        self.assertEqual(people_in((7, ("named", 5, "ann", "ann"))), ["ann"])
        self.assertEqual(people_in((7, ("named", 5, "ann", "bob"))), ["bob"])
        self.assertEqual(people_in((7, ("chosen", 5, "ann", "bob", "eve", 6))), ["ann", "eve"])
        self.assertEqual(people_in((7, ("heir", 5, "king", "king", "bob"))), ["bob", "king"])

    def test_pieces_rules_and_words_are_no_names(self):
        self.assertEqual(people_in((7, ("paper", 5, "ann", 5, (3, 9), None, ("bob", "eve")))), ["ann"])
        self.assertEqual(people_in((7, ("like", 5, "ann", 5, (3, 9), None, 4, ((0, "bob"),)))), ["ann"])

    def test_the_told_list_is_the_askers_own(self):
        told = people_in(GOOD["leave"])
        told.append("eve")
        again = people_in(GOOD["leave"])
        self.assertEqual(again, ["ann", "bob"])
        self.assertEqual(told, ["ann", "bob", "eve"])


if __name__ == "__main__":
    unittest.main()
