import copy
import unittest

from samples import GOOD, odd_things
from sealchain.errors import NoNumber, NoRegister, NoText, NoWord, SealError
from sealchain.registers import heard, in_order, register_of
from sealchain.rows import is_row


def name_of(k):
    return "p" + "abcdefghijklmnopqrstuvwxyz"[k]


def deaths(count):
    """Rows that bring one new person each."""
    return [(5, ("death", 5, name_of(k))) for k in range(count)]


class TestRegisterOf(unittest.TestCase):
    def refused_at(self, rows):
        with self.assertRaises(NoRegister) as taken:
            register_of(rows)
        return taken.exception.at

    def test_of_a_list_and_of_a_tuple(self):
        rows = list(GOOD.values())
        for handed in (rows, tuple(rows)):
            book = register_of(handed)
            self.assertIsInstance(book, tuple)
            self.assertEqual(book, tuple(rows))

    def test_a_register_is_one_again(self):
        book = register_of(list(GOOD.values()))
        self.assertEqual(register_of(book), book)

    def test_no_rows(self):
        self.assertEqual(register_of([]), ())
        self.assertEqual(register_of(()), ())

    def test_the_list_changed_behind_it(self):
        rows = list(GOOD.values())
        book = register_of(rows)
        rows.append("more")
        rows[0] = None
        self.assertEqual(book, tuple(GOOD.values()))

    def test_what_is_handed_in_is_not_changed(self):
        for rows in (list(GOOD.values()), [GOOD["root"], ["no", ["row"]], GOOD["root"]]):
            before = copy.deepcopy(rows)
            try:
                register_of(rows)
            except NoRegister:
                pass
            self.assertEqual(rows, before)

    def test_what_is_no_list_and_no_tuple(self):
        row = GOOD["death"]
        for thing in [None, True, 0, 5, "", "text", b"", {}, {0: row}, {row}, frozenset(), iter([row]), range(0),
                      object(), 1.5]:
            self.assertIsNone(self.refused_at(thing))
        for thing in odd_things():
            if not isinstance(thing, (list, tuple)):
                self.assertIsNone(self.refused_at(thing))

    def test_a_thing_that_is_no_row(self):
        rows = list(GOOD.values())
        for thing in odd_things() + [(4, ("death", 5, "ann")), list(GOOD["death"]), (7, ("death", 5, "Ann"))]:
            for place in (0, 1, 5, len(rows)):
                self.assertEqual(self.refused_at(rows[:place] + [thing] + rows[place:]), place)

    def test_a_row_itself_is_no_register(self):
        self.assertEqual(self.refused_at(GOOD["death"]), 0)

    def test_of_two_such_things_the_first_counts(self):
        row, root = GOOD["death"], GOOD["root"]
        self.assertEqual(self.refused_at([row, None, row, None]), 1)
        self.assertEqual(self.refused_at([root, root, None]), 1)
        self.assertEqual(self.refused_at([root, None, root]), 1)
        self.assertEqual(self.refused_at([root] + deaths(21) + [root]), 21)
        self.assertEqual(self.refused_at([root] + deaths(20) + [root, (5, ("death", 5, "zoe"))]), 21)
        self.assertEqual(self.refused_at([row] * 60 + [None, None]), 60)
        self.assertEqual(self.refused_at([row] * 59 + [None, row]), 59)
        self.assertEqual(self.refused_at([root] + [row] * 58 + [root, row]), 59)

    def test_sixty_and_sixty_one_rows(self):
        row = GOOD["death"]
        self.assertEqual(register_of([row] * 59), (row,) * 59)
        self.assertEqual(register_of([row] * 60), (row,) * 60)
        for count in (61, 62, 200):
            self.assertEqual(self.refused_at([row] * count), 60)
            self.assertEqual(self.refused_at((row,) * count), 60)

    def test_a_second_root_of_an_office(self):
        one = (3, ("root", "king", 5, 2, "open"))
        other = (9, ("root", "king", 7, 0, "last"))
        queen = (3, ("root", "queen", 5, 2, "open"))
        self.assertEqual(register_of([one, queen]), (one, queen))
        self.assertEqual(self.refused_at([one, one]), 1)
        self.assertEqual(self.refused_at([one, other]), 1)
        self.assertEqual(self.refused_at([other, one]), 1)
        self.assertEqual(self.refused_at([one, queen, GOOD["death"], other, queen]), 3)

    def test_a_root_behind_rows_that_speak_of_its_office(self):
        rows = [GOOD["named"], GOOD["chosen"], GOOD["heir"], GOOD["root"]]
        self.assertEqual(register_of(rows), tuple(rows))

    def test_twenty_and_twenty_one_persons(self):
        self.assertEqual(register_of(deaths(20)), tuple(deaths(20)))
        self.assertEqual(self.refused_at(deaths(21)), 20)
        self.assertEqual(self.refused_at(deaths(26)), 20)

    def test_persons_already_there_are_not_counted_again(self):
        rows = deaths(20) + deaths(20)
        self.assertEqual(register_of(rows), tuple(rows))
        self.assertEqual(self.refused_at(rows + [(5, ("lost", 5, "zoe"))]), 40)

    def test_each_part_that_is_a_person_counts(self):
        base = deaths(20)
        first = base[0][1][2]
        for deed in [
            ("named", 5, "king", "zoe"), ("chosen", 5, "zoe", "king", first, 6), ("chosen", 5, first, "king", "zoe", 6),
            ("heir", 5, "zoe", "king", first), ("heir", 5, first, "king", "zoe"), ("death", 5, "zoe"),
            ("lost", 5, "zoe"), ("found", 5, "zoe"), ("leave", 5, "zoe", first, 1, (0, 1), 0),
            ("leave", 5, first, "zoe", 1, (0, 1), 0), ("paper", 5, "zoe", 1, (0, 1), None, ("a",)),
            ("paper", 5, first, 1, (0, 1), "zoe", ("a",)), ("like", 5, "zoe", 1, (0, 1), None, 0, ()),
            ("like", 5, first, 1, (0, 1), "zoe", 0, ()), ("copy", 5, "zoe", 0), ("call", 5, "zoe", 0),
        ]:
            self.assertEqual(self.refused_at(base + [(7, deed)]), 20, deed)

    def test_two_persons_brought_by_one_row(self):
        row = (5, ("leave", 5, "yan", "zoe", 1, (0, 1), 0))
        self.assertEqual(len(register_of(deaths(18) + [row])), 19)
        self.assertEqual(self.refused_at(deaths(19) + [row]), 19)

    def test_offices_and_pieces_are_no_persons(self):
        first = name_of(0)
        rows = deaths(20) + [
            (5, ("root", "king", 1, 0, "open")), (5, ("named", 5, "queen", first)),
            (5, ("chosen", 5, first, "duke", first, 5)), (5, ("heir", 5, first, "count", first)),
            (5, ("paper", 5, first, 1, (0, 1), None, ("yan", "zoe"))),
            (5, ("like", 5, first, 1, (0, 1), None, 0, ((0, "yan"),))),
        ]
        self.assertEqual(register_of(rows), tuple(rows))

    def test_a_name_may_be_an_office_and_a_person(self):
        first = name_of(0)
        rows = deaths(20) + [(5, ("root", first, 1, 0, "open")), (5, ("named", 5, "king", first))]
        self.assertEqual(register_of(rows), tuple(rows))
        self.assertEqual(self.refused_at(rows + [(5, ("death", 5, "king"))]), 22)
        self.assertEqual(self.refused_at([(5, ("root", "king", 1, 0, "open"))] + deaths(20)
                                         + [(5, ("death", 5, "king"))]), 21)

    def test_numbers_of_rows_that_are_not_there(self):
        rows = [(7, ("copy", 5, "ann", 59)), (7, ("call", 5, "ann", 1)), (7, ("like", 5, "ann", 1, (0, 1), None, 2, ()))]
        self.assertEqual(register_of(rows), tuple(rows))

    def test_taken_as_itself_and_as_what_it_stands_under(self):
        for taken in (NoRegister, SealError, ValueError):
            self.assertRaises(taken, register_of, [None])
            self.assertRaises(taken, register_of, None)
        for handed in ([None], None):
            try:
                register_of(handed)
            except (NoText, NoWord, NoNumber):
                self.fail("taken as another refusal")
            except NoRegister:
                pass


class TestKnown(unittest.TestCase):
    # Numbers, days heard and days done each rise in another order, and several share a day.
    book = (
        (0, ("root", "king", 5, 2, "open")),
        (9, ("death", 0, "ann")),
        (4, ("lost", 4, "ann")),
        (9, ("found", 4, "ann")),
        (5, ("named", 2, "king", "bob")),
        (5, ("root", "queen", 5, 2, "open")),
        (4, ("copy", 4, "bob", 1)),
    )

    def test_the_book_is_a_register(self):
        self.assertEqual(register_of(self.book), self.book)

    def test_heard_on_the_day_ahead_of_it_and_later(self):
        self.assertEqual(heard(self.book, 0), [0])
        self.assertEqual(heard(self.book, 3), [0])
        self.assertEqual(heard(self.book, 4), [0, 2, 6])
        self.assertEqual(heard(self.book, 5), [0, 2, 4, 5, 6])
        self.assertEqual(heard(self.book, 8), [0, 2, 4, 5, 6])
        self.assertEqual(heard(self.book, 9), [0, 1, 2, 3, 4, 5, 6])
        self.assertEqual(heard(self.book, 9999), [0, 1, 2, 3, 4, 5, 6])

    def test_in_order_by_day_then_by_number_without_roots(self):
        self.assertEqual(in_order(self.book, 0), [])
        self.assertEqual(in_order(self.book, 4), [2, 6])
        self.assertEqual(in_order(self.book, 5), [4, 2, 6])
        self.assertEqual(in_order(self.book, 8), [4, 2, 6])
        self.assertEqual(in_order(self.book, 9), [1, 4, 2, 3, 6])

    def test_the_order_does_not_hang_on_when_rows_were_heard(self):
        book = register_of([(9, ("death", 3, "ann")), (3, ("death", 3, "bob")), (8, ("death", 1, "eve"))])
        self.assertEqual(in_order(book, 9), [2, 0, 1])

    def test_none_known(self):
        self.assertEqual(heard((), 9999), [])
        self.assertEqual(in_order((), 9999), [])
        late = register_of([(1, ("death", 0, "ann"))])
        self.assertEqual(heard(late, 0), [])
        self.assertEqual(in_order(late, 0), [])

    def test_a_since_or_a_stretch_is_no_day_of_a_row(self):
        book = register_of([(7, ("chosen", 5, "ann", "king", "bob", 9)), (7, ("leave", 6, "ann", "bob", 1, (0, 1), 0))])
        self.assertEqual(in_order(book, 7), [0, 1])

    def test_sixty_rows_falling(self):
        book = register_of([(99, ("death", 60 - k, "ann")) for k in range(60)])
        self.assertEqual(heard(book, 99), list(range(60)))
        self.assertEqual(in_order(book, 99), list(range(59, -1, -1)))

    def test_days_somewhat_beyond_are_not_refused(self):
        self.assertEqual(heard(self.book, 10000), heard(self.book, 9999))
        self.assertEqual(in_order(self.book, 10000), in_order(self.book, 9999))
        self.assertEqual(heard(self.book, -1), [])
        self.assertEqual(in_order(self.book, -1), [])

    def test_the_told_lists_are_the_askers_own(self):
        for asked in (heard, in_order):
            told = asked(self.book, 9)
            kept = list(told)
            self.assertIsInstance(told, list)
            told.reverse()
            told.append(99)
            again = asked(self.book, 9)
            self.assertEqual(again, kept)
            self.assertEqual(told, kept[::-1] + [99])
        self.assertTrue(all(is_row(row) for row in self.book))


if __name__ == "__main__":
    unittest.main()
