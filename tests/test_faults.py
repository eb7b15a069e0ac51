import copy
import unittest

from samples import ANN, KING, LONG, call, check_own, copied, done, leave, like, paper, root
from sealchain.chains import standing
from sealchain.faults import faults, is_shut, leaning
from sealchain.registers import register_of


class TestFaults(unittest.TestCase):
    def check(self, rows, day, number, told, known=9999):
        self.assertEqual(faults(register_of(rows), known, day, number), told)

    def test_none_where_it_stands(self):
        for number in range(2, 7):
            self.check(LONG, 9, number, [])
        self.check([KING, ANN, like(4, "ann", 0)], 9, 2, [])

    def test_early(self):
        for day, told in [(0, [("early",)]), (3, [("early",)]), (4, []), (5, [])]:
            self.check(LONG, day, 4, told)
        for row in (leave(4, "eve", "bob"), paper(4, "eve"), like(4, "eve", 0), copied(4, "eve", 0)):
            self.check([row], 3, 0, [("early",)])

    def test_early_comes_ahead_of_all(self):
        rows = [paper(4, "eve"), done(0, "death", "eve"), call(2, "eve", 0)]
        self.check(rows, 3, 0, [("early",)])

    def test_seal(self):
        for row in (leave(4, "ann", "bob"), paper(4, "ann"), like(4, "ann", 0), copied(4, "ann", 3)):
            for word in ("death", "lost"):
                for day, told in [(3, [("seal",)]), (4, [("seal",)]), (5, [])]:
                    rows = [KING, ANN, row, paper(2, "ann"), done(day, word, "ann")]
                    self.check(rows, 9, 2, told)

    def test_seal_comes_ahead_of_called(self):
        rows = [KING, ANN, paper(4, "eve"), done(4, "lost", "eve"), call(6, "ann", 2)]
        self.check(rows, 9, 2, [("seal",)])

    def test_called(self):
        for row in (leave(4, "ann", "bob"), paper(4, "ann"), like(4, "ann", 0), copied(4, "ann", 3)):
            rows = [KING, ANN, row, paper(2, "ann"), call(6, "ann", 2)]
            self.check(rows, 5, 2, [])
            self.check(rows, 6, 2, [("called", 4)])

    def test_called_tells_the_least_number(self):
        rows = [call(9, "eve", 3), KING, ANN, paper(4, "eve"), call(7, "ann", 3), call(6, "eve", 3), call(5, "bob", 3)]
        self.check(rows, 6, 3, [("called", 5)])
        self.check(rows, 7, 3, [("called", 4)])
        self.check(rows, 9, 3, [("called", 0)])

    def test_called_comes_ahead_of_the_bases(self):
        self.check([paper(4, "eve"), call(6, "eve", 0)], 5, 0, [("none",)])
        self.check([paper(4, "eve"), call(6, "eve", 0)], 6, 0, [("called", 1)])
        self.check([copied(4, "eve", 9), call(6, "eve", 0)], 6, 0, [("called", 1)])

    def test_none_where_nothing_might_have_borne_it(self):
        for row in (leave(4, "eve", "bob"), paper(4, "eve"), like(4, "eve", 0)):
            self.check([KING, ANN, row], 9, 2, [("none",)])
        # The office has no root, the leave is to another.
        self.check([done(0, "named", "duke", "eve"), leave(0, "ann", "bob"), paper(4, "eve")], 9, 2, [("none",)])

    def test_of_an_office_holder(self):
        rows = [KING, done(5, "named", "king", "ann"), done(8, "death", "bob")]
        self.check(rows + [paper(4, "ann")], 9, 3, [("office", "king", "holder")])
        self.check(rows + [paper(5, "ann")], 9, 3, [])
        rows = [KING, ANN, done(1, "named", "king", "bob"), paper(4, "ann"), paper(4, "bob")]
        for number in (3, 4):
            self.check(rows, 9, number, [("office", "king", "holder")])
        rows = [KING, ANN, done(2, "chosen", "ann", "king", "bob", 4), paper(4, "ann")]
        self.check(rows, 9, 3, [("office", "king", "holder")])

    def test_of_an_office_with_a_claim_of_any_day(self):
        rows = [KING, done(50, "named", "king", "ann"), paper(4, "ann")]
        self.check(rows, 9, 2, [("office", "king", "holder")])
        rows = [KING, done(4, "named", "king", "ann"), done(4, "death", "ann"), paper(3, "ann")]
        self.check(rows, 9, 3, [("none",)])

    def test_of_an_office_matters(self):
        barred = [("office", "king", "matters")]
        for matters, told in [(5, []), (7, []), (1, barred), (250, barred)]:
            for row in (leave(4, "ann", "bob", 5), paper(4, "ann", 5), like(4, "ann", 0, 5)):
                self.check([root("king", matters), ANN, row], 9, 2, told)

    def test_of_an_office_further(self):
        barred = [("office", "king", "further")]
        for further, told in [(0, []), (2, []), (3, barred), (9, barred)]:
            self.check([KING, ANN, leave(4, "ann", "bob", further=further)], 9, 2, told)
        self.check([root("king", 7, 0), ANN, paper(4, "ann")], 9, 2, [])

    def test_the_order_among_the_words_of_an_office(self):
        given = leave(4, "ann", "bob", 8, further=9)
        self.check([KING, done(5, "named", "king", "ann"), given], 9, 2, [("office", "king", "holder")])
        self.check([KING, done(4, "named", "king", "ann"), given], 9, 2, [("office", "king", "matters")])
        self.check([KING, done(4, "named", "king", "ann"), leave(4, "ann", "bob", 4, further=9)], 9, 2,
                   [("office", "king", "further")])

    def test_of_a_leave_order(self):
        told = [("leave", 1, "order")]
        self.check([paper(4, "eve"), leave(4, "ann", "eve")], 9, 0, told)
        self.check([paper(4, "eve"), leave(5, "ann", "eve")], 9, 0, told)
        self.check([paper(4, "eve"), leave(5, "ann", "eve")], 4, 0, told)
        self.check([leave(5, "ann", "eve"), paper(4, "eve")], 9, 1, [("leave", 0, "order")])

    def test_of_a_leave_days(self):
        for day, own, word in [(5, (5, 10), None), (4, (5, 10), "days"), (9, (5, 10), None), (10, (5, 10), "days"),
                               (6, (4, 10), "days"), (6, (5, 11), "days"), (6, (5, None), "days"), (6, (6, 7), None)]:
            rows = [KING, ANN, leave(0, "ann", "eve", 1, (5, 10)), paper(day, "eve", 1, own)]
            self.check(rows, 20, 3, [] if word is None else [("leave", 2, word)])

    def test_of_a_leave_matters(self):
        for matters, told in [(5, []), (7, []), (1, [("leave", 2, "matters")]), (2, [("leave", 2, "matters")])]:
            for row in (leave(4, "eve", "bob", 5), paper(4, "eve", 5), like(4, "eve", 0, 5)):
                self.check([KING, ANN, leave(2, "ann", "eve", matters, further=1), row], 9, 3, told)

    def test_of_a_leave_further(self):
        for further, told in [(0, []), (1, []), (2, [("leave", 2, "further")]), (3, [("leave", 2, "further")])]:
            rows = [KING, ANN, leave(2, "ann", "eve", further=2), leave(4, "eve", "bob", further=further)]
            self.check(rows, 9, 3, told)
        self.check([KING, ANN, leave(2, "ann", "eve", further=0), paper(4, "eve")], 9, 3, [])

    def test_of_a_leave_falls(self):
        told = [("leave", 0, "falls")]
        self.check([leave(2, "ann", "eve"), paper(4, "eve")], 9, 1, told)
        rows = [KING, ANN, leave(2, "ann", "eve"), paper(4, "eve"), call(6, "ann", 2)]
        self.check(rows, 5, 3, [])
        self.check(rows, 6, 3, [("leave", 2, "falls")])
        self.check(rows, 6, 2, [("called", 4)])

    def test_the_order_among_the_words_of_a_leave(self):
        # Each row mends one thing more than the one ahead of it.
        own = leave(4, "eve", "bob", 2, (4, 20), 3)
        for given, word in [
            (leave(5, "ann", "eve", 1, (5, 10), 3), "order"), (leave(3, "ann", "eve", 1, (5, 10), 3), "days"),
            (leave(3, "ann", "eve", 1, (4, 10), 3), "days"), (leave(3, "ann", "eve", 1, (4, 20), 3), "matters"),
            (leave(3, "ann", "eve", 2, (4, 20), 3), "further"), (leave(3, "ann", "eve", 2, (4, 20), 4), "falls"),
        ]:
            self.check([given, own], 9, 1, [("leave", 0, word)])

    def test_a_leave_to_oneself_is_one_to_its_sealer(self):
        self.check([leave(4, "eve", "eve")], 9, 0, [("leave", 0, "order")])

    def test_several_offices_and_leaves(self):
        rows = [leave(2, "bob", "eve"), root("king", 1), root("duke", 4), root("abbot", 6), root("earl", 7),
                done(0, "named", "king", "eve"), done(0, "named", "duke", "eve"), done(6, "named", "abbot", "eve"),
                done(0, "named", "earl", "bob"), leave(5, "bob", "eve", 2), leave(1, "bob", "eve", 2, (0, 6)),
                leave(1, "bob", "eve", 2, (0, 20)), paper(4, "eve", 2, (4, 10)), call(2, "bob", 11)]
        self.check(rows, 9, 12, [
            ("office", "abbot", "holder"), ("office", "duke", "matters"), ("office", "king", "matters"),
            ("leave", 0, "matters"), ("leave", 9, "order"), ("leave", 10, "days"), ("leave", 11, "falls"),
        ])

    def test_an_office_of_several_claims_is_told_once(self):
        rows = [root("king", 1), ANN, done(1, "named", "king", "ann"), paper(4, "ann", 2)]
        self.check(rows, 9, 3, [("office", "king", "matters")])

    def test_offices_by_name_though_claimed_in_another_order(self):
        rows = [root("king", 1), root("duke", 1), ANN, done(3, "named", "duke", "ann"), paper(4, "ann", 2)]
        self.check(rows, 9, 4, [("office", "duke", "matters"), ("office", "king", "matters")])

    def test_of_a_copy(self):
        self.check([copied(4, "dan", 0)], 9, 0, [("copy", 0, "none")])
        self.check([KING, copied(4, "dan", 0)], 9, 1, [("copy", 0, "none")])
        self.check([KING, ANN, leave(2, "ann", "bob"), copied(4, "dan", 2)], 9, 3, [("copy", 2, "none")])
        self.check([KING, ANN, call(2, "ann", 0), copied(4, "dan", 2)], 9, 3, [("copy", 2, "none")])
        self.check([copied(4, "dan", 59)], 9, 0, [("copy", 59, "none")])
        self.check([copied(4, "dan", 1), paper(4, "eve")], 9, 0, [("copy", 1, "none")])
        self.check([copied(4, "dan", 1), paper(5, "eve")], 9, 0, [("copy", 1, "none")])
        for row in (paper(3, "eve"), like(3, "eve", 7), copied(3, "eve", 7)):
            self.check([row, copied(4, "dan", 0)], 9, 1, [("copy", 0, "falls")])

    def test_of_a_copy_neither_offices_nor_leaves_are_asked(self):
        rows = [KING, ANN, leave(2, "ann", "ann"), paper(2, "eve"), copied(4, "ann", 3)]
        self.check(rows, 9, 4, [("copy", 3, "falls")])

    def test_of_a_copy_as_what_it_is_of_falls(self):
        rows = [KING, ANN, paper(2, "ann"), copied(4, "dan", 2), call(6, "ann", 2)]
        self.check(rows, 5, 3, [])
        self.check(rows, 6, 3, [("copy", 2, "falls")])

    def test_rows_that_are_not_known(self):
        rows = [root("king", 1, heard=7), done(0, "named", "king", "eve", heard=8), leave(2, "ann", "eve", heard=9),
                paper(4, "eve", 2), done(4, "lost", "eve", heard=11), call(5, "eve", 3, heard=10)]
        office, given = ("office", "king", "matters"), ("leave", 2, "matters")
        for known, told in [(6, [("none",)]), (7, [("none",)]), (8, [office]), (9, [office, given]), (11, [("seal",)])]:
            self.check(rows, 9, 3, told, known)
        self.check(rows, 9, 3, [("called", 5)], known=10)
        rows = [paper(3, "eve", heard=8), copied(4, "dan", 0)]
        self.check(rows, 9, 1, [("copy", 0, "none")], known=7)
        self.check(rows, 9, 1, [("copy", 0, "falls")], known=8)


class TestLeaning(unittest.TestCase):
    def check(self, rows, day, number, told, known=9999):
        self.assertEqual(leaning(register_of(rows), known, day, number), told)

    def test_what_is_behind_it_in_the_chain_and_itself(self):
        for number in range(2, 7):
            self.check(LONG, 9, number, list(range(number, 7)))
        self.check(LONG, 5, 3, [3, 4])

    def test_a_row_that_does_not_stand(self):
        self.check(LONG, 9, 0, [])
        self.check(LONG, 9, 1, [])
        self.check(LONG, 5, 6, [])
        self.check([paper(4, "eve"), copied(5, "dan", 0)], 9, 0, [])
        self.check(LONG + [call(8, "bob", 3)], 9, 3, [])
        self.check(LONG + [call(8, "bob", 3)], 9, 2, [2])

    def test_a_row_that_is_not_known(self):
        rows = [KING, ANN, paper(4, "ann", heard=8), copied(9, "dan", 2)]
        self.check(rows, 9, 2, [], known=7)
        self.check(rows, 9, 2, [2], known=8)
        self.check(rows, 9, 2, [2, 3], known=9)

    def test_by_two_ways(self):
        rows = [KING, ANN, leave(1, "ann", "bob"), leave(2, "ann", "bob"), paper(4, "bob"), copied(5, "dan", 4)]
        self.check(rows, 9, 2, [2])
        self.check(rows, 9, 3, [3])
        self.check(rows, 9, 4, [4, 5])

    def test_by_two_ways_that_meet_in_one(self):
        rows = [KING, ANN, leave(1, "ann", "bob", further=2), leave(2, "bob", "eve"), leave(2, "bob", "eve"),
                paper(4, "eve")]
        self.check(rows, 9, 2, [2, 3, 4, 5])
        self.check(rows, 9, 3, [3])
        self.check(rows, 9, 4, [4])

    def test_by_an_office_beside_a_leave(self):
        rows = [KING, ANN, leave(1, "ann", "bob"), root("duke"), done(0, "named", "duke", "bob"), paper(4, "bob")]
        self.check(rows, 9, 2, [2])

    def test_a_second_way_that_is_called_in(self):
        rows = [KING, ANN, leave(1, "ann", "bob"), leave(2, "ann", "bob"), paper(4, "bob"), call(7, "ann", 3)]
        self.check(rows, 6, 2, [2])
        self.check(rows, 7, 2, [2, 4])

    def test_rising_by_number_whatever_the_order(self):
        rows = [copied(9, "dan", 2), KING, paper(8, "bob", 1, (8, 9)), leave(7, "ann", "bob", 1, (7, 9)), ANN]
        self.check(rows, 9, 3, [0, 2, 3])

    def test_a_call_takes_down_just_what_leans(self):
        rows = [KING, ANN, leave(1, "ann", "bob"), leave(2, "ann", "bob"), paper(4, "bob"), copied(5, "bob", 4),
                paper(4, "ann")]
        book = register_of(rows)
        for number, by in [(2, "ann"), (3, "ann"), (4, "bob"), (5, "bob"), (6, "ann")]:
            called = register_of(rows + [call(9, by, number)])
            left = [each for each in standing(book, 9999, 9) if each not in leaning(book, 9999, 9, number)]
            self.assertEqual(standing(called, 9999, 9), left)


class TestIsShut(unittest.TestCase):
    def check(self, rows, day, numbers, told, known=9999):
        self.assertIs(is_shut(register_of(rows), known, day, numbers), told, numbers)

    def test_the_standing_rows_in_any_order(self):
        for numbers in ([2, 3, 4, 5, 6], [6, 5, 4, 3, 2], [4, 2, 6, 3, 5]):
            self.check(LONG, 9, numbers, True)
            self.check(LONG, 7, numbers, True)
            self.check(LONG, 6, numbers, False)
        self.check(LONG, 6, [2, 3, 4, 5], True)
        self.check(LONG, 1, [], True)

    def test_where_the_order_is_not_by_number(self):
        rows = [copied(9, "dan", 2), KING, paper(8, "bob", 1, (8, 9)), leave(7, "ann", "bob", 1, (7, 9)), ANN]
        for numbers in ([0, 2, 3], [3, 2, 0], [2, 3, 0]):
            self.check(rows, 9, numbers, True)
        self.check(rows, 9, [0, 2], False)

    def test_one_left_out(self):
        for number in range(2, 7):
            self.check(LONG, 9, [each for each in range(2, 7) if each != number], False)
        self.check(LONG, 9, [], False)

    def test_one_put_in(self):
        for more in (0, 1, 7, 59, 60, 99, -1, -2, -5, 10 ** 30):
            self.check(LONG, 9, [2, 3, 4, 5, 6, more], False)
            self.check(LONG, 9, [more, 2, 3, 4, 5, 6], False)

    def test_one_twice(self):
        for more in range(2, 7):
            self.check(LONG, 9, [2, 3, 4, 5, 6, more], False)
        self.check([KING], 9, [0, 0], False)
        self.check([], 9, [5, 5], False)

    def test_numbers_that_no_row_has(self):
        self.check([], 9, [], True)
        self.check([], 9, [0], False)
        self.check(LONG, 9, [-5, -4, -3, -2, -1], False)
        self.check(LONG, 9, [2, 3, 4, 5, -1], False)

    def test_rows_that_do_not_stand_put_in(self):
        rows = [KING, ANN, paper(2, "ann"), leave(2, "zoe", "bob"), paper(4, "bob"), copied(5, "dan", 4)]
        self.check(rows, 9, [2], True)
        for numbers in ([2, 3], [2, 3, 4], [2, 3, 4, 5], [2, 4, 5], [2, 5], [3, 4, 5]):
            self.check(rows, 9, numbers, False)

    def test_rows_not_sound_called_in_or_of_a_later_day(self):
        rows = [KING, ANN, paper(2, "ann"), paper(3, "ann"), paper(4, "ann"), paper(12, "ann"), done(3, "lost", "ann"),
                done(4, "found", "ann"), call(7, "ann", 4)]
        self.check(rows, 6, [2, 4], True)
        self.check(rows, 7, [2], True)
        for numbers in ([2, 3], [2, 4], [2, 5], [2, 3, 4], [2, 3, 4, 5]):
            self.check(rows, 7, numbers, False)
        self.check(rows, 12, [2, 5], True)

    def test_leaves_that_lean_on_one_another_alone(self):
        rows = [leave(2, "bob", "eve", further=3), leave(3, "eve", "bob", further=2), paper(4, "bob"), paper(4, "eve")]
        self.check(rows, 9, [], True)
        self.check(rows, 9, [0, 1, 2, 3], False)
        self.check(rows, 9, [1, 2], False)

    def test_rows_that_are_not_known(self):
        rows = [KING, ANN, paper(2, "ann", heard=8), paper(3, "ann")]
        self.check(rows, 9, [3], True, known=7)
        self.check(rows, 9, [2, 3], False, known=7)
        self.check(rows, 9, [2, 3], True, known=8)
        self.check(rows, 9, [3], False, known=8)

    def test_a_hundred_numbers(self):
        self.check(LONG, 9, list(range(100)), False)
        self.check(LONG, 9, [2, 3, 4, 5, 6] * 20, False)

    def test_the_list_is_not_changed(self):
        numbers = [6, 5, 4, 3, 2]
        self.check(LONG, 9, numbers, True)
        self.assertEqual(numbers, [6, 5, 4, 3, 2])


class TestSomewhatBeyond(unittest.TestCase):
    def test_days_beyond_are_not_refused(self):
        book = register_of(LONG)
        self.assertEqual(faults(book, 10000, 10000, 6), [])
        self.assertEqual(faults(book, 9999, -1, 6), [("early",)])
        self.assertEqual(leaning(book, 10000, 10000, 5), [5, 6])
        self.assertIs(is_shut(book, 10000, 10000, [2, 3, 4, 5, 6]), True)
        self.assertIs(is_shut(book, 9999, -1, []), True)

    def test_a_list_of_more_than_a_hundred_is_not_refused(self):
        self.assertIs(is_shut(register_of(LONG), 9999, 9, list(range(200))), False)


class TestTheAskersOwn(unittest.TestCase):
    def test_each_told_list(self):
        book = register_of(LONG + [call(8, "eve", 4)])
        before = copy.deepcopy(book)
        for ask, told in [
            (lambda: faults(book, 9999, 9, 6), [("copy", 5, "falls")]),
            (lambda: faults(book, 9999, 9, 4), [("called", 7)]),
            (lambda: faults(book, 9999, 9, 3), []),
            (lambda: leaning(book, 9999, 7, 3), [3, 4, 5, 6]),
        ]:
            check_own(self, ask, told)
        self.assertEqual(book, before)


if __name__ == "__main__":
    unittest.main()
