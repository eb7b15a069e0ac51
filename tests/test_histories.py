import copy
import unittest

from samples import ANN, GOOD, KING, LONG, call, check_own, copied, done, leave, like, paper, root
from sealchain.histories import history, moments, parted
from sealchain.papers import holds, judged
from sealchain.registers import register_of


class TestMoments(unittest.TestCase):
    def check(self, rows, told):
        self.assertEqual(moments(register_of(rows)), told)

    def test_no_rows(self):
        self.check([], [0])

    def test_of_each_kind_of_row(self):
        told = {"root": [0, 7], "chosen": [0, 5, 6, 7], "leave": [0, 3, 5, 7, 9], "paper": [0, 3, 5, 7],
                "like": [0, 3, 5, 7, 9]}
        for word, row in GOOD.items():
            self.check([row], told.get(word, [0, 5, 7]))

    def test_numbers_that_are_no_days(self):
        self.check([(20, ("root", "king", 13, 9, "open"))], [0, 20])
        self.check([leave(20, "ann", "bob", 14, (30, 40), 8)], [0, 20, 30, 40])
        self.check([like(20, "ann", 50, 14, (30, None), None, ((3, "a"), (7, "b")))], [0, 20, 30])
        self.check([copied(20, "ann", 50), call(21, "ann", 51)], [0, 20, 21])

    def test_each_once_and_rising(self):
        self.check([paper(7, "ann", 1, (7, 9)), paper(3, "ann", 1, (9, None), heard=7), paper(9, "ann", 1, (0, 3))],
                   [0, 3, 7, 9])
        self.check([done(0, "death", "ann")], [0])
        self.check([done(30, "death", "ann"), done(20, "death", "ann"), done(10, "death", "ann")], [0, 10, 20, 30])

    def test_the_last_days(self):
        self.check([paper(9998, "ann", 1, (9997, 9999))], [0, 9997, 9998, 9999])


class TestHistory(unittest.TestCase):
    def check(self, rows, day, number, told):
        book = register_of(rows)
        self.assertEqual(history(book, day, number), told)
        self.check_known(book, day, number, told)

    def check_known(self, book, day, number, told):
        """That the last row heard by a day tells whether it holds as known by it."""
        for known in range(40):
            heard = [truth for each, truth in told if book[each][0] <= known]
            self.assertIs(holds(book, known, day, number), heard[-1] if heard else False, known)

    def test_a_row_that_never_holds(self):
        self.check([KING], 5, 0, [])
        self.check([paper(2, "ann")], 5, 0, [])
        self.check([KING, ANN, leave(2, "ann", "bob")], 5, 2, [])
        self.check([KING, ANN, paper(2, "ann", 1, (0, 5))], 5, 2, [])
        self.check([KING, ANN, paper(6, "ann")], 5, 2, [])

    def test_a_row_that_holds_from_one_row_on(self):
        self.check([KING, ANN, paper(2, "ann")], 5, 2, [(2, True)])
        self.check([paper(2, "ann", heard=9), KING, ANN], 5, 0, [(0, True)])

    def test_a_row_that_comes_to_hold_by_another(self):
        self.check([paper(2, "ann"), root("king", heard=6), ANN], 5, 0, [(1, True)])
        self.check([paper(2, "ann"), KING, done(0, "named", "king", "ann", heard=7)], 5, 0, [(2, True)])

    def test_rows_heard_on_one_day_by_number(self):
        self.check([paper(2, "ann", heard=9), root("king", heard=9), done(0, "named", "king", "ann", heard=9)], 5, 0,
                   [(2, True)])
        self.check([root("king", heard=9), paper(2, "ann", heard=9), done(0, "named", "king", "ann", heard=9),
                    call(3, "ann", 1, heard=9)], 5, 1, [(2, True), (3, False)])
        self.check([root("king", heard=9), call(3, "ann", 3, heard=9), done(0, "named", "king", "ann", heard=9),
                    paper(2, "ann", heard=9)], 5, 3, [])

    def test_on_one_day_it_holds_between_two_rows_alone(self):
        rows = [root("king", heard=4), done(0, "named", "king", "ann", heard=4), paper(2, "ann", heard=4),
                done(1, "lost", "ann", heard=4), done(2, "found", "ann", heard=4), done(2, "death", "ann", heard=4)]
        self.check(rows, 5, 2, [(2, True), (3, False), (4, True), (5, False)])

    def test_holds_then_not_then_again(self):
        rows = [KING, ANN, paper(2, "ann"), done(1, "lost", "ann", heard=6), done(2, "found", "ann", heard=8)]
        self.check(rows, 5, 2, [(2, True), (3, False), (4, True)])

    def test_heard_by_day_whatever_the_number(self):
        rows = [done(2, "found", "ann", heard=8), done(1, "lost", "ann", heard=6), paper(2, "ann"), ANN, KING]
        self.check(rows, 5, 2, [(2, True), (1, False), (0, True)])
        rows = [done(2, "lost", "ann", heard=8), paper(2, "ann"), ANN, KING, done(2, "found", "ann", heard=9)]
        self.check(rows, 5, 1, [(1, True), (0, False), (4, True)])

    def test_a_row_heard_later_than_it_was_done(self):
        rows = [KING, ANN, paper(2, "ann", heard=30), copied(3, "bob", 2, heard=20)]
        self.check(rows, 5, 2, [(2, True)])
        self.check(rows, 5, 3, [(2, True)])
        self.check(rows, 2, 3, [])

    def test_the_order_among_rows_goes_by_their_days_still(self):
        # Heard ahead of the leave on which it leans, though done behind it.
        rows = [paper(5, "bob", heard=5), KING, ANN, leave(4, "ann", "bob", heard=9)]
        self.check(rows, 6, 0, [(3, True)])
        rows = [paper(4, "bob", heard=9), KING, ANN, leave(5, "ann", "bob", heard=5)]
        self.check(rows, 6, 0, [])
        self.check([copied(5, "eve", 1), paper(5, "ann"), KING, ANN], 6, 0, [])
        self.check([copied(5, "eve", 1), paper(4, "ann", heard=7), KING, ANN], 6, 0, [(1, True)])

    def test_a_row_that_changes_nothing_is_not_told(self):
        rows = [KING, ANN, paper(2, "ann"), paper(3, "ann"), leave(3, "ann", "ann"), done(8, "death", "bob"),
                call(9, "ann", 2), call(10, "ann", 2)]
        self.check(rows, 9, 2, [(2, True), (6, False)])
        self.check(rows, 8, 2, [(2, True)])

    def test_a_claim_heard_of_later_changes_it(self):
        rows = [KING, ANN, paper(5, "ann"), done(1, "named", "king", "bob", heard=7),
                done(2, "death", "bob", heard=8), done(3, "chosen", "ann", "king", "eve", 4, heard=9)]
        self.check(rows, 6, 2, [(2, True), (3, False), (4, True), (5, False)])

    def test_many_rows(self):
        rows = [KING, ANN, paper(2, "ann")]
        for day in range(3, 60):
            rows.append(done(2, "lost" if day % 2 else "found", "ann", heard=day))
        told = [(2, True)] + [(day, day % 2 == 0) for day in range(3, 60)]
        self.assertEqual(history(register_of(rows), 5, 2), told)

    def test_numbers_and_days_somewhat_beyond(self):
        for number in (-1, 7, 60):
            self.assertEqual(history(register_of(LONG), 7, number), [])
        self.assertEqual(history(register_of([KING, ANN, paper(2, "ann")]), 10000, 2), [(2, True)])
        self.assertEqual(history((), 5, 0), [])


class TestParted(unittest.TestCase):
    def check(self, one, other, told):
        one, other = register_of(one), register_of(other)
        self.assertEqual(parted(one, other), told)
        self.assertEqual(parted(other, one), told)
        self.check_by_each_day(one, other, told)

    def check_by_each_day(self, one, other, told):
        ways = [(known, day) for known in range(14) for day in range(14)]
        apart = [way for way in ways if judged(one, *way) != judged(other, *way)]
        if told is None:
            self.assertEqual(apart, [])
        elif max(told) < 14:
            self.assertEqual(apart[0], told)

    def test_alike(self):
        rows = [KING, ANN, paper(2, "ann")]
        self.check(rows, rows, None)
        self.check([], [], None)

    def test_without_papers(self):
        self.check([], [KING], None)
        self.check([], [KING, ANN, leave(2, "ann", "bob")], None)
        self.check([KING], [root("duke", 3, 1, "last", heard=7)], None)

    def test_rows_that_never_hold(self):
        self.check([KING, ANN, paper(2, "ann")], [KING, ANN, paper(2, "ann"), paper(2, "bob")], None)
        self.check([KING, ANN, paper(2, "ann"), paper(3, "bob")], [KING, ANN, paper(2, "ann"), paper(4, "eve")], None)
        self.check([], [KING, ANN, paper(6, "ann", 1, (2, 6))], None)

    def test_an_office_of_another_name(self):
        self.check([KING, ANN, paper(2, "ann")], [root("duke"), done(0, "named", "duke", "ann"), paper(2, "ann")], None)

    def test_a_row_that_holds(self):
        self.check([KING, ANN], [KING, ANN, paper(2, "ann")], (2, 2))
        self.check([KING, ANN], [KING, ANN, paper(2, "ann", 1, (4, 6))], (2, 4))
        self.check([], [KING, ANN, paper(0, "ann")], (0, 0))

    def test_another_number(self):
        self.check([KING, ANN, paper(2, "ann")], [KING, paper(2, "ann"), ANN], (2, 2))

    def test_words_or_whom(self):
        self.check([KING, ANN, paper(2, "ann", pieces=("a",))], [KING, ANN, paper(2, "ann", pieces=("b",))], (2, 2))
        self.check([KING, ANN, paper(2, "ann")], [KING, ANN, paper(2, "ann", whom="bob")], (2, 2))
        self.check([KING, ANN, like(2, "ann", 7)], [KING, ANN, like(2, "ann", 8)], (2, 2))
        self.check([KING, ANN, like(2, "ann", 2, changes=((0, "a"),))], [KING, ANN, like(2, "ann", 2)], None)

    def test_a_day(self):
        self.check([KING, ANN, paper(2, "ann", heard=9)], [KING, ANN, paper(3, "ann", heard=9)], (9, 2))
        self.check([KING, ANN, paper(2, "ann", 1, (0, 7))], [KING, ANN, paper(2, "ann", 1, (0, 8))], (2, 7))
        self.check([KING, ANN, paper(2, "ann", 1, (5, 8))], [KING, ANN, paper(2, "ann", 1, (4, 8))], (2, 4))
        self.check([KING, ANN, paper(2, "ann", 1, (0, 7))], [KING, ANN, paper(2, "ann")], (2, 7))
        self.check([KING, ANN, paper(2, "ann", 1, (0, 9999))], [KING, ANN, paper(2, "ann")], (2, 9999))

    def test_what_is_known_alone(self):
        self.check([KING, ANN, paper(2, "ann", heard=5)], [KING, ANN, paper(2, "ann", heard=6)], (5, 2))
        self.check([root("king", heard=8), ANN, paper(2, "ann")], [root("king", heard=9), ANN, paper(2, "ann")], (8, 2))
        self.check([root("king", heard=9), done(0, "named", "king", "ann", heard=8), paper(2, "ann")],
                   [root("king", heard=8), done(0, "named", "king", "ann", heard=9), paper(2, "ann")], None)

    def test_the_least_known_first_then_the_least_day(self):
        one = [KING, ANN, paper(2, "ann", heard=9), paper(3, "ann", 1, (8, None), heard=6)]
        self.check(one, [KING, ANN], (6, 8))
        self.check(one, [KING, ANN, paper(2, "ann", heard=9)], (6, 8))
        self.check(one, [KING, ANN, paper(5, "bob"), paper(3, "ann", 1, (8, None), heard=6)], (9, 2))
        self.check(one, one[:3] + [paper(3, "ann", 1, (9, None), heard=6)], (6, 8))

    def test_a_call(self):
        self.check([KING, ANN, paper(2, "ann"), call(5, "ann", 2)], [KING, ANN, paper(2, "ann")], (5, 5))
        self.check([KING, ANN, paper(2, "ann"), call(5, "ann", 2, heard=8)], [KING, ANN, paper(2, "ann")], (8, 5))
        self.check([KING, ANN, paper(2, "ann"), call(5, "bob", 2)], [KING, ANN, paper(2, "ann")], None)

    def test_a_choice_for_a_later_day(self):
        one = [KING, ANN, done(2, "chosen", "ann", "king", "bob", 6), paper(7, "bob")]
        self.check(one, [KING, ANN, done(2, "chosen", "ann", "king", "bob", 7), paper(7, "bob")], None)
        self.check(one, [KING, ANN, done(2, "chosen", "ann", "king", "bob", 8), paper(7, "bob")], (7, 7))

    def test_more_rows_are_not_refused(self):
        self.check(LONG, LONG, None)
        self.check(LONG, LONG[:6], (7, 7))


class TestTheAskersOwn(unittest.TestCase):
    def test_each_told_list(self):
        book = register_of(LONG + [call(8, "eve", 4)])
        before = copy.deepcopy(book)
        check_own(self, lambda: moments(book), [0, 2, 3, 4, 6, 7, 8, 10, 20])
        check_own(self, lambda: history(book, 7, 6), [(6, True)])
        check_own(self, lambda: history(book, 8, 4), [])
        parted(book[:4], book[1:5])
        self.assertEqual(book, before)


if __name__ == "__main__":
    unittest.main()
