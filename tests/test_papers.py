import copy
import unittest

from samples import ANN, KING, LONG, call, check_own, copied, done, leave, like, paper, root
from sealchain.chains import standing
from sealchain.papers import holds, judged, words
from sealchain.registers import register_of

PASS = ("let", "him", "pass")


class TestWords(unittest.TestCase):
    def check(self, rows, number, told, known=9999):
        answer = words(register_of(rows), known, number)
        self.assertEqual(answer, told)
        self.assertIsInstance(answer, tuple)
        self.assertIsInstance(answer[1], {"words": tuple, "ring": list, "lacks": int, "beyond": int}[answer[0]])

    def check_like(self, pieces, changes, told):
        self.check([paper(4, "ann", pieces=pieces), like(5, "ann", 0, changes=changes)], 1, told)

    def test_of_a_paper(self):
        for pieces in (("let",), PASS, tuple("abcdefgh"), ("same", "same")):
            self.check([paper(4, "ann", pieces=pieces)], 0, ("words", pieces))

    def test_of_a_copy_of_a_paper(self):
        self.check([paper(4, "ann", pieces=PASS), copied(5, "bob", 0)], 1, ("words", PASS))

    def test_of_a_copy_of_a_like_and_of_a_copy(self):
        rows = [paper(4, "ann", pieces=PASS), like(5, "bob", 0, changes=((2, "stay"),)), copied(6, "eve", 1),
                copied(7, "dan", 2), copied(7, "dan", 0), copied(8, "dan", 4)]
        for number in (1, 2, 3):
            self.check(rows, number, ("words", ("let", "him", "stay")))
        for number in (0, 4, 5):
            self.check(rows, number, ("words", PASS))

    def test_of_a_like_of_a_paper_a_like_and_a_copy(self):
        rows = [paper(4, "ann", pieces=PASS), like(5, "ann", 0, changes=((0, "do"),)), copied(5, "ann", 0),
                like(6, "ann", 1, changes=((1, "her"),)), like(6, "ann", 2, changes=((1, "her"),)),
                copied(7, "eve", 3), like(8, "eve", 5, changes=((3, "too"),))]
        self.check(rows, 1, ("words", ("do", "him", "pass")))
        self.check(rows, 3, ("words", ("do", "her", "pass")))
        self.check(rows, 4, ("words", ("let", "her", "pass")))
        self.check(rows, 6, ("words", ("do", "her", "pass", "too")))

    def test_a_like_without_changes(self):
        self.check_like(PASS, (), ("words", PASS))

    def test_changes_instead_of_a_piece(self):
        self.check_like(PASS, ((0, "do"),), ("words", ("do", "him", "pass")))
        self.check_like(PASS, ((1, "her"),), ("words", ("let", "her", "pass")))
        self.check_like(PASS, ((2, "stay"),), ("words", ("let", "him", "stay")))
        self.check_like(("let",), ((0, "do"),), ("words", ("do",)))
        self.check_like(PASS, ((1, "him"),), ("words", PASS))

    def test_a_change_behind_the_last_piece(self):
        self.check_like(PASS, ((3, "too"),), ("words", PASS + ("too",)))
        self.check_like(("let",), ((1, "him"),), ("words", ("let", "him")))
        self.check_like(tuple("abcdefg"), ((7, "h"),), ("words", tuple("abcdefgh")))

    def test_several_changes(self):
        self.check_like(PASS, ((0, "do"), (2, "stay")), ("words", ("do", "him", "stay")))
        self.check_like(PASS, ((2, "stay"), (3, "here"), (4, "now")), ("words", ("let", "him", "stay", "here", "now")))
        self.check_like(("a",), tuple((k, "xyzuvwpq"[k]) for k in range(8)), ("words", tuple("xyzuvwpq")))
        self.check_like(("a",), tuple((k, "abcdefgh"[k]) for k in range(1, 8)), ("words", tuple("abcdefgh")))

    def test_a_place_beyond(self):
        for place in (4, 5, 7):
            self.check_like(PASS, ((place, "too"),), ("beyond", 1))
        self.check_like(("let",), ((2, "him"),), ("beyond", 1))
        self.check_like(PASS, ((0, "do"), (3, "too"), (5, "far")), ("beyond", 1))
        self.check_like(PASS, ((3, "too"), (4, "far")), ("words", PASS + ("too", "far")))
        self.check_like(tuple("abcdef"), ((7, "h"),), ("beyond", 1))

    def test_how_many_there_are_then(self):
        rows = [paper(4, "ann", pieces=PASS), like(5, "ann", 0, changes=((3, "too"),)),
                like(6, "ann", 1, changes=((4, "far"),)), like(6, "ann", 0, changes=((4, "far"),)),
                like(6, "ann", 1, changes=((5, "far"),))]
        self.check(rows, 2, ("words", PASS + ("too", "far")))
        self.check(rows, 3, ("beyond", 3))
        self.check(rows, 4, ("beyond", 4))

    def test_beyond_is_the_first_from_the_paper_on(self):
        rows = [paper(4, "ann", pieces=PASS), like(5, "ann", 0, changes=((7, "a"),)),
                like(6, "ann", 1, changes=((7, "b"),)), copied(7, "ann", 2), like(8, "ann", 0),
                like(8, "ann", 4, changes=((6, "c"),))]
        self.check(rows, 2, ("beyond", 1))
        self.check(rows, 3, ("beyond", 1))
        self.check(rows, 5, ("beyond", 5))

    def test_a_number_that_no_row_has(self):
        for row in (like(4, "ann", 7), copied(4, "ann", 7)):
            self.check([row], 0, ("lacks", 7))
            self.check([row, copied(5, "bob", 0)], 1, ("lacks", 7))
            self.check([row, like(5, "bob", 0, changes=((7, "x"),))], 1, ("lacks", 7))
        self.check([like(4, "ann", 1)], 0, ("lacks", 1))
        self.check([like(4, "ann", 59)], 0, ("lacks", 59))

    def test_a_row_of_another_kind(self):
        others = [KING, ANN, done(2, "chosen", "ann", "king", "bob", 4), done(2, "heir", "ann", "king", "bob"),
                  done(2, "death", "bob"), done(2, "lost", "bob"), done(2, "found", "bob"), leave(2, "ann", "bob"),
                  call(2, "ann", 1)]
        for other in others:
            rows = [other, paper(3, "ann"), like(4, "ann", 0), copied(4, "ann", 0), copied(5, "ann", 2)]
            for number in (0, 2, 3, 4):
                self.check(rows, number, ("lacks", 0))

    def test_a_row_that_is_not_known(self):
        rows = [paper(4, "ann", heard=8, pieces=PASS), like(5, "ann", 0, changes=((7, "x"),)), copied(5, "ann", 0),
                copied(6, "bob", 2, heard=9), like(7, "bob", 3)]
        for number in (0, 1, 2):
            self.check(rows, number, ("lacks", 0), known=7)
        self.check(rows, 3, ("lacks", 3), known=7)
        self.check(rows, 4, ("lacks", 3), known=7)
        self.check(rows, 4, ("lacks", 3), known=8)
        self.check(rows, 4, ("words", PASS), known=9)
        self.check(rows, 0, ("words", PASS), known=8)
        self.check(rows, 1, ("beyond", 1), known=8)
        self.check(rows, 2, ("words", PASS), known=8)

    def test_the_row_itself_is_not_known(self):
        self.check([paper(4, "ann", heard=8)], 0, ("lacks", 0), known=7)
        self.check([like(4, "ann", 0, heard=8)], 0, ("lacks", 0), known=7)
        self.check([copied(4, "ann", 1, heard=8), paper(4, "ann")], 0, ("lacks", 0), known=7)

    def test_a_ring_of_one(self):
        for row in (like(4, "ann", 0), copied(4, "ann", 0), like(4, "ann", 0, changes=((7, "x"),))):
            self.check([row], 0, ("ring", [0]))

    def test_a_ring_of_two(self):
        for rows in ([like(4, "ann", 1), copied(5, "ann", 0)], [copied(4, "ann", 1), copied(5, "ann", 0)]):
            for number in (0, 1):
                self.check(rows, number, ("ring", [0, 1]))

    def test_a_ring_of_more(self):
        rows = [paper(4, "ann"), copied(4, "ann", 4), like(4, "ann", 1), KING, like(5, "ann", 2)]
        for number in (1, 2, 4):
            self.check(rows, number, ("ring", [1, 2, 4]))
        rows = [copied(4, "ann", (number + 7) % 12) for number in range(12)]
        self.check(rows, 5, ("ring", list(range(12))))

    def test_a_row_that_leads_into_a_ring(self):
        rows = [copied(4, "ann", 3), like(4, "ann", 2), like(4, "ann", 3, changes=((7, "x"),)), copied(5, "ann", 4),
                like(5, "ann", 3), copied(5, "bob", 5), like(5, "bob", 5)]
        for number in (0, 1, 2, 3, 4):
            self.check(rows, number, ("ring", [3, 4]))
        for number in (5, 6):
            self.check(rows, number, ("ring", [5]))

    def test_a_ring_broken_by_a_row_that_is_not_known(self):
        rows = [like(4, "ann", 1), like(5, "ann", 2, heard=8), like(5, "ann", 0)]
        for number in range(3):
            self.check(rows, number, ("lacks", 1), known=7)
            self.check(rows, number, ("ring", [0, 1, 2]), known=8)

    def test_what_is_met_on_the_way_comes_ahead_of_beyond(self):
        far = ((7, "x"),)
        self.check([like(4, "ann", 9, changes=far), like(4, "ann", 0, changes=far)], 1, ("lacks", 9))
        self.check([like(4, "ann", 1, changes=far), like(4, "ann", 0, changes=far)], 1, ("ring", [0, 1]))

    def test_whether_it_stands_is_not_asked(self):
        rows = [paper(9, "eve", pieces=PASS), copied(4, "bob", 0), like(2, "dan", 1), done(0, "death", "bob"),
                call(9, "eve", 0)]
        self.assertEqual(standing(register_of(rows), 9999, 20), [])
        for number in range(3):
            self.check(rows, number, ("words", PASS))
        for number in (3, 4):
            self.check(rows, number, ("lacks", number))

    def test_a_long_way(self):
        rows = [paper(4, "ann", pieces=PASS)] + [like(5, "ann", number) for number in range(59)]
        self.check(rows, 59, ("words", PASS))
        rows = [paper(4, "ann", pieces=("a",))]
        rows += [like(5, "ann", number, changes=((number + 1, "b"),)) for number in range(7)]
        self.check(rows, 7, ("words", ("a",) + ("b",) * 7))
        rows = [copied(5, "ann", min(number + 1, 59)) for number in range(60)]
        self.check(rows, 0, ("ring", [59]))

    def test_numbers_somewhat_beyond(self):
        for number in (-1, 2, 60, 99):
            self.check([paper(4, "ann"), paper(4, "ann")], number, ("lacks", number))


class TestHolds(unittest.TestCase):
    def check(self, rows, day, number, told, person=None, known=9999):
        book = register_of(rows)
        self.assertIs(holds(book, known, day, number, person), told, (day, number))
        if person is None:
            self.assertIs(holds(book, known, day, number), told)
            held = [each[0] for each in judged(book, known, day)]
            self.assertEqual(number in held, told)

    def test_the_days_of_the_stretch(self):
        rows = [KING, ANN, paper(2, "ann", 1, (5, 8))]
        for day, told in [(0, False), (2, False), (4, False), (5, True), (7, True), (8, False), (9999, False)]:
            self.check(rows, day, 2, told)

    def test_a_stretch_without_an_end(self):
        rows = [KING, ANN, paper(2, "ann", 1, (5, None))]
        for day, told in [(4, False), (5, True), (9998, True), (9999, True), (10000, True)]:
            self.check(rows, day, 2, told)

    def test_a_stretch_that_begins_ahead_of_the_row(self):
        rows = [KING, ANN, paper(4, "ann", 1, (2, 6))]
        for day, told in [(2, False), (3, False), (4, True), (5, True), (6, False)]:
            self.check(rows, day, 2, told)

    def test_a_stretch_over_ahead_of_the_row(self):
        rows = [KING, ANN, paper(6, "ann", 1, (2, 6)), copied(7, "bob", 2)]
        for day in (2, 5, 6, 7, 9):
            self.check(rows, day, 2, False)
            self.check(rows, day, 3, False)
        self.assertEqual(standing(register_of(rows), 9999, 7), [2, 3])

    def test_a_stretch_of_one_day(self):
        rows = [KING, ANN, paper(2, "ann", 1, (5, 6))]
        for day, told in [(4, False), (5, True), (6, False)]:
            self.check(rows, day, 2, told)

    def test_a_paper_that_does_not_stand(self):
        self.check([KING, ANN, paper(2, "bob")], 9, 2, False)
        self.check([KING, ANN, paper(2, "ann"), done(2, "lost", "ann")], 9, 2, False)
        self.check([KING, ANN, paper(2, "ann"), done(2, "death", "ann")], 9, 2, False)
        self.check([KING, ANN, paper(2, "ann"), done(3, "death", "ann")], 9, 2, True)

    def test_other_rows(self):
        rows = [KING, ANN, leave(2, "ann", "bob"), call(3, "ann", 9), done(4, "lost", "ann")]
        self.assertEqual(standing(register_of(rows), 9999, 9), [2])
        for number in range(5):
            self.check(rows, 9, number, False)

    def test_a_like_by_its_own_stretch(self):
        rows = [KING, ANN, paper(2, "ann", 1, (2, 4)), like(3, "ann", 2, 1, (6, 8)), like(3, "ann", 50, 1, (6, 8)),
                like(3, "bob", 2, 1, (6, 8))]
        for day, told in [(3, False), (5, False), (6, True), (7, True), (8, False)]:
            self.check(rows, day, 3, told)
            self.check(rows, day, 4, told)
            self.check(rows, day, 5, False)

    def test_a_copy_by_the_stretch_of_the_paper(self):
        rows = [KING, ANN, paper(2, "ann", 1, (4, 9)), copied(6, "bob", 2), copied(7, "eve", 3)]
        for day in range(12):
            self.check(rows, day, 2, 4 <= day < 9)
            self.check(rows, day, 3, 6 <= day < 9)
            self.check(rows, day, 4, 7 <= day < 9)

    def test_a_copy_of_a_like(self):
        rows = [KING, ANN, paper(1, "ann", 1, (2, 4)), like(2, "ann", 2, 1, (5, 8)), copied(3, "bob", 3),
                copied(3, "bob", 4)]
        for day in range(10):
            for number in (3, 4, 5):
                self.check(rows, day, number, 5 <= day < 8)

    def test_a_copy_ahead_of_the_start(self):
        rows = [KING, ANN, paper(2, "ann", 1, (4, None)), copied(3, "bob", 2)]
        self.check(rows, 3, 3, False)
        self.check(rows, 4, 3, True)

    def test_a_copy_of_a_paper_that_is_called_in(self):
        rows = [KING, ANN, paper(2, "ann"), copied(3, "bob", 2), copied(4, "eve", 3), call(7, "ann", 2)]
        for day in range(10):
            self.check(rows, day, 3, 3 <= day < 7)
            self.check(rows, day, 4, 4 <= day < 7)

    def test_a_copy_that_is_called_in(self):
        rows = [KING, ANN, paper(2, "ann"), copied(3, "bob", 2), copied(4, "eve", 3), call(7, "bob", 3),
                call(5, "ann", 3)]
        for day in range(10):
            self.check(rows, day, 2, 2 <= day)
            self.check(rows, day, 3, 3 <= day < 7)
            self.check(rows, day, 4, 4 <= day < 7)

    def test_a_copy_of_a_paper_that_falls(self):
        rows = [KING, ANN, leave(1, "ann", "eve"), paper(2, "eve"), copied(3, "bob", 3), call(6, "ann", 2)]
        for day in range(10):
            self.check(rows, day, 3, 2 <= day < 6)
            self.check(rows, day, 4, 3 <= day < 6)
        self.check([KING, ANN, paper(2, "eve"), copied(3, "bob", 2)], 9, 3, False)

    def test_a_copy_that_is_not_sound(self):
        self.check([KING, ANN, paper(2, "ann"), copied(3, "bob", 2), done(3, "lost", "bob")], 9, 3, False)
        self.check([KING, ANN, paper(2, "ann"), copied(3, "bob", 2), done(4, "lost", "bob")], 9, 3, True)

    def test_a_copy_of_what_is_not_ahead(self):
        self.check([KING, ANN, copied(3, "bob", 3), paper(3, "ann")], 9, 2, False)
        self.check([KING, ANN, copied(3, "bob", 2)], 9, 2, False)
        self.check([KING, ANN, copied(3, "bob", 3), copied(3, "bob", 2)], 9, 3, False)
        self.check([KING, ANN, leave(2, "ann", "bob"), copied(3, "bob", 2)], 9, 3, False)

    def test_for_whom(self):
        rows = [KING, ANN, paper(2, "ann", 1, (3, 8)), paper(2, "ann", 1, (3, 8), "bob"), copied(3, "eve", 2),
                copied(3, "eve", 3), like(3, "ann", 2, 1, (3, 8), "eve"), like(3, "ann", 3, 1, (3, 8)),
                copied(4, "dan", 5)]
        for number, only in [(2, None), (3, "bob"), (4, None), (5, "bob"), (6, "eve"), (7, None), (8, "bob")]:
            for person in ("ann", "bob", "eve", "dan", "zoe", "king"):
                self.check(rows, 5, number, only in (None, person), person)
                self.check(rows, 8, number, False, person)
            self.check(rows, 5, number, True)

    def test_rows_that_are_not_known(self):
        rows = [root("king", heard=3), done(0, "named", "king", "ann", heard=4), paper(2, "ann", heard=5),
                copied(4, "bob", 2, heard=7), call(6, "ann", 2, heard=9), done(4, "lost", "bob", heard=8)]
        for known, told in [(3, False), (4, False), (5, True), (8, True), (9, False)]:
            self.check(rows, 6, 2, told, known=known)
        for known, told in [(6, False), (7, True), (8, False), (9, False)]:
            self.check(rows, 6, 3, told, known=known)
            self.check(rows, 6, 3, told, "eve", known=known)
        self.check(rows, 5, 2, True, known=9)
        rows = [KING, ANN, paper(2, "ann", heard=9), copied(4, "bob", 2)]
        self.check(rows, 6, 3, False, known=8)
        self.check(rows, 6, 3, True, known=9)

    def test_numbers_somewhat_beyond(self):
        for number in (-1, -4, 7, 60, 99):
            self.check(LONG, 7, number, False)


class TestJudged(unittest.TestCase):
    def check(self, rows, day, told, known=9999):
        self.assertEqual(judged(register_of(rows), known, day), told)

    def test_no_rows(self):
        self.check([], 0, [])

    def test_a_day_on_which_nothing_holds(self):
        for day in (0, 3, 8, 9999):
            self.check(LONG, day, [])
        self.check([KING, ANN, leave(2, "ann", "bob")], 9, [])

    def test_by_number_whom_and_words(self):
        rows = [copied(5, "eve", 2), KING, paper(4, "ann", 1, (4, 9), "bob", PASS), ANN,
                like(5, "ann", 2, 1, (6, 8), changes=((3, "too"),)), copied(6, "dan", 4), leave(1, "ann", "bob")]
        first, last = ("bob", ("words", PASS)), (None, ("words", PASS + ("too",)))
        self.check(rows, 4, [(2,) + first])
        self.check(rows, 5, [(0,) + first, (2,) + first])
        self.check(rows, 6, [(0,) + first, (2,) + first, (4,) + last, (5,) + last])
        self.check(rows, 8, [(0,) + first, (2,) + first])
        self.check(rows, 9, [])

    def test_whom_of_a_like_is_its_own(self):
        rows = [KING, ANN, paper(2, "ann", whom="bob"), like(3, "ann", 2, whom="eve"), like(3, "ann", 2)]
        told = ("words", ("let",))
        self.check(rows, 9, [(2, "bob", told), (3, "eve", told), (4, None, told)])

    def test_words_that_are_none(self):
        rows = [KING, ANN, like(2, "ann", 50), like(2, "ann", 4), like(2, "ann", 3, whom="bob"),
                paper(2, "bob", pieces=PASS), like(2, "ann", 5, changes=((5, "x"),)), copied(3, "eve", 4),
                like(3, "ann", 0), like(3, "ann", 7)]
        self.check(rows, 9, [
            (2, None, ("lacks", 50)), (3, None, ("ring", [3, 4])), (4, "bob", ("ring", [3, 4])),
            (6, None, ("beyond", 6)), (7, "bob", ("ring", [3, 4])), (8, None, ("lacks", 0)),
            (9, None, ("ring", [3, 4])),
        ])

    def test_words_of_what_does_not_stand(self):
        rows = [KING, ANN, paper(9, "zoe", 128, (0, 1), "zoe", PASS), like(2, "ann", 2)]
        self.check(rows, 5, [(3, None, ("words", PASS))])

    def test_rows_that_are_not_known(self):
        rows = [KING, ANN, paper(2, "ann", heard=5), like(3, "ann", 2, heard=4)]
        self.check(rows, 9, [], known=3)
        self.check(rows, 9, [(3, None, ("lacks", 2))], known=4)
        self.check(rows, 9, [(2, None, ("words", ("let",))), (3, None, ("words", ("let",)))], known=5)


class TestTheAskersOwn(unittest.TestCase):
    def test_each_told_list(self):
        book = register_of([KING, ANN, paper(2, "ann"), like(2, "ann", 4), like(2, "ann", 3)])
        before = copy.deepcopy(book)
        ring = ("ring", [3, 4])
        check_own(self, lambda: words(book, 9999, 3)[1], [3, 4])
        check_own(self, lambda: judged(book, 9999, 2), [(2, None, ("words", ("let",))), (3, None, ring),
                                                        (4, None, ring)])
        check_own(self, lambda: judged(book, 9999, 2)[1][2][1], [3, 4])
        self.assertEqual(book, before)

    def test_the_rings_of_one_answer_are_not_one_list(self):
        book = register_of([KING, ANN, like(2, "ann", 3), like(2, "ann", 2)])
        told = judged(book, 9999, 2)
        told[0][2][1].append("more")
        self.assertEqual(told[1], (3, None, ("ring", [2, 3])))


if __name__ == "__main__":
    unittest.main()
