import copy
import unittest

from samples import ANN, GOOD, KING, LONG, call, check_own, copied, done, leave, like, paper, root
from sealchain.chains import bases, calls, chain, is_chain, standing
from sealchain.registers import register_of


class TestCalls(unittest.TestCase):
    def check(self, rows, number, day, told, known=9999):
        self.assertEqual(calls(register_of(rows), known, number, day), told)

    def test_by_its_own_sealer(self):
        for row in (leave(4, "eve", "bob"), paper(4, "eve"), like(4, "eve", 0), copied(4, "eve", 0)):
            self.check([row, call(6, "eve", 0)], 0, 6, [1])

    def test_by_a_holder_of_an_office_over_its_matters(self):
        for row in (leave(4, "eve", "bob", 5), paper(4, "eve", 5), like(4, "eve", 0, 5)):
            for matters, told in [(5, [3]), (7, [3]), (255, [3]), (1, []), (4, []), (2, []), (250, [])]:
                self.check([root("king", matters), ANN, row, call(6, "ann", 2)], 2, 9, told)

    def test_by_others(self):
        row = paper(4, "eve", whom="dan")
        for caller in ("bob", "dan", "king"):
            self.check([KING, ANN, row, call(6, caller, 2)], 2, 9, [])
        self.check([KING, ANN, leave(4, "eve", "dan"), call(6, "dan", 2)], 2, 9, [])

    def test_of_a_copy_by_its_own_sealer_alone(self):
        rows = [root("king", 255), ANN, paper(3, "eve"), copied(4, "dan", 2)]
        for caller, told in [("dan", [4]), ("ann", []), ("eve", []), ("bob", [])]:
            self.check(rows + [call(6, caller, 3)], 3, 9, told)

    def test_a_call_of_what_a_copy_is_of_is_none_of_the_copy(self):
        rows = [KING, ANN, paper(3, "ann"), copied(4, "dan", 2), call(5, "ann", 2)]
        self.check(rows, 2, 9, [4])
        self.check(rows, 3, 9, [])

    def test_the_office_is_held_on_the_calls_day(self):
        rows = [KING, done(5, "named", "king", "ann"), done(8, "death", "ann"), paper(3, "eve"), call(4, "ann", 3),
                call(5, "ann", 3), call(7, "ann", 3)]
        self.check(rows, 3, 9, [5, 6])
        rows = [KING, ANN, done(2, "chosen", "ann", "king", "bob", 5), paper(3, "eve"), call(4, "ann", 3),
                call(5, "ann", 3), call(4, "bob", 3), call(5, "bob", 3)]
        self.check(rows, 3, 9, [4, 7])

    def test_one_of_several_offices(self):
        rows = [root("duke", 6), root("king", 1), done(0, "named", "duke", "ann"), ANN, paper(3, "eve", 2),
                paper(3, "eve", 1), paper(3, "eve", 3), call(4, "ann", 4), call(4, "ann", 5), call(4, "ann", 6)]
        self.check(rows, 4, 9, [7])
        self.check(rows, 5, 9, [8])
        # Neither office alone has both matters.
        self.check(rows, 6, 9, [])

    def test_where_the_office_is_parted(self):
        rows = [ANN, done(1, "named", "king", "bob"), paper(3, "eve"), call(4, "ann", 3), call(4, "bob", 3)]
        for rule, told in [("open", []), ("first", [4]), ("last", [5])]:
            self.check([root("king", rule=rule)] + rows, 3, 9, told)

    def test_an_office_without_a_root_or_with_one_heard_late(self):
        self.check([ANN, paper(3, "eve"), call(4, "ann", 1)], 1, 9, [])
        rows = [root("king", heard=8), ANN, paper(3, "eve"), call(4, "ann", 2)]
        self.check(rows, 2, 9, [], known=7)
        self.check(rows, 2, 9, [3], known=8)

    def test_a_call_that_is_not_sound(self):
        rows = [paper(3, "eve"), call(6, "eve", 0)]
        for word in ("death", "lost"):
            for day, told in [(5, []), (6, []), (7, [1])]:
                self.check(rows + [done(day, word, "eve")], 0, 9, told)
        self.check(rows + [done(5, "lost", "eve"), done(6, "found", "eve")], 0, 9, [1])

    def test_a_call_of_a_later_day(self):
        rows = [paper(3, "eve"), call(6, "eve", 0)]
        for day, told in [(0, []), (3, []), (5, []), (6, [1]), (7, [1]), (9999, [1])]:
            self.check(rows, 0, day, told)

    def test_a_call_ahead_of_the_row(self):
        self.check([call(2, "eve", 1), paper(3, "eve")], 1, 1, [])
        self.check([call(2, "eve", 1), paper(3, "eve")], 1, 2, [0])
        self.check([call(2, "eve", 1), paper(3, "eve")], 1, 3, [0])
        self.check([call(3, "eve", 1), paper(3, "eve")], 1, 3, [0])
        self.check([paper(3, "eve"), call(2, "eve", 0)], 0, 3, [1])

    def test_several_calls_rising(self):
        rows = [KING, call(9, "eve", 3), ANN, paper(3, "eve"), call(5, "ann", 3), call(4, "eve", 3), call(4, "bob", 3),
                call(4, "eve", 2)]
        self.check(rows, 3, 4, [5])
        self.check(rows, 3, 5, [4, 5])
        self.check(rows, 3, 9, [1, 4, 5])

    def test_a_call_of_another_number(self):
        self.check([paper(3, "eve"), paper(3, "eve"), call(4, "eve", 1)], 0, 9, [])

    def test_rows_that_are_not_known(self):
        rows = [paper(3, "eve", heard=7), call(4, "eve", 0, heard=8)]
        self.check(rows, 0, 9, [], known=6)
        self.check(rows, 0, 9, [], known=7)
        self.check(rows, 0, 9, [1], known=8)
        for row in (leave(3, "eve", "bob", heard=8), paper(3, "eve", heard=8), like(3, "eve", 0, heard=8),
                    copied(3, "eve", 0, heard=8)):
            rows = [row, call(4, "eve", 0, heard=7)]
            self.check(rows, 0, 9, [], known=7)
            self.check(rows, 0, 9, [1], known=8)

    def test_other_rows(self):
        for word in ("root", "named", "chosen", "heir", "death", "lost", "found", "call"):
            rows = [KING, ANN, GOOD[word]] if word != "root" else [KING, ANN, root("duke")]
            rows = rows + [call(4, "ann", 2), call(4, "bob", 2)]
            self.check(rows, 2, 9, [])
        self.check([paper(3, "eve"), call(4, "eve", 1), call(4, "eve", 1)], 1, 9, [])


class TestOfficeBases(unittest.TestCase):
    def check(self, rows, told, known=9999):
        """Of the last row."""
        book = register_of(rows)
        self.assertEqual(bases(book, known, len(book) - 1), told)

    def test_of_each_kind_of_row(self):
        for row in (leave(4, "ann", "bob"), paper(4, "ann"), like(4, "ann", 0)):
            self.check([KING, ANN, row], [("office", "king", 1)])
        self.check([KING, ANN, copied(4, "ann", 0)], [])

    def test_by_matters(self):
        for own in (leave(4, "ann", "bob", 5), paper(4, "ann", 5), like(4, "ann", 0, 5)):
            for matters, borne in [(5, True), (7, True), (255, True), (1, False), (4, False), (250, False)]:
                self.check([root("king", matters), ANN, own], [("office", "king", 1)] if borne else [])

    def test_by_further(self):
        for further in range(10):
            for own in range(10):
                borne = own < further
                self.check([root("king", 7, further), ANN, leave(4, "ann", "bob", further=own)],
                           [("office", "king", 1)] if borne else [])
            self.check([root("king", 7, further), ANN, paper(4, "ann")], [("office", "king", 1)])
            self.check([root("king", 7, further), ANN, like(4, "ann", 0)], [("office", "king", 1)])

    def test_no_stretch_bounds_an_office(self):
        for stretch in ((0, None), (0, 1), (9998, 9999)):
            self.check([KING, ANN, paper(4, "ann", 1, stretch)], [("office", "king", 1)])

    def test_held_on_the_rows_day(self):
        rows = [KING, done(5, "named", "king", "ann"), done(8, "death", "ann")]
        for day, borne in [(4, False), (5, True), (7, True), (8, False)]:
            self.check(rows + [paper(day, "ann")], [("office", "king", 1)] if borne else [])

    def test_a_claim_told_behind_on_the_same_day_counts(self):
        book = register_of([KING, paper(5, "ann"), done(5, "named", "king", "ann")])
        self.assertEqual(bases(book, 9999, 1), [("office", "king", 2)])

    def test_held_by_another_or_by_nobody(self):
        self.check([KING, ANN, paper(4, "bob")], [])
        self.check([KING, paper(4, "ann")], [])
        self.check([KING, ANN, paper(4, "king")], [])
        self.check([ANN, paper(4, "ann")], [])

    def test_where_the_office_is_parted(self):
        rows = [ANN, done(1, "named", "king", "bob")]
        for rule, ann, bob in [("open", [], []), ("first", [("office", "king", 1)], []),
                               ("last", [], [("office", "king", 2)])]:
            self.check([root("king", rule=rule)] + rows + [paper(4, "ann")], ann)
            self.check([root("king", rule=rule)] + rows + [paper(4, "bob")], bob)

    def test_the_number_is_that_of_the_oldest_claim(self):
        rows = [root("king", rule="last"), ANN, done(1, "named", "king", "bob"), done(2, "named", "king", "ann")]
        self.check(rows + [paper(4, "ann")], [("office", "king", 1)])

    def test_several_offices_by_number(self):
        rows = [KING, root("duke"), root("earl", 6), done(2, "named", "duke", "ann"), done(1, "named", "earl", "ann"),
                done(3, "named", "king", "ann")]
        self.check(rows + [paper(4, "ann", 2)], [("office", "duke", 3), ("office", "earl", 4), ("office", "king", 5)])
        self.check(rows + [paper(4, "ann", 1)], [("office", "duke", 3), ("office", "king", 5)])

    def test_several_offices_of_one_number_by_name(self):
        rows = [KING, root("duke"), root("earl"), ANN, done(0, "named", "duke", "ann"), done(0, "named", "earl", "ann"),
                done(1, "heir", "ann", "king", "bob"), done(1, "heir", "ann", "earl", "bob"),
                done(1, "heir", "ann", "duke", "bob"), done(3, "death", "ann"), paper(4, "bob")]
        self.check(rows, [("office", "duke", 9), ("office", "earl", 9), ("office", "king", 9)])

    def test_roots_and_claims_that_are_not_known(self):
        rows = [root("king", heard=7), done(0, "named", "king", "ann", heard=8), paper(4, "ann")]
        self.check(rows, [], known=6)
        self.check(rows, [], known=7)
        self.check(rows, [("office", "king", 1)], known=8)

    def test_neither_a_lost_seal_nor_a_call_is_asked(self):
        rows = [KING, ANN, done(1, "lost", "ann"), call(4, "ann", 4), paper(4, "ann")]
        self.check(rows, [("office", "king", 1)])


class TestLeaveBases(unittest.TestCase):
    def check(self, rows, number, told, known=9999):
        self.assertEqual(bases(register_of(rows), known, number), told)

    def test_of_each_kind_of_row(self):
        ahead = leave(2, "ann", "bob", further=1)
        for row in (leave(4, "bob", "eve"), paper(4, "bob"), like(4, "bob", 0)):
            self.check([ahead, row], 1, [("leave", 0)])
        self.check([ahead, copied(4, "bob", 0)], 1, [])

    def test_it_is_not_asked_whether_they_stand(self):
        rows = [done(0, "death", "ann"), done(0, "lost", "bob"), leave(2, "ann", "bob"), call(2, "ann", 2),
                paper(4, "bob")]
        self.check(rows, 4, [("leave", 2)])

    def test_a_leave_to_another(self):
        self.check([leave(2, "ann", "eve"), paper(4, "bob")], 1, [])
        self.check([leave(2, "bob", "eve"), paper(4, "bob")], 1, [])

    def test_ahead_and_behind_by_day_and_by_number(self):
        for leave_day, paper_day, first, second in [(4, 4, True, False), (3, 4, True, True), (4, 3, False, False)]:
            given, sealed = leave(leave_day, "ann", "bob"), paper(paper_day, "bob")
            self.check([given, sealed], 1, [("leave", 0)] if first else [])
            self.check([sealed, given], 0, [("leave", 1)] if second else [])

    def test_the_order_does_not_hang_on_when_rows_were_heard(self):
        self.check([leave(2, "ann", "bob", heard=9), paper(4, "bob", heard=5)], 1, [("leave", 0)])
        self.check([leave(2, "ann", "bob", heard=9), paper(4, "bob", heard=5)], 1, [], known=8)

    def test_its_day_lies_in_the_stretch(self):
        for day, borne in [(4, False), (5, True), (9, True), (10, False)]:
            rows = [leave(0, "ann", "bob", 1, (5, 10)), paper(day, "bob", 1, (6, 8))]
            self.check(rows, 1, [("leave", 0)] if borne else [])

    def test_its_stretch_is_within(self):
        for bound, own, borne in [
            ((3, 10), (3, 10), True), ((3, 10), (3, 9), True), ((3, 10), (3, 11), False), ((3, 10), (4, 10), True),
            ((3, 10), (2, 10), False), ((3, 10), (3, None), False), ((3, None), (3, None), True),
            ((3, None), (3, 9999), True), ((3, 9999), (3, None), False), ((3, None), (2, None), False),
            ((3, 10), (10, 12), False), ((3, 10), (0, 3), False),
        ]:
            for row in (paper(5, "bob", 1, own), like(5, "bob", 0, 1, own), leave(5, "bob", "eve", 1, own)):
                rows = [leave(0, "ann", "bob", 1, bound, 1), row]
                self.check(rows, 1, [("leave", 0)] if borne else [])

    def test_by_matters(self):
        for row in (leave(4, "bob", "eve", 5), paper(4, "bob", 5), like(4, "bob", 0, 5)):
            for matters, borne in [(5, True), (7, True), (255, True), (1, False), (4, False), (250, False)]:
                self.check([leave(2, "ann", "bob", matters, further=1), row], 1, [("leave", 0)] if borne else [])

    def test_by_further(self):
        for further in range(10):
            for own in range(10):
                rows = [leave(2, "ann", "bob", further=further), leave(4, "bob", "eve", further=own)]
                self.check(rows, 1, [("leave", 0)] if own < further else [])
            self.check([leave(2, "ann", "bob", further=further), paper(4, "bob")], 1, [("leave", 0)])
            self.check([leave(2, "ann", "bob", further=further), like(4, "bob", 0)], 1, [("leave", 0)])

    def test_a_leave_to_oneself(self):
        rows = [leave(2, "bob", "bob", further=2), leave(3, "bob", "bob", further=1), paper(4, "bob")]
        self.check(rows, 0, [])
        self.check(rows, 1, [("leave", 0)])
        self.check(rows, 2, [("leave", 0), ("leave", 1)])

    def test_leaves_and_offices_by_number(self):
        rows = [leave(3, "ann", "bob"), KING, leave(2, "eve", "bob"), done(1, "named", "king", "bob"),
                leave(4, "ann", "bob"), paper(5, "bob")]
        self.check(rows, 5, [("leave", 0), ("leave", 2), ("office", "king", 3), ("leave", 4)])

    def test_no_other_row_is_a_base(self):
        for word in GOOD:
            if word not in ("leave", "root"):
                heard, deed = GOOD[word]
                self.check([(heard, deed), paper(9, "bob", 1, (9, 10)), paper(9, "ann", 1, (9, 10))], 1, [])
                self.check([(heard, deed), paper(9, "bob", 1, (9, 10)), paper(9, "ann", 1, (9, 10))], 2, [])

    def test_rows_that_are_not_known(self):
        for row in (leave(4, "bob", "eve", heard=8), paper(4, "bob", heard=8), like(4, "bob", 0, heard=8)):
            self.check([leave(2, "ann", "bob", further=1), row], 1, [], known=7)
            self.check([leave(2, "ann", "bob", further=1), row], 1, [("leave", 0)], known=8)
        rows = [leave(2, "ann", "bob", heard=8), paper(4, "bob")]
        self.check(rows, 1, [], known=7)
        self.check(rows, 1, [("leave", 0)], known=8)

    def test_other_rows_have_none(self):
        rows = [KING, ANN, leave(0, "ann", "ann", 255, (0, None), 9)]
        for word in ("root", "named", "chosen", "heir", "death", "lost", "found", "call"):
            row = GOOD[word] if word != "root" else root("duke")
            self.check(rows + [row], 3, [])


class TestCopyBases(unittest.TestCase):
    def check(self, rows, number, told, known=9999):
        self.assertEqual(bases(register_of(rows), known, number), told)

    def test_of_a_paper_a_like_and_a_copy(self):
        for row in (paper(3, "eve"), like(3, "eve", 5), copied(3, "eve", 7)):
            self.check([row, copied(4, "dan", 0)], 1, [("copy", 0)])

    def test_of_other_rows(self):
        for word in ("root", "named", "chosen", "heir", "death", "lost", "found", "leave", "call"):
            self.check([GOOD[word], copied(9, "dan", 0)], 1, [])

    def test_of_rows_behind(self):
        for row in (paper(4, "eve"), like(4, "eve", 5), copied(4, "eve", 7)):
            self.check([copied(4, "dan", 1), row], 0, [])
            self.check([copied(3, "dan", 1), row], 0, [])
            self.check([copied(5, "dan", 1), row], 0, [("copy", 1)])
            self.check([row, copied(4, "dan", 0)], 1, [("copy", 0)])
            self.check([row, copied(3, "dan", 0)], 1, [])

    def test_of_itself(self):
        self.check([copied(4, "dan", 0)], 0, [])

    def test_of_a_number_that_no_row_has(self):
        for of in (2, 58, 59):
            self.check([paper(3, "eve"), copied(4, "dan", of)], 1, [])

    def test_of_a_row_that_is_not_known(self):
        rows = [paper(3, "eve", heard=8), copied(4, "dan", 0)]
        self.check(rows, 1, [], known=7)
        self.check(rows, 1, [("copy", 0)], known=8)

    def test_a_copy_that_is_not_known(self):
        rows = [paper(3, "eve"), copied(4, "dan", 0, heard=8)]
        self.check(rows, 1, [], known=7)
        self.check(rows, 1, [("copy", 0)], known=8)

    def test_a_copy_has_no_other_base(self):
        rows = [KING, ANN, leave(1, "ann", "ann"), paper(2, "ann"), copied(4, "ann", 3), copied(4, "ann", 2)]
        self.check(rows, 4, [("copy", 3)])
        self.check(rows, 5, [])


class TestStanding(unittest.TestCase):
    def check(self, rows, day, told, known=9999):
        self.assertEqual(standing(register_of(rows), known, day), told)

    def test_from_its_own_day_on(self):
        for day, told in [(0, []), (1, []), (2, [2]), (3, [2, 3]), (4, [2, 3, 4]), (5, [2, 3, 4]), (6, [2, 3, 4, 5]),
                          (7, [2, 3, 4, 5, 6]), (9, [2, 3, 4, 5, 6]), (9999, [2, 3, 4, 5, 6])]:
            self.check(LONG, day, told)

    def test_no_rows(self):
        self.check([], 5, [])
        self.check(list(GOOD.values()), 4, [])

    def test_rising_by_number_whatever_the_order(self):
        rows = [copied(9, "dan", 2), KING, paper(8, "bob", 1, (8, 9)), leave(7, "ann", "bob", 1, (7, 9)), ANN]
        self.check(rows, 9, [0, 2, 3])

    def test_each_link_called_in_takes_down_what_is_behind_it(self):
        for number, by, left in [(2, "ann", []), (3, "bob", [2]), (4, "eve", [2, 3]), (5, "dan", [2, 3, 4]),
                                 (6, "eve", [2, 3, 4, 5])]:
            rows = LONG + [call(8, by, number)]
            self.check(rows, 7, [2, 3, 4, 5, 6])
            self.check(rows, 8, left)
            self.check(rows, 9999, left)

    def test_each_link_not_sound_takes_down_what_is_behind_it(self):
        for word in ("lost", "death"):
            self.check(LONG + [done(2, word, "ann")], 9, [])
            self.check(LONG + [done(3, word, "bob")], 9, [2])
            self.check(LONG + [done(4, word, "eve")], 9, [2, 3])
            self.check(LONG + [done(6, word, "dan")], 9, [2, 3, 4])
            self.check(LONG + [done(7, word, "eve")], 9, [2, 3, 4, 5])

    def test_a_death_behind_the_sealing_takes_nothing_down(self):
        self.check(LONG + [done(3, "death", "ann"), done(4, "death", "bob"), done(8, "death", "eve")], 9,
                   [2, 3, 4, 5, 6])

    def test_each_link_heard_late(self):
        for number in range(len(LONG)):
            rows = list(LONG)
            rows[number] = (20, rows[number][1])
            self.check(rows, 9, [each for each in (2, 3, 4, 5, 6) if each < number], known=19)
            self.check(rows, 9, [2, 3, 4, 5, 6], known=20)

    def test_a_row_stands_beyond_its_stretch(self):
        self.check([KING, ANN, leave(2, "ann", "bob", 1, (3, 5)), paper(4, "bob", 1, (4, 5))], 50, [2, 3])

    def test_one_of_several_bases_is_enough(self):
        rows = [KING, ANN, leave(1, "eve", "bob"), leave(2, "ann", "bob"), paper(4, "bob")]
        self.check(rows, 9, [3, 4])
        rows = [KING, ANN, leave(1, "ann", "bob"), leave(2, "ann", "bob"), paper(4, "bob"), call(6, "ann", 2),
                call(8, "ann", 3)]
        self.check(rows, 5, [2, 3, 4])
        self.check(rows, 7, [3, 4])
        self.check(rows, 9, [])

    def test_no_base(self):
        self.check([KING, ANN, paper(4, "bob"), leave(4, "bob", "eve"), like(4, "bob", 2), copied(4, "bob", 1)], 9, [])

    def test_leaves_that_lean_on_one_another_alone(self):
        rows = [leave(2, "bob", "eve", further=3), leave(3, "eve", "bob", further=2), paper(4, "bob"), paper(4, "eve")]
        self.check(rows, 9, [])

    def test_a_sound_copy_stands_as_far_as_what_it_is_of(self):
        rows = [KING, ANN, paper(4, "ann"), copied(5, "zoe", 2), call(8, "ann", 2)]
        for day, told in [(3, []), (4, [2]), (5, [2, 3]), (7, [2, 3]), (8, [])]:
            self.check(rows, day, told)

    def test_a_copy_of_a_like(self):
        self.check([KING, ANN, like(4, "ann", 59), copied(5, "zoe", 2)], 9, [2, 3])

    def test_known_early_is_not_changed_by_what_is_heard_later(self):
        late = [done(0, "death", "ann", heard=30), call(2, "ann", 2, heard=30), root("duke", heard=30),
                done(0, "named", "king", "zoe", heard=30)]
        for known in range(0, 30):
            for day in (0, 3, 5, 9):
                self.check(LONG + late, day, standing(register_of(LONG), known, day), known)
        self.check(LONG + late, 9, [], known=30)


class TestChain(unittest.TestCase):
    def check(self, rows, day, number, told, known=9999):
        book = register_of(rows)
        self.assertEqual(chain(book, known, day, number), told)
        if told is not None:
            self.assertIs(is_chain(book, known, day, told), True)

    def test_of_each_row_of_a_long_chain(self):
        for number in range(2, 7):
            self.check(LONG, 9, number, list(range(1, number + 1)))

    def test_where_it_does_not_stand(self):
        self.check(LONG, 9, 0, None)
        self.check(LONG, 9, 1, None)
        self.check(LONG, 5, 5, None)
        self.check(LONG, 6, 5, [1, 2, 3, 4, 5])
        self.check(LONG + [call(8, "eve", 4)], 8, 6, None)
        self.check(LONG + [call(8, "eve", 4)], 7, 6, [1, 2, 3, 4, 5, 6])
        self.check([KING, ANN, paper(4, "bob")], 9, 2, None)

    def test_where_it_is_not_known(self):
        rows = [KING, ANN, paper(4, "ann", heard=8)]
        self.check(rows, 9, 2, None, known=7)
        self.check(rows, 9, 2, [1, 2], known=8)

    def test_the_first_base_that_stands_bears(self):
        rows = [KING, ANN, leave(1, "eve", "bob"), leave(2, "ann", "bob"), leave(3, "ann", "bob"), paper(4, "bob")]
        self.check(rows, 9, 5, [1, 3, 5])
        self.check(rows + [call(6, "ann", 3)], 5, 5, [1, 3, 5])
        self.check(rows + [call(6, "ann", 3)], 6, 5, [1, 4, 5])

    def test_an_office_bears_only_where_it_is_the_first(self):
        rows = [KING, ANN, leave(1, "ann", "bob"), root("duke"), done(0, "named", "duke", "bob"), paper(4, "bob")]
        self.check(rows, 9, 5, [1, 2, 5])
        rows = [KING, ANN, root("duke"), done(0, "named", "duke", "bob"), leave(1, "ann", "bob"), paper(4, "bob")]
        self.check(rows, 9, 5, [3, 5])

    def test_the_first_bearer_all_the_way(self):
        rows = [KING, ANN, leave(1, "ann", "bob", 1, (0, None), 1), leave(1, "ann", "bob", 1, (0, None), 2),
                leave(2, "bob", "eve"), paper(3, "eve")]
        self.check(rows, 9, 5, [1, 2, 4, 5])
        self.check(rows + [call(5, "ann", 2)], 9, 5, [1, 3, 4, 5])

    def test_the_order_in_the_chain_is_not_by_number(self):
        rows = [paper(8, "bob", 1, (8, 9)), KING, copied(9, "dan", 0), leave(7, "ann", "bob", 1, (7, 9)), ANN]
        self.check(rows, 9, 2, [4, 3, 0, 2])

    def test_a_chain_through_a_death(self):
        rows = [KING, ANN, done(1, "heir", "ann", "king", "bob"), done(3, "death", "ann"), paper(4, "bob")]
        self.check(rows, 9, 4, [3, 4])

    def test_sixty_rows(self):
        rows = [KING, ANN, paper(1, "ann")] + [copied(2, "dan", number) for number in range(2, 59)]
        self.check(rows, 2, 59, list(range(1, 60)))
        self.check(rows, 1, 59, None)


class TestIsChain(unittest.TestCase):
    def check(self, rows, day, numbers, told, known=9999):
        self.assertIs(is_chain(register_of(rows), known, day, numbers), told, numbers)

    def test_lists_of_none_and_one(self):
        for numbers in ([], [0], [1], [2], [6], [-1], [60]):
            self.check(LONG, 9, numbers, False)

    def test_lists_of_two(self):
        for first in range(-3, 9):
            for second in range(-9, 9):
                self.check(LONG, 9, [first, second], (first, second) == (1, 2))

    def test_lists_of_more(self):
        for numbers, told in [
            ([1, 2, 3], True), ([1, 2, 3, 4], True), ([1, 2, 3, 4, 5], True), ([1, 2, 3, 4, 5, 6], True),
            ([1, 2, 4], False), ([1, 3, 4], False), ([2, 3, 4], False), ([1, 2, 3, 5], False), ([0, 2, 3], False),
            ([1, 2, 3, 4, 6], False), ([3, 2, 1], False), ([1, 3, 2], False), ([0, 1, 2, 3], False),
            ([1, 2, 3, 4, 5, 6, 7], False),
        ]:
            self.check(LONG, 9, numbers, told)

    def test_one_number_twice(self):
        for numbers in ([1, 1], [1, 1, 2], [2, 2], [1, 2, 2], [1, 2, 2, 3], [1, 2, 3, 3], [1, 2, 3, 2], [1, 2, 1, 2]):
            self.check(LONG, 9, numbers, False)

    def test_negative_numbers_and_numbers_that_no_row_has(self):
        for numbers in ([-6, 2], [1, -5], [-6, -5], [1, 2, -4], [1, 2, 3, -3], [1, 2, -4, 4], [1, 60], [1, 2, 99],
                        [10 ** 30, 2], [1, -10 ** 30], [1, 2, 7]):
            self.check(LONG, 9, numbers, False)

    def test_a_hundred_numbers(self):
        self.check(LONG, 9, [1, 2] * 50, False)
        self.check(LONG, 9, list(range(1, 101)), False)
        self.check(LONG, 9, [1] * 100, False)

    def test_each_link_is_of_a_day_not_later(self):
        for day, told in [(3, False), (5, False), (6, False), (7, True), (8, True)]:
            self.check(LONG, day, [1, 2, 3, 4, 5, 6], told)
        self.check(LONG, 2, [1, 2], True)
        self.check(LONG, 1, [1, 2], False)

    def test_a_link_that_is_called_in(self):
        for number, by in [(2, "ann"), (3, "bob"), (4, "eve"), (5, "dan"), (6, "eve")]:
            rows = LONG + [call(8, by, number)]
            self.check(rows, 7, [1, 2, 3, 4, 5, 6], True)
            self.check(rows, 8, [1, 2, 3, 4, 5, 6], False)
            self.check(rows, 8, [1, 2, 3, 4, 5, 6][:number - 1], number > 2)

    def test_a_link_that_is_not_sound(self):
        for day, person in [(2, "ann"), (3, "bob"), (4, "eve"), (6, "dan"), (7, "eve")]:
            for word in ("lost", "death"):
                self.check(LONG + [done(day, word, person)], 9, [1, 2, 3, 4, 5, 6], False)

    def test_whichever_bases_bear(self):
        rows = [KING, ANN, leave(1, "eve", "bob"), leave(2, "ann", "bob"), leave(3, "ann", "bob"), paper(4, "bob")]
        self.check(rows, 9, [1, 3, 5], True)
        self.check(rows, 9, [1, 4, 5], True)
        # A leave that has no office behind it begins none.
        self.check(rows, 9, [1, 2, 5], False)
        self.check(rows, 9, [2, 5], False)

    def test_the_first_is_of_an_office_base_alone(self):
        rows = [KING, ANN, root("duke"), done(0, "named", "duke", "ann"), leave(1, "ann", "ann"), paper(4, "ann")]
        for numbers, told in [([1, 5], True), ([3, 5], True), ([4, 5], False), ([1, 4, 5], True), ([3, 4, 5], True),
                              ([1, 3, 5], False), ([0, 5], False)]:
            self.check(rows, 9, numbers, told)

    def test_not_the_number_of_a_younger_claim(self):
        rows = [KING, ANN, done(1, "named", "king", "ann"), paper(4, "ann")]
        self.check(rows, 9, [1, 3], True)
        self.check(rows, 9, [2, 3], False)

    def test_rows_that_are_not_known(self):
        for number in range(len(LONG)):
            rows = list(LONG)
            rows[number] = (20, rows[number][1])
            self.check(rows, 9, [1, 2, 3, 4, 5, 6], False, known=19)
            self.check(rows, 9, [1, 2, 3, 4, 5, 6], True, known=20)

    def test_the_list_is_not_changed(self):
        numbers = [1, 2, 3, 4]
        self.check(LONG, 9, numbers, True)
        self.assertEqual(numbers, [1, 2, 3, 4])


class TestSomewhatBeyond(unittest.TestCase):
    def test_days_beyond_are_not_refused(self):
        book = register_of(LONG)
        self.assertEqual(standing(book, 10000, 10000), [2, 3, 4, 5, 6])
        self.assertEqual(standing(book, -1, 9), [])
        self.assertEqual(standing(book, 9999, -1), [])
        self.assertEqual(chain(book, 10000, 10000, 6), [1, 2, 3, 4, 5, 6])
        self.assertEqual(bases(book, 10000, 3), [("leave", 2)])
        self.assertEqual(calls(register_of(LONG + [call(8, "eve", 4)]), 10000, 4, 10000), [7])

    def test_a_list_of_more_than_a_hundred_is_not_refused(self):
        self.assertIs(is_chain(register_of(LONG), 9999, 9, [1, 2] + [3] * 200), False)


class TestTheAskersOwn(unittest.TestCase):
    def test_each_told_list(self):
        book = register_of(LONG + [call(8, "eve", 4), leave(1, "ann", "eve")])
        before = copy.deepcopy(book)
        for ask, told in [
            (lambda: calls(book, 9999, 4, 9), [7]),
            (lambda: bases(book, 9999, 4), [("leave", 3), ("leave", 8)]),
            (lambda: standing(book, 9999, 9), [2, 3, 8]),
            (lambda: chain(book, 9999, 7, 6), [1, 2, 3, 4, 5, 6]),
        ]:
            check_own(self, ask, told)
        self.assertEqual(book, before)


if __name__ == "__main__":
    unittest.main()
