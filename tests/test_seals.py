import copy
import unittest

from samples import GOOD, done, leave, like, paper
from sealchain.registers import register_of
from sealchain.seals import has_seal, is_sound, lives

SEALINGS = ["chosen", "heir", "leave", "paper", "like", "copy", "call"]


def sealings_by(day, sealer, other):
    """One sealing of each kind, with another person wherever one may stand."""
    return [
        done(day, "chosen", sealer, "king", other, day), done(day, "heir", sealer, "king", other),
        leave(day, sealer, other), paper(day, sealer, whom=other), like(day, sealer, 0, whom=other),
        done(day, "copy", sealer, 0), done(day, "call", sealer, 0),
    ]


class TestLives(unittest.TestCase):
    def lived(self, rows, days, known=9999, person="ann"):
        book = register_of(rows)
        return [lives(book, known, person, day) for day in days]

    def test_a_death_on_the_day_ahead_and_behind(self):
        self.assertEqual(self.lived([done(5, "death", "ann")], [0, 4, 5, 6, 9999]), [True, True, False, False, False])

    def test_a_death_heard_later_than_known(self):
        rows = [done(5, "death", "ann", heard=8)]
        for known, told in [(0, True), (5, True), (7, True), (8, False), (9, False), (9999, False)]:
            self.assertEqual(self.lived(rows, [4, 5, 9], known), [True, told, told])

    def test_a_death_of_another(self):
        self.assertEqual(self.lived([done(5, "death", "bob")], [4, 5, 6]), [True, True, True])

    def test_two_deaths_of_one_person(self):
        for rows in ([done(5, "death", "ann"), done(8, "death", "ann")],
                     [done(8, "death", "ann"), done(5, "death", "ann")]):
            self.assertEqual(self.lived(rows, [4, 5, 7, 8, 9]), [True, False, False, False, False])

    def test_two_deaths_of_which_the_earlier_is_heard_later(self):
        rows = [done(5, "death", "ann", heard=9), done(8, "death", "ann", heard=8)]
        self.assertEqual(self.lived(rows, [4, 5, 7, 8], known=8), [True, True, True, False])
        self.assertEqual(self.lived(rows, [4, 5, 7, 8], known=9), [True, False, False, False])

    def test_the_days_at_the_ends(self):
        self.assertEqual(self.lived([done(0, "death", "ann")], [0, 1, 9999]), [False, False, False])
        self.assertEqual(self.lived([done(9999, "death", "ann")], [0, 9998, 9999]), [True, True, False])

    def test_a_name_that_no_row_has(self):
        rows = [done(5, "death", "ann"), done(5, "lost", "ann")]
        self.assertEqual(self.lived(rows, [0, 5, 9999], person="zoe"), [True, True, True])
        self.assertEqual(self.lived([], [0, 5, 9999], person="zoe"), [True, True, True])

    def test_no_other_deed_ends_a_life(self):
        rows = [row for word, row in GOOD.items() if word != "death"]
        self.assertEqual(self.lived(rows, [0, 5, 9999]), [True, True, True])

    def test_a_truth_is_told(self):
        book = register_of([done(5, "death", "ann")])
        self.assertIs(lives(book, 9, "ann", 4), True)
        self.assertIs(lives(book, 9, "ann", 5), False)


class TestHasSeal(unittest.TestCase):
    def had(self, rows, days, known=9999, person="ann"):
        book = register_of(rows)
        return [has_seal(book, known, person, day) for day in days]

    def test_lost_on_the_day_ahead_and_behind(self):
        self.assertEqual(self.had([done(5, "lost", "ann")], [0, 4, 5, 6, 9999]), [True, True, False, False, False])

    def test_found_again(self):
        rows = [done(5, "lost", "ann"), done(8, "found", "ann")]
        self.assertEqual(self.had(rows, [4, 5, 7, 8, 9]), [True, False, False, True, True])

    def test_the_order_is_by_day_not_by_number(self):
        rows = [done(8, "found", "ann"), done(5, "lost", "ann")]
        self.assertEqual(self.had(rows, [4, 5, 7, 8, 9]), [True, False, False, True, True])
        rows = [done(8, "lost", "ann"), done(5, "found", "ann")]
        self.assertEqual(self.had(rows, [4, 5, 7, 8, 9]), [True, True, True, False, False])

    def test_the_order_is_not_by_the_day_heard(self):
        rows = [done(5, "lost", "ann", heard=20), done(8, "found", "ann", heard=10)]
        self.assertEqual(self.had(rows, [5, 8, 9], known=20), [False, True, True])

    def test_lost_and_found_on_one_day_either_way_round(self):
        rows = [done(5, "lost", "ann"), done(5, "found", "ann")]
        self.assertEqual(self.had(rows, [4, 5, 6]), [True, True, True])
        rows = [done(5, "found", "ann"), done(5, "lost", "ann")]
        self.assertEqual(self.had(rows, [4, 5, 6]), [True, False, False])

    def test_lost_twice_found_once(self):
        rows = [done(5, "lost", "ann"), done(6, "lost", "ann"), done(8, "found", "ann"), done(9, "lost", "ann")]
        self.assertEqual(self.had(rows, [4, 5, 6, 7, 8, 9]), [True, False, False, False, True, False])

    def test_found_without_being_lost(self):
        self.assertEqual(self.had([done(5, "found", "ann")], [4, 5, 6]), [True, True, True])

    def test_heard_later_than_known(self):
        rows = [done(5, "lost", "ann", heard=7), done(6, "found", "ann", heard=8)]
        self.assertEqual(self.had(rows, [5, 6], known=6), [True, True])
        self.assertEqual(self.had(rows, [5, 6], known=7), [False, False])
        self.assertEqual(self.had(rows, [5, 6], known=8), [False, True])

    def test_the_days_at_the_ends(self):
        self.assertEqual(self.had([done(0, "lost", "ann")], [0, 1, 9999]), [False, False, False])
        self.assertEqual(self.had([done(9999, "lost", "ann")], [0, 9998, 9999]), [True, True, False])

    def test_anothers_seal_and_a_name_that_no_row_has(self):
        rows = [done(5, "lost", "ann"), done(6, "found", "bob")]
        self.assertEqual(self.had(rows, [4, 5, 6, 7]), [True, False, False, False])
        self.assertEqual(self.had(rows, [4, 5, 6], person="bob"), [True, True, True])
        self.assertEqual(self.had(rows, [0, 5, 9999], person="zoe"), [True, True, True])

    def test_a_death_takes_no_seal(self):
        self.assertEqual(self.had([done(5, "death", "ann")], [4, 5, 6]), [True, True, True])

    def test_a_truth_is_told(self):
        book = register_of([done(5, "lost", "ann"), done(6, "found", "ann")])
        for day, told in [(4, True), (5, False), (6, True)]:
            self.assertIs(has_seal(book, 9, "ann", day), told)


class TestIsSound(unittest.TestCase):
    def test_each_of_the_twelve_deeds_by_its_number(self):
        for word, row in GOOD.items():
            book = register_of([row])
            self.assertIs(is_sound(book, 9999, 0), word in SEALINGS, word)
        kept = {word: row for word, row in GOOD.items() if word not in ("death", "lost", "found")}
        book = register_of(list(kept.values()))
        self.assertEqual([is_sound(book, 9999, number) for number in range(len(book))],
                         [word in SEALINGS for word in kept])

    def test_a_row_that_is_not_known(self):
        for row in sealings_by(5, "ann", "bob"):
            book = register_of([(8, row[1])])
            self.assertEqual([is_sound(book, known, 0) for known in (0, 5, 7, 8, 9)], [False, False, False, True, True])

    def test_a_number_that_no_row_has(self):
        book = register_of(sealings_by(5, "ann", "bob"))
        for number in (-1, -7, 7, 59, 60):
            self.assertIs(is_sound(book, 9999, number), False)

    def test_a_death_of_the_sealer_on_the_day_ahead_and_behind(self):
        for row in sealings_by(5, "ann", "bob"):
            for day, told in [(4, False), (5, False), (6, True)]:
                death = done(day, "death", "ann")
                self.assertIs(is_sound(register_of([row, death]), 9999, 0), told, (row, day))
                self.assertIs(is_sound(register_of([death, row]), 9999, 1), told, (row, day))

    def test_a_seal_lost_on_the_day_ahead_and_behind(self):
        for row in sealings_by(5, "ann", "bob"):
            for day, told in [(4, False), (5, False), (6, True)]:
                lost = done(day, "lost", "ann")
                self.assertIs(is_sound(register_of([row, lost]), 9999, 0), told, (row, day))
                self.assertIs(is_sound(register_of([lost, row]), 9999, 1), told, (row, day))

    def test_lost_and_found_on_the_day_round_the_sealing(self):
        lost, found = done(5, "lost", "ann"), done(5, "found", "ann")
        for row in sealings_by(5, "ann", "bob"):
            for rows, told in [
                ([lost, found, row], True), ([lost, row, found], True), ([row, lost, found], True),
                ([found, lost, row], False), ([found, row, lost], False), ([row, found, lost], False),
            ]:
                self.assertIs(is_sound(register_of(rows), 9999, rows.index(row)), told, rows)

    def test_found_a_day_later_or_earlier(self):
        row = paper(5, "ann")
        self.assertIs(is_sound(register_of([row, done(4, "lost", "ann"), done(6, "found", "ann")]), 9999, 0), False)
        self.assertIs(is_sound(register_of([row, done(3, "lost", "ann"), done(4, "found", "ann")]), 9999, 0), True)

    def test_what_befalls_others_in_the_row(self):
        for row in sealings_by(5, "ann", "bob"):
            rows = [row, done(4, "death", "bob"), done(4, "lost", "bob"), done(4, "death", "king")]
            self.assertIs(is_sound(register_of(rows), 9999, 0), True, row)

    def test_a_death_or_a_loss_heard_later_than_known(self):
        for word in ("death", "lost"):
            book = register_of([paper(5, "ann"), done(5, word, "ann", heard=8)])
            self.assertEqual([is_sound(book, known, 0) for known in (5, 7, 8)], [True, True, False])

    def test_the_days_at_the_ends(self):
        for day in (0, 9999):
            self.assertIs(is_sound(register_of([paper(day, "ann")]), 9999, 0), True)
            self.assertIs(is_sound(register_of([paper(day, "ann"), done(day, "death", "ann")]), 9999, 0), False)


class TestNothingIsChanged(unittest.TestCase):
    def test_the_register_is_as_it_was(self):
        book = register_of(list(GOOD.values()))
        before = copy.deepcopy(book)
        for number in range(len(book)):
            is_sound(book, 9999, number)
        for person in ("ann", "bob", "zoe"):
            lives(book, 9999, person, 5)
            has_seal(book, 9999, person, 5)
        self.assertEqual(book, before)


if __name__ == "__main__":
    unittest.main()
