import copy
import unittest

from samples import KING, check_own, done, leave, paper, root
from sealchain.claims import claims, holder
from sealchain.registers import register_of


def named(day, person, office="king", heard=None):
    return done(day, "named", office, person, heard=heard)


def chosen(day, by, person, since, office="king", heard=None):
    return done(day, "chosen", by, office, person, since, heard=heard)


def heir(day, by, person, office="king", heard=None):
    return done(day, "heir", by, office, person, heard=heard)


def death(day, person, heard=None):
    return done(day, "death", person, heard=heard)


def king(person, since, until, number):
    return ("king", person, since, until, number)


class ClaimsCase(unittest.TestCase):
    def check(self, rows, told, known=9999):
        self.assertEqual(claims(register_of(rows), known), told)


class TestNamed(ClaimsCase):
    def test_named(self):
        self.check([KING, named(3, "ann")], [king("ann", 3, None, 1)])

    def test_named_at_the_ends(self):
        self.check([KING, named(0, "ann"), named(9999, "bob")],
                   [king("ann", 0, None, 1), king("bob", 9999, None, 2)])

    def test_no_rows_and_no_claims(self):
        self.check([], [])
        self.check([KING], [])
        self.check([KING, leave(3, "ann", "bob"), paper(3, "ann"), done(4, "lost", "ann")], [])

    def test_named_twice(self):
        self.check([KING, named(3, "ann"), named(5, "ann")], [king("ann", 3, None, 1), king("ann", 5, None, 2)])

    def test_named_needs_no_seal(self):
        self.check([KING, done(3, "lost", "ann"), named(3, "ann")], [king("ann", 3, None, 2)])

    def test_heard_later_than_known(self):
        rows = [KING, named(3, "ann", heard=8)]
        self.check(rows, [], known=7)
        self.check(rows, [king("ann", 3, None, 1)], known=8)

    def test_offices_without_a_root(self):
        self.check([named(3, "ann")], [])
        self.check([root("duke"), named(3, "ann")], [])
        rows = [named(0, "ann"), chosen(1, "ann", "bob", 2), heir(1, "ann", "eve"), death(4, "ann")]
        self.check([root("duke")] + rows, [])
        self.check([KING, named(3, "ann", "duke"), named(3, "ann")], [king("ann", 3, None, 2)])

    def test_a_root_heard_late_or_numbered_last(self):
        rows = [named(3, "ann"), root("king", heard=8)]
        self.check(rows, [], known=7)
        self.check(rows, [king("ann", 3, None, 0)], known=8)

    def test_sorted_by_office_then_since_then_number(self):
        rows = [KING, named(7, "ann"), named(3, "eve"), named(3, "bob"), root("duke"), named(9, "ann", "duke"),
                named(7, "abe")]
        self.check(rows, [("duke", "ann", 9, None, 5), king("eve", 3, None, 2), king("bob", 3, None, 3),
                          king("ann", 7, None, 1), king("abe", 7, None, 6)])

    def test_since_counts_ahead_of_number_and_until_not_at_all(self):
        rows = [root("king", rule="first"), named(0, "ann"), chosen(1, "ann", "bob", 9), named(4, "eve")]
        self.check(rows, [king("ann", 0, 9, 1), king("eve", 4, None, 3), king("bob", 9, None, 2)])

    def test_of_one_since_by_number_though_brought_in_another_order(self):
        rows = [root("king", rule="first"), named(0, "ann"), named(9, "eve"), chosen(1, "ann", "bob", 9),
                named(9, "dan")]
        self.check(rows, [king("ann", 0, 9, 1), king("eve", 9, None, 2), king("bob", 9, None, 3),
                          king("dan", 9, None, 4)])

    def test_a_person_called_like_an_office(self):
        rows = [KING, root("duke"), named(0, "king"), named(0, "king", "duke"), chosen(3, "king", "duke", 4),
                death(6, "king")]
        self.check(rows, [("duke", "king", 0, 6, 3), king("king", 0, 4, 2), king("duke", 4, None, 4)])
        rows = [KING, root("duke"), named(0, "king", "duke"), heir(1, "king", "duke", "duke"), death(6, "king")]
        self.check(rows, [("duke", "king", 0, 6, 2), ("duke", "duke", 6, None, 4)])


class TestChosen(ClaimsCase):
    def test_by_one_who_holds_the_office(self):
        self.check([KING, named(0, "ann"), chosen(5, "ann", "bob", 5)], [king("ann", 0, 5, 1), king("bob", 5, None, 2)])

    def test_since_later(self):
        self.check([KING, named(0, "ann"), chosen(5, "ann", "bob", 9)], [king("ann", 0, 9, 1), king("bob", 9, None, 2)])
        self.check([KING, named(0, "ann"), chosen(5, "ann", "bob", 9999)],
                   [king("ann", 0, 9999, 1), king("bob", 9999, None, 2)])

    def test_by_one_who_does_not_hold_it(self):
        told = [king("ann", 0, None, 1)]
        self.check([KING, named(0, "ann"), chosen(5, "bob", "eve", 5)], told)
        self.check([KING, named(0, "ann"), chosen(5, "bob", "bob", 5)], told)
        self.check([KING, named(0, "ann"), chosen(5, "king", "eve", 5)], told)
        self.check([KING, chosen(5, "ann", "bob", 5)], [])

    def test_by_one_who_holds_another_office(self):
        rows = [KING, named(0, "ann"), root("duke"), named(0, "bob", "duke"), chosen(5, "bob", "eve", 5)]
        self.check(rows, [("duke", "bob", 0, None, 3), king("ann", 0, None, 1)])

    def test_by_one_who_came_or_went(self):
        self.check([KING, named(6, "ann"), chosen(5, "ann", "bob", 7)], [king("ann", 6, None, 1)])
        self.check([KING, named(0, "ann"), chosen(3, "ann", "bob", 5), chosen(5, "ann", "eve", 6)],
                   [king("ann", 0, 5, 1), king("bob", 5, None, 2)])
        self.check([KING, named(0, "ann"), chosen(3, "ann", "bob", 5), chosen(4, "bob", "eve", 6)],
                   [king("ann", 0, 5, 1), king("bob", 5, None, 2)])
        self.check([KING, named(0, "ann"), chosen(3, "ann", "bob", 5), chosen(5, "bob", "eve", 6)],
                   [king("ann", 0, 5, 1), king("bob", 5, 6, 2), king("eve", 6, None, 3)])

    def test_he_holds_it_on_its_day_not_on_since(self):
        self.check([KING, named(0, "ann"), chosen(1, "ann", "bob", 6), chosen(2, "bob", "eve", 8)],
                   [king("ann", 0, 6, 1), king("bob", 6, None, 2)])

    def test_by_the_claims_so_far(self):
        self.check([KING, chosen(5, "ann", "bob", 5), named(5, "ann")], [king("ann", 5, None, 2)])
        self.check([KING, named(5, "ann"), chosen(5, "ann", "bob", 6)], [king("ann", 5, 6, 1), king("bob", 6, None, 2)])
        self.check([KING, chosen(5, "ann", "bob", 6), named(4, "ann")], [king("ann", 4, 6, 2), king("bob", 6, None, 1)])
        # A claim of the same day that is told behind doesn't part the two ahead.
        self.check([KING, named(0, "ann"), chosen(5, "ann", "bob", 5), named(5, "eve")],
                   [king("ann", 0, 5, 1), king("bob", 5, None, 2), king("eve", 5, None, 3)])

    def test_where_the_office_is_parted_by_each_rule(self):
        rows = [named(0, "ann"), named(1, "eve"), chosen(5, "ann", "bob", 6), chosen(5, "eve", "dan", 7)]
        self.check([root("king", rule="open")] + rows, [king("ann", 0, None, 1), king("eve", 1, None, 2)])
        self.check([root("king", rule="first")] + rows,
                   [king("ann", 0, 6, 1), king("eve", 1, None, 2), king("bob", 6, None, 3)])
        self.check([root("king", rule="last")] + rows,
                   [king("ann", 0, None, 1), king("eve", 1, 7, 2), king("dan", 7, None, 4)])

    def test_by_a_dead_one(self):
        self.check([KING, named(0, "ann"), death(4, "ann"), chosen(5, "ann", "bob", 5)], [king("ann", 0, 4, 1)])
        # Named behind the death, so she holds the office; but the sealing isn't sound.
        self.check([KING, death(2, "ann"), named(3, "ann"), chosen(5, "ann", "bob", 5)], [king("ann", 3, None, 2)])

    def test_by_one_who_dies_on_the_day(self):
        self.check([KING, named(0, "ann"), chosen(5, "ann", "bob", 5), death(5, "ann")], [king("ann", 0, 5, 1)])
        self.check([KING, named(0, "ann"), chosen(5, "ann", "bob", 5), death(6, "ann")],
                   [king("ann", 0, 5, 1), king("bob", 5, None, 2)])

    def test_by_one_whose_seal_is_lost(self):
        rows = [KING, named(0, "ann"), done(4, "lost", "ann"), chosen(5, "ann", "bob", 5)]
        self.check(rows, [king("ann", 0, None, 1)])
        self.check(rows + [done(5, "found", "ann")], [king("ann", 0, 5, 1), king("bob", 5, None, 3)])
        self.check(rows + [done(6, "found", "ann")], [king("ann", 0, None, 1)])

    def test_a_loss_heard_later_than_known(self):
        rows = [KING, named(0, "ann"), chosen(5, "ann", "bob", 5), done(4, "lost", "ann", heard=8)]
        self.check(rows, [king("ann", 0, 5, 1), king("bob", 5, None, 2)], known=7)
        self.check(rows, [king("ann", 0, None, 1)], known=8)

    def test_the_person_may_be_dead(self):
        self.check([KING, named(0, "ann"), death(2, "bob"), chosen(5, "ann", "bob", 5)],
                   [king("ann", 0, 5, 1), king("bob", 5, None, 3)])

    def test_claims_alive_on_since_end_there(self):
        rows = [KING, named(0, "ann"), named(2, "ann"), chosen(3, "ann", "bob", 5)]
        self.check(rows, [king("ann", 0, 5, 1), king("ann", 2, 5, 2), king("bob", 5, None, 3)])

    def test_claims_that_begin_later_than_since_are_none(self):
        ahead = [KING, named(0, "ann"), chosen(2, "ann", "ann", 10)]
        self.check(ahead, [king("ann", 0, 10, 1), king("ann", 10, None, 2)])
        self.check(ahead + [chosen(3, "ann", "bob", 6)], [king("ann", 0, 6, 1), king("bob", 6, None, 3)])

    def test_claims_that_begin_or_end_on_since(self):
        ahead = [KING, named(0, "ann"), chosen(2, "ann", "ann", 10)]
        self.check(ahead + [chosen(3, "ann", "bob", 9)], [king("ann", 0, 9, 1), king("bob", 9, None, 3)])
        self.check(ahead + [chosen(3, "ann", "bob", 10)], [king("ann", 0, 10, 1), king("bob", 10, None, 3)])
        self.check(ahead + [chosen(3, "ann", "bob", 11)],
                   [king("ann", 0, 10, 1), king("ann", 10, 11, 2), king("bob", 11, None, 3)])

    def test_claims_that_ended_ahead_of_since_stay(self):
        rows = [KING, named(0, "ann"), chosen(2, "ann", "bob", 4), chosen(4, "bob", "ann", 6),
                chosen(7, "ann", "eve", 8)]
        self.check(rows, [king("ann", 0, 4, 1), king("bob", 4, 6, 2), king("ann", 6, 8, 3), king("eve", 8, None, 4)])

    def test_a_claim_that_ends_at_its_since_is_none(self):
        self.check([KING, named(5, "ann"), chosen(5, "ann", "bob", 5)], [king("bob", 5, None, 2)])

    def test_the_claims_of_others_and_to_other_offices_stay(self):
        rows = [root("king", rule="first"), root("duke"), named(0, "ann"), named(1, "eve"), named(0, "ann", "duke"),
                chosen(3, "ann", "bob", 5)]
        self.check(rows, [("duke", "ann", 0, None, 4), king("ann", 0, 5, 2), king("eve", 1, None, 3),
                          king("bob", 5, None, 5)])

    def test_chosen_himself(self):
        self.check([KING, named(0, "ann"), chosen(3, "ann", "ann", 5)], [king("ann", 0, 5, 1), king("ann", 5, None, 2)])
        self.check([KING, named(5, "ann"), chosen(5, "ann", "ann", 5)], [king("ann", 5, None, 2)])

    def test_chosen_again_before_since(self):
        rows = [KING, named(0, "ann"), chosen(1, "ann", "bob", 20), chosen(2, "ann", "eve", 10)]
        self.check(rows, [king("ann", 0, 10, 1), king("eve", 10, None, 3), king("bob", 20, None, 2)])

    def test_one_that_is_not_known(self):
        rows = [KING, named(0, "ann"), chosen(5, "ann", "bob", 5, heard=9)]
        self.check(rows, [king("ann", 0, None, 1)], known=8)
        self.check(rows, [king("ann", 0, 5, 1), king("bob", 5, None, 2)], known=9)


class TestHeirs(ClaimsCase):
    def test_the_heir_gets_a_claim(self):
        self.check([KING, named(0, "ann"), heir(1, "ann", "bob"), death(5, "ann")],
                   [king("ann", 0, 5, 1), king("bob", 5, None, 3)])

    def test_no_heir(self):
        self.check([KING, named(0, "ann"), death(5, "ann")], [king("ann", 0, 5, 1)])

    def test_told_twice(self):
        rows = [KING, named(0, "ann"), heir(1, "ann", "bob"), heir(2, "ann", "eve"), death(5, "ann")]
        self.check(rows, [king("ann", 0, 5, 1), king("eve", 5, None, 4)])
        rows = [KING, named(0, "ann"), heir(2, "ann", "bob"), heir(1, "ann", "eve"), death(5, "ann")]
        self.check(rows, [king("ann", 0, 5, 1), king("bob", 5, None, 4)])
        rows = [KING, named(0, "ann"), heir(2, "ann", "bob"), heir(2, "ann", "eve"), death(5, "ann")]
        self.check(rows, [king("ann", 0, 5, 1), king("eve", 5, None, 4)])

    def test_the_second_that_does_not_count_leaves_the_first(self):
        rows = [KING, named(0, "ann"), heir(1, "ann", "bob"), done(2, "lost", "ann"), heir(2, "ann", "eve"),
                death(5, "ann")]
        self.check(rows, [king("ann", 0, 5, 1), king("bob", 5, None, 5)])

    def test_a_dead_heir_does_not_give_way_to_an_earlier_one(self):
        rows = [KING, named(0, "ann"), heir(1, "ann", "bob"), heir(2, "ann", "eve"), death(3, "eve"), death(5, "ann")]
        self.check(rows, [king("ann", 0, 5, 1)])

    def test_an_heir_who_is_dead_on_the_day(self):
        rows = [KING, named(0, "ann"), heir(1, "ann", "bob")]
        for day in (0, 4, 5):
            self.check(rows + [death(day, "bob"), death(5, "ann")], [king("ann", 0, 5, 1)])
            self.check(rows + [death(5, "ann"), death(day, "bob")], [king("ann", 0, 5, 1)])
        self.check(rows + [death(6, "bob"), death(5, "ann")], [king("ann", 0, 5, 1), king("bob", 5, 6, 4)])

    def test_an_heir_whose_death_is_heard_later_than_known(self):
        rows = [KING, named(0, "ann"), heir(1, "ann", "bob"), death(4, "bob", heard=9), death(5, "ann")]
        self.check(rows, [king("ann", 0, 5, 1), king("bob", 5, None, 4)], known=8)
        self.check(rows, [king("ann", 0, 5, 1)], known=9)

    def test_an_heir_whose_seal_is_lost(self):
        rows = [KING, named(0, "ann"), heir(1, "ann", "bob"), done(2, "lost", "bob"), death(5, "ann")]
        self.check(rows, [king("ann", 0, 5, 1), king("bob", 5, None, 4)])

    def test_herself_as_heir(self):
        self.check([KING, named(0, "ann"), heir(1, "ann", "ann"), death(5, "ann")], [king("ann", 0, 5, 1)])

    def test_an_heir_in_two_offices(self):
        rows = [KING, root("duke"), named(0, "ann"), named(1, "ann", "duke"), heir(2, "ann", "bob"),
                heir(2, "ann", "bob", "duke"), death(5, "ann")]
        self.check(rows, [("duke", "ann", 1, 5, 3), ("duke", "bob", 5, None, 6), king("ann", 0, 5, 2),
                          king("bob", 5, None, 6)])

    def test_an_heir_in_one_office_of_two(self):
        rows = [KING, root("duke"), named(0, "ann"), named(1, "ann", "duke"), heir(2, "ann", "bob"), death(5, "ann")]
        self.check(rows, [("duke", "ann", 1, 5, 3), king("ann", 0, 5, 2), king("bob", 5, None, 5)])

    def test_another_heir_in_each_office(self):
        rows = [KING, root("duke"), named(0, "ann"), named(1, "ann", "duke"), heir(2, "ann", "bob"),
                heir(3, "ann", "eve", "duke"), death(5, "ann")]
        self.check(rows, [("duke", "ann", 1, 5, 3), ("duke", "eve", 5, None, 6), king("ann", 0, 5, 2),
                          king("bob", 5, None, 6)])

    def test_by_one_who_does_not_hold_the_office(self):
        rows = [root("king", rule="first"), named(0, "eve"), named(1, "ann"), heir(2, "ann", "bob"), death(5, "ann")]
        self.check(rows, [king("eve", 0, None, 1), king("ann", 1, 5, 2)])
        rows = [root("king", rule="last")] + rows[1:]
        self.check(rows, [king("eve", 0, None, 1), king("ann", 1, 5, 2), king("bob", 5, None, 4)])
        rows = [root("king", rule="open")] + rows[1:]
        self.check(rows, [king("eve", 0, None, 1), king("ann", 1, 5, 2)])

    def test_by_one_who_holds_it_only_later(self):
        self.check([KING, heir(2, "ann", "bob"), named(2, "ann"), death(5, "ann")], [king("ann", 2, 5, 2)])
        self.check([KING, named(2, "ann"), heir(2, "ann", "bob"), death(5, "ann")],
                   [king("ann", 2, 5, 1), king("bob", 5, None, 3)])

    def test_by_one_whose_seal_is_lost(self):
        self.check([KING, named(0, "ann"), done(1, "lost", "ann"), heir(1, "ann", "bob"), death(5, "ann")],
                   [king("ann", 0, 5, 1)])

    def test_by_one_who_is_dead(self):
        rows = [KING, named(0, "ann"), heir(5, "ann", "bob"), death(5, "ann")]
        self.check(rows, [king("ann", 0, 5, 1)])

    def test_one_that_is_not_known(self):
        rows = [KING, named(0, "ann"), heir(1, "ann", "bob", heard=9), death(5, "ann")]
        self.check(rows, [king("ann", 0, 5, 1)], known=8)
        self.check(rows, [king("ann", 0, 5, 1), king("bob", 5, None, 3)], known=9)

    def test_whether_she_still_holds_it_later_is_not_asked(self):
        rows = [KING, named(0, "ann"), heir(1, "ann", "bob"), named(3, "eve"), death(5, "ann")]
        self.check(rows, [king("ann", 0, 5, 1), king("eve", 3, None, 3), king("bob", 5, None, 4)])

    def test_without_a_claim_alive_on_the_day(self):
        ahead = [KING, named(0, "ann"), heir(1, "ann", "bob"), chosen(2, "ann", "eve", 4)]
        told = [king("ann", 0, 4, 1), king("eve", 4, None, 3)]
        self.check(ahead + [death(4, "ann")], told)
        self.check(ahead + [death(5, "ann")], told)
        self.check(ahead + [death(3, "ann")],
                   [king("ann", 0, 3, 1), king("bob", 3, None, 4), king("eve", 4, None, 3)])

    def test_an_heir_stays_one_for_a_later_claim(self):
        rows = [KING, named(0, "ann"), heir(1, "ann", "bob"), chosen(2, "ann", "eve", 4), named(6, "ann"),
                death(8, "ann")]
        self.check(rows, [king("ann", 0, 4, 1), king("eve", 4, None, 3), king("ann", 6, 8, 4), king("bob", 8, None, 5)])

    def test_a_claim_of_the_very_day_is_passed_on_and_is_none(self):
        rows = [KING, named(0, "ann"), heir(1, "ann", "bob"), chosen(2, "ann", "eve", 3), named(5, "ann"),
                death(5, "ann")]
        self.check(rows, [king("ann", 0, 3, 1), king("eve", 3, None, 3), king("bob", 5, None, 5)])

    def test_two_claims_of_the_dead_bring_one_to_the_heir(self):
        rows = [KING, named(0, "ann"), named(1, "ann"), heir(2, "ann", "bob"), death(5, "ann")]
        self.check(rows, [king("ann", 0, 5, 1), king("ann", 1, 5, 2), king("bob", 5, None, 4)])

    def test_an_heir_who_has_a_claim_already_gets_one_more(self):
        rows = [root("king", rule="first"), named(0, "ann"), named(2, "bob"), heir(2, "ann", "bob"), death(5, "ann")]
        self.check(rows, [king("ann", 0, 5, 1), king("bob", 2, None, 2), king("bob", 5, None, 4)])

    def test_the_heirs_of_heirs(self):
        rows = [KING, named(0, "ann"), heir(1, "ann", "bob"), death(5, "ann"), heir(6, "bob", "eve"), death(7, "bob")]
        self.check(rows, [king("ann", 0, 5, 1), king("bob", 5, 7, 3), king("eve", 7, None, 5)])
        # Ann's heir isn't bob's.
        rows = [KING, named(0, "ann"), heir(1, "ann", "bob"), chosen(2, "ann", "eve", 3), death(5, "eve")]
        self.check(rows, [king("ann", 0, 3, 1), king("eve", 3, 5, 3)])


class TestDeaths(ClaimsCase):
    def test_claims_alive_or_to_come_end(self):
        rows = [KING, root("duke"), named(0, "ann"), chosen(1, "ann", "ann", 10), named(2, "ann", "duke")]
        self.check(rows + [death(5, "ann")], [("duke", "ann", 2, 5, 4), king("ann", 0, 5, 2)])
        self.check(rows + [death(10, "ann")], [("duke", "ann", 2, 10, 4), king("ann", 0, 10, 2)])
        self.check(rows + [death(11, "ann")],
                   [("duke", "ann", 2, 11, 4), king("ann", 0, 10, 2), king("ann", 10, 11, 3)])

    def test_a_claim_that_begins_later(self):
        rows = [KING, named(0, "ann"), chosen(2, "ann", "bob", 10), death(5, "bob")]
        self.check(rows, [king("ann", 0, 10, 1)])

    def test_a_claim_that_begins_later_is_not_passed_on(self):
        rows = [KING, named(0, "ann"), heir(1, "ann", "eve"), chosen(2, "ann", "bob", 4), chosen(4, "bob", "ann", 10),
                death(6, "ann")]
        self.check(rows, [king("ann", 0, 4, 1), king("bob", 4, 10, 3)])

    def test_the_claims_of_others_stay(self):
        rows = [KING, named(0, "ann"), named(1, "bob"), death(5, "bob"), death(6, "eve")]
        self.check(rows, [king("ann", 0, None, 1), king("bob", 1, 5, 2)])

    def test_on_the_since_itself(self):
        self.check([KING, named(5, "ann"), death(5, "ann")], [])

    def test_a_named_row_behind_a_death_in_the_order(self):
        self.check([KING, death(5, "ann"), named(5, "ann")], [king("ann", 5, None, 2)])
        self.check([KING, death(5, "ann"), named(7, "ann")], [king("ann", 7, None, 2)])
        self.check([KING, named(7, "ann"), death(5, "ann")], [king("ann", 7, None, 1)])

    def test_told_twice(self):
        rows = [KING, named(0, "ann"), death(5, "ann"), named(6, "ann"), death(8, "ann")]
        self.check(rows, [king("ann", 0, 5, 1), king("ann", 6, None, 3)])
        rows = [KING, death(8, "ann"), named(0, "ann"), death(5, "ann"), named(6, "ann")]
        self.check(rows, [king("ann", 0, 5, 2), king("ann", 6, None, 4)])

    def test_told_twice_on_one_day(self):
        self.check([KING, named(0, "ann"), death(5, "ann"), named(5, "ann"), death(5, "ann")],
                   [king("ann", 0, 5, 1), king("ann", 5, None, 3)])

    def test_told_twice_brings_the_heir_one_claim(self):
        rows = [KING, named(0, "ann"), heir(1, "ann", "bob"), death(5, "ann"), named(6, "ann"), death(7, "ann")]
        self.check(rows, [king("ann", 0, 5, 1), king("bob", 5, None, 3), king("ann", 6, None, 4)])

    def test_the_first_one_known_counts(self):
        rows = [KING, named(0, "ann"), death(5, "ann", heard=9), named(6, "ann"), death(8, "ann")]
        self.check(rows, [king("ann", 0, 8, 1), king("ann", 6, 8, 3)], known=8)
        self.check(rows, [king("ann", 0, 5, 1), king("ann", 6, None, 3)], known=9)

    def test_the_first_one_is_each_persons_own(self):
        rows = [KING, named(0, "ann"), death(2, "bob"), death(5, "ann")]
        self.check(rows, [king("ann", 0, 5, 1)])

    def test_the_order_goes_by_day_not_by_number(self):
        rows = [death(5, "ann"), heir(2, "ann", "bob"), named(1, "ann"), KING]
        self.check(rows, [king("ann", 1, 5, 2), king("bob", 5, None, 0)])


class TestHolder(unittest.TestCase):
    def check(self, rows, day, told, office="king", known=9999):
        self.assertEqual(holder(register_of(rows), known, office, day), told)

    def test_no_claim(self):
        self.check([KING], 5, ("none",))
        self.check([KING, root("duke"), named(0, "ann", "duke")], 5, ("none",))

    def test_from_since_on_ahead_of_until(self):
        rows = [KING, named(3, "ann"), death(6, "ann")]
        for day, told in [(0, ("none",)), (2, ("none",)), (3, ("one", "ann", 1)), (5, ("one", "ann", 1)),
                          (6, ("none",)), (7, ("none",)), (9999, ("none",))]:
            self.check(rows, day, told)

    def test_the_days_at_the_ends(self):
        self.check([KING, named(0, "ann")], 0, ("one", "ann", 1))
        self.check([KING, named(0, "ann")], 9999, ("one", "ann", 1))
        self.check([KING, named(9999, "ann")], 9998, ("none",))
        self.check([KING, named(9999, "ann")], 9999, ("one", "ann", 1))

    def test_one_person_with_two_claims_alive(self):
        for rule in ("open", "first", "last"):
            rows = [root("king", rule=rule), named(5, "ann"), named(3, "ann"), named(3, "ann")]
            self.check(rows, 3, ("one", "ann", 2))
            self.check(rows, 4, ("one", "ann", 2))
            self.check(rows, 9, ("one", "ann", 2))

    def test_two_persons_by_each_rule(self):
        rows = [named(5, "ann"), named(3, "bob")]
        for rule, told in [("open", ("parted", ["ann", "bob"])), ("first", ("one", "bob", 2)),
                           ("last", ("one", "ann", 1))]:
            self.check([root("king", rule=rule)] + rows, 4, ("one", "bob", 2))
            self.check([root("king", rule=rule)] + rows, 5, told)
            self.check([root("king", rule=rule)] + rows, 9, told)

    def test_two_persons_alike_in_since(self):
        rows = [named(5, "bob"), named(5, "ann")]
        for rule, told in [("open", ("parted", ["ann", "bob"])), ("first", ("one", "bob", 1)),
                           ("last", ("one", "ann", 2))]:
            self.check([root("king", rule=rule)] + rows, 5, told)

    def test_parted_tells_each_person_once_rising(self):
        rows = [KING, named(1, "eve"), named(2, "bob"), named(3, "eve"), named(4, "ann"), named(4, "bob")]
        self.check(rows, 9, ("parted", ["ann", "bob", "eve"]))
        self.check(rows, 2, ("parted", ["bob", "eve"]))
        self.check(rows, 1, ("one", "eve", 1))

    def test_the_number_is_that_of_the_oldest_claim_alive(self):
        rows = [named(1, "ann"), named(2, "bob"), named(4, "ann"), named(4, "ann")]
        self.check([root("king", rule="last")] + rows, 9, ("one", "ann", 1))
        self.check([root("king", rule="first")] + rows, 9, ("one", "ann", 1))
        rows = [named(4, "ann"), named(1, "bob"), named(2, "ann")]
        self.check([root("king", rule="last")] + rows, 9, ("one", "ann", 3))
        rows = [named(1, "bob"), named(4, "ann"), named(3, "ann"), named(3, "ann")]
        self.check([root("king", rule="last")] + rows, 9, ("one", "ann", 3))

    def test_a_claim_that_has_ended_gives_no_number(self):
        rows = [KING, named(0, "ann"), chosen(1, "ann", "ann", 5)]
        self.check(rows, 4, ("one", "ann", 1))
        self.check(rows, 5, ("one", "ann", 2))

    def test_an_office_without_a_root(self):
        rows = [KING, named(0, "ann"), named(0, "ann", "duke")]
        self.check(rows, 5, ("none",), office="duke")
        self.check(rows, 5, ("none",), office="ann")
        self.check(rows, 5, ("none",), office="zoe")
        self.check([], 5, ("none",))

    def test_a_root_that_is_not_known(self):
        rows = [root("king", heard=8), named(0, "ann")]
        self.check(rows, 5, ("none",), known=7)
        self.check(rows, 5, ("one", "ann", 1), known=8)

    def test_a_dead_person_named_behind_the_death_holds_it(self):
        self.check([KING, death(2, "ann"), named(3, "ann")], 4, ("one", "ann", 2))

    def test_an_heirs_number_is_that_of_the_death(self):
        self.check([KING, named(0, "ann"), heir(1, "ann", "bob"), death(5, "ann")], 5, ("one", "bob", 3))

    def test_kinds(self):
        told = holder(register_of([KING, named(1, "eve"), named(2, "bob")]), 9999, "king", 5)
        self.assertIsInstance(told, tuple)
        self.assertIsInstance(told[1], list)


class TestSomewhatBeyond(unittest.TestCase):
    def test_days_beyond_are_not_refused(self):
        book = register_of([KING, named(0, "ann")])
        self.assertEqual(claims(book, 10000), [king("ann", 0, None, 1)])
        self.assertEqual(claims(book, -1), [])
        self.assertEqual(holder(book, 10000, "king", 10000), ("one", "ann", 1))
        self.assertEqual(holder(book, 9999, "king", -1), ("none",))


class TestTheAskersOwn(unittest.TestCase):
    rows = [KING, named(0, "ann"), named(1, "eve"), heir(2, "ann", "bob"), death(5, "ann")]

    def test_claims(self):
        book = register_of(self.rows)
        before = copy.deepcopy(book)
        told = [king("ann", 0, 5, 1), king("eve", 1, None, 2)]
        check_own(self, lambda: claims(book, 9999), told)
        self.assertEqual(book, before)

    def test_persons_of_a_parted_office(self):
        book = register_of(self.rows)
        told = holder(book, 9999, "king", 3)
        self.assertEqual(told, ("parted", ["ann", "eve"]))
        told[1].append("zoe")
        told[1][0] = "abe"
        self.assertEqual(holder(book, 9999, "king", 3), ("parted", ["ann", "eve"]))
        self.assertEqual(told, ("parted", ["abe", "eve", "zoe"]))
        self.assertEqual(book, tuple(self.rows))


if __name__ == "__main__":
    unittest.main()
