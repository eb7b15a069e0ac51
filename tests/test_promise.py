"""The promise over the whole, on many small registers: the program beside a slow reading of the document.

The slow reading takes each point by its words, shares no code with the program, and looks for what stands by trying
every list there could be.
"""

import copy
import itertools
import random
import unittest

from sealchain.chains import bases, calls, chain, is_chain, standing
from sealchain.claims import claims, holder
from sealchain.faults import faults, is_shut, leaning
from sealchain.registers import register_of
from sealchain.seals import has_seal, is_sound, lives

PEOPLE = ["ann", "bob", "eve"]
OFFICES = ["king", "duke"]
LAST = 9
DAYS = list(range(LAST + 2))
BORNE = ("leave", "paper", "like", "copy")


class Maker:
    """Makes small registers, the same ones each time, in which much hangs together."""

    def __init__(self, seed):
        self.random = random.Random(seed)

    def one_of(self, things):
        return things[self.random.randrange(len(things))]

    def stretch(self):
        start = self.one_of([0, 0, 0, 1, 2, 4])
        return (start, self.one_of([None, None, None, start + 3, start + 6, LAST]))

    def deed(self):
        day, late = self.random.randrange(LAST), self.one_of([5, 7, LAST])
        by, person, office = self.one_of(PEOPLE), self.one_of(PEOPLE), self.one_of(OFFICES)
        matters, further = self.one_of([1, 1, 1, 2, 3]), self.one_of([0, 0, 1, 1, 2, 3])
        return self.one_of([
            ("named", self.one_of([0, day]), office, person), ("heir", day, by, office, person),
            ("chosen", day, by, office, person, day + self.one_of([0, 0, 1, 3])),
            ("death", day, person), ("lost", day, person), ("found", day, person),
            ("leave", day, by, person, matters, self.stretch(), further),
            ("leave", self.one_of([0, 1, 2]), by, person, 3, (0, None), further),
            ("leave", self.one_of([3, 4, 5]), by, person, 1, (0, None), 0),
            ("paper", day, by, matters, self.stretch(), None, ("let",)), ("paper", late, by, 1, (4, 6), None, ("let",)),
            ("like", day, by, matters, self.stretch(), person, 0, ()), ("copy", day, by, 0), ("copy", late, by, 0),
            ("call", day, by, 0),
        ])

    def aimed(self, deed, rows):
        """The deed, of a row that bears or is borne, if it is one that is of a row."""
        if deed[0] not in ("like", "copy", "call"):
            return deed
        place = 6 if deed[0] == "like" else 3
        likely = [number for number, row in enumerate(rows) if row[1][0] in BORNE]
        of = self.one_of(likely + likely + [self.random.randrange(len(rows) + 1)])
        return deed[:place] + (of,) + deed[place + 1:]

    def root(self, office):
        matters, further = self.one_of([1, 3, 7]), self.one_of([0, 2, 3, 4])
        return (self.one_of([0, 0, 0, 3]), ("root", office, matters, further, self.one_of(["open", "first", "last"])))

    def spine(self):
        """An office's holder, and perhaps leaves one behind the other, so that chains get long."""
        first, second, third = [self.one_of(PEOPLE) for _ in range(3)]
        rows = [(0, ("named", 0, self.one_of(OFFICES), first))]
        if self.random.randrange(3) > 0:
            rows.append((1, ("leave", 1, first, second, self.one_of([1, 3]), (0, None), self.one_of([1, 2]))))
            rows.append((2, ("leave", 2, second, third, 1, (0, None), self.one_of([0, 1]))))
        return rows

    def register(self):
        rows = [self.root(office) for office in OFFICES] + self.spine()
        for _ in range(self.random.randrange(3, 14)):
            deed = self.deed()
            rows.append((deed[1] + self.one_of([0, 0, 0, 1, 4]), deed))
        self.random.shuffle(rows)
        return register_of([(heard, self.aimed(deed, rows)) for heard, deed in rows])


def registers(count, seed):
    maker = Maker(seed)
    return [maker.register() for _ in range(count)]


class Slow:
    """A register known by a day, read by the words of the document."""

    def __init__(self, book, known):
        self.rows = {number: deed for number, (heard, deed) in enumerate(book) if heard <= known}
        self.order = sorted((deed[1], number) for number, deed in self.rows.items() if deed[0] != "root")
        self.roots = {deed[1]: deed for deed in self.rows.values() if deed[0] == "root"}
        self.borne = [number for number, deed in self.rows.items() if deed[0] in BORNE]
        self.claims = self.all_claims()

    def lives(self, person, day):
        return all((deed[0], deed[2]) != ("death", person) or deed[1] > day for deed in self.rows.values())

    def has_seal(self, person, day):
        kept = True
        for done, number in self.order:
            if done <= day and self.rows[number][0] in ("lost", "found") and self.rows[number][2] == person:
                kept = self.rows[number][0] == "found"
        return kept

    def is_sound(self, number):
        deed = self.rows.get(number, ("",))
        if deed[0] not in ("chosen", "heir", "leave", "paper", "like", "copy", "call"):
            return False
        return self.lives(deed[2], deed[1]) and self.has_seal(deed[2], deed[1])

    def alive(self, told, office, day):
        return [each for each in told if each["office"] == office and each["since"] <= day < each["until"]]

    def holder(self, told, office, day):
        alive = sorted(self.alive(told, office, day), key=lambda each: (each["since"], each["number"]))
        people = {each["person"] for each in alive}
        if office not in self.roots or not alive:
            return ("none",)
        rule = self.roots[office][4]
        if len(people) > 1 and rule == "open":
            return ("parted", sorted(people))
        person = alive[-1 if rule == "last" else 0]["person"]
        return ("one", person, [each["number"] for each in alive if each["person"] == person][0])

    def holds(self, told, person, office, day):
        return self.holder(told, office, day)[1:2] == (person,)

    def all_claims(self):
        told, heirs, dead = [], {}, set()

        def bring(office, person, since, number):
            told.append({"office": office, "person": person, "since": since, "until": 10 ** 6, "number": number})

        def end(mine, day):
            for each in mine:
                if each["since"] <= day < each["until"] or day < each["since"] < each["until"]:
                    each["until"] = day

        for day, number in self.order:
            deed = self.rows[number]
            if deed[0] == "named" and deed[2] in self.roots:
                bring(deed[2], deed[3], day, number)
            if deed[0] in ("chosen", "heir") and deed[3] in self.roots:
                by, office, person = deed[2], deed[3], deed[4]
                if self.is_sound(number) and self.holds(told, by, office, day):
                    if deed[0] == "heir":
                        heirs[office, by] = person
                    else:
                        end([each for each in told if (each["office"], each["person"]) == (office, by)], deed[5])
                        bring(office, person, deed[5], number)
            if deed[0] == "death" and deed[2] not in dead:
                dead.add(deed[2])
                mine = [each for each in told if each["person"] == deed[2]]
                left = {each["office"] for office in self.roots for each in self.alive(mine, office, day)}
                for office in left:
                    if (office, deed[2]) in heirs and self.lives(heirs[office, deed[2]], day):
                        bring(office, heirs[office, deed[2]], day, number)
                end(mine, day)
        return [each for each in told if each["since"] < each["until"]]

    def told_claims(self):
        told = [(each["office"], each["since"], each["number"], each["person"], each["until"]) for each in self.claims]
        return [(office, person, since, None if until == 10 ** 6 else until, number)
                for office, since, number, person, until in sorted(told)]

    def matters(self, deed):
        number = {"root": deed[2], "leave": deed[-3], "paper": deed[3], "like": deed[3]}[deed[0]]
        return {k for k in range(8) if number >> k & 1}

    def days(self, deed):
        start, stop = deed[5] if deed[0] == "leave" else deed[4]
        return set(range(start, 60 if stop is None else stop))

    def calls(self, number, day):
        if number not in self.borne:
            return []
        deed, told = self.rows[number], []
        for called, each in self.order:
            call = self.rows[each]
            if call[0] == "call" and call[3] == number and called <= day and self.is_sound(each):
                held = [office for office in self.roots if self.holds(self.claims, call[2], office, called)]
                over = [office for office in held if deed[0] != "copy"
                        and self.matters(deed) <= self.matters(self.roots[office])]
                if call[2] == deed[2] or over:
                    told.append(each)
        return sorted(told)

    def office_word(self, deed, office):
        root = self.roots[office]
        if not self.holds(self.claims, deed[2], office, deed[1]):
            return "holder"
        if not self.matters(deed) <= self.matters(root):
            return "matters"
        return "further" if deed[0] == "leave" and not deed[6] < root[3] else None

    def leave_word(self, number, given):
        deed, bound = self.rows[number], self.rows[given]
        if self.order.index((bound[1], given)) >= self.order.index((deed[1], number)):
            return "order"
        if deed[1] not in self.days(bound) or not self.days(deed) <= self.days(bound):
            return "days"
        if not self.matters(deed) <= self.matters(bound):
            return "matters"
        return "further" if deed[0] == "leave" and not deed[6] < bound[6] else None

    def leaves_to(self, person):
        return [number for number, deed in sorted(self.rows.items()) if deed[0] == "leave" and deed[3] == person]

    def bases(self, number):
        if number not in self.borne:
            return []
        deed = self.rows[number]
        if deed[0] == "copy":
            of = self.rows.get(deed[3], ("",))
            ahead = of[0] in ("paper", "like", "copy") and (of[1], deed[3]) < (deed[1], number)
            return [("copy", deed[3])] if ahead else []
        told = [(self.holder(self.claims, office, deed[1])[2], "office", office) for office in self.roots
                if self.office_word(deed, office) is None]
        told += [(given, "leave") for given in self.leaves_to(deed[2]) if self.leave_word(number, given) is None]
        return [each[1:] + each[:1] for each in sorted(told)]

    def is_fit(self, number, day):
        return self.rows[number][1] <= day and self.is_sound(number) and not self.calls(number, day)

    def is_shut(self, day, numbers):
        if len(set(numbers)) != len(numbers) or not set(numbers) <= set(self.borne):
            return False
        return all((number in numbers) == (self.is_fit(number, day) and any(
            base[0] == "office" or base[1] in numbers for base in self.bases(number))) for number in self.borne)

    def is_chain(self, day, numbers):
        if len(numbers) < 2 or not all(each in self.borne and self.is_fit(each, day) for each in numbers[1:]):
            return False
        if not any(base[0] == "office" and base[2] == numbers[0] for base in self.bases(numbers[1])):
            return False
        return all(("leave", one) in self.bases(two) or ("copy", one) in self.bases(two)
                   for one, two in zip(numbers[1:], numbers[2:]))

    def faults(self, day, number, stands):
        deed = self.rows[number]
        if number in stands:
            return []
        if deed[1] > day:
            return [("early",)]
        if not self.is_sound(number):
            return [("seal",)]
        if self.calls(number, day):
            return [("called", min(self.calls(number, day)))]
        if deed[0] == "copy":
            return [("copy", deed[3], "falls" if self.bases(number) else "none")]
        claimed = sorted({each["office"] for each in self.claims if each["person"] == deed[2]})
        told = [("office", office, self.office_word(deed, office)) for office in claimed]
        told += [("leave", given, self.leave_word(number, given) or "falls") for given in self.leaves_to(deed[2])]
        return told or [("none",)]

    def chains_to(self, day):
        """Every chain that there is for a day, by length."""
        firsts = [(base[-1], number) for number in self.borne for base in self.bases(number) if base[0] == "office"]
        lists = [list(each) for each in firsts if self.is_chain(day, list(each))]
        for each in lists:
            lists.extend(each + [more] for more in self.borne if self.is_chain(day, each + [more]))
        return lists


def subsets(numbers):
    return itertools.chain.from_iterable(itertools.combinations(numbers, k) for k in range(len(numbers) + 1))


class TestBesideTheSlowReading(unittest.TestCase):
    def test_seals(self):
        for book in registers(150, seed=1):
            for known in (0, 3, 6, 99):
                slow = Slow(book, known)
                for person in PEOPLE + ["zoe"]:
                    for day in DAYS:
                        self.assertIs(lives(book, known, person, day), slow.lives(person, day), book)
                        self.assertIs(has_seal(book, known, person, day), slow.has_seal(person, day), book)
                for number in range(len(book)):
                    self.assertIs(is_sound(book, known, number), slow.is_sound(number), (book, number))

    def test_claims_and_holders(self):
        for book in registers(500, seed=2):
            for known in (2, 5, 99):
                slow = Slow(book, known)
                self.assertEqual(claims(book, known), slow.told_claims(), (book, known))
                for office in OFFICES + ["earl"]:
                    for day in DAYS:
                        self.assertEqual(holder(book, known, office, day), slow.holder(slow.claims, office, day), book)

    def test_calls_and_bases(self):
        for book in registers(400, seed=3):
            for known in (5, 99):
                slow = Slow(book, known)
                for number in range(len(book)):
                    self.assertEqual(bases(book, known, number), slow.bases(number), (book, number))
                    for day in (0, 4, 8, 10):
                        self.assertEqual(calls(book, known, number, day), slow.calls(number, day), (book, number))

    def test_faults(self):
        for book in registers(400, seed=4):
            for known in (6, 99):
                slow = Slow(book, known)
                for day in (3, 7, 10):
                    stands = standing(book, known, day)
                    for number in slow.borne:
                        told = slow.faults(day, number, stands)
                        self.assertEqual(faults(book, known, day, number), told, (book, number))


class TestThePromise(unittest.TestCase):
    def test_the_standing_rows_are_the_only_list_that_is_shut(self):
        for book in registers(60, seed=5):
            for known, day in ((6, 5), (99, 8)):
                slow = Slow(book, known)
                if len(slow.borne) > 7:
                    continue
                shut = []
                for numbers in subsets(slow.borne):
                    told = slow.is_shut(day, list(numbers))
                    self.assertIs(is_shut(book, known, day, list(numbers)), told, (book, numbers))
                    self.assertIs(is_shut(book, known, day, list(numbers)[::-1]), told, (book, numbers))
                    if told:
                        shut.append(sorted(numbers))
                self.assertEqual(shut, [standing(book, known, day)], book)

    def test_a_row_stands_just_where_a_chain_leads_to_it(self):
        longest = 0
        for book in registers(250, seed=6):
            for known, day in ((6, 6), (99, 10)):
                lists = Slow(book, known).chains_to(day)
                stands = standing(book, known, day)
                self.assertEqual(stands, sorted({each[-1] for each in lists}), book)
                for each in lists:
                    self.assertIs(is_chain(book, known, day, each), True, (book, each))
                    longest = max(longest, len(each))
                for number in range(len(book)):
                    told = chain(book, known, day, number)
                    if number in stands:
                        self.assertIn(told, lists, book)
                        self.assertEqual(told[-1], number)
                    else:
                        self.assertIsNone(told)
        self.assertGreater(longest, 4)

    def test_the_chain_goes_by_the_first_base_that_bears(self):
        for book in registers(200, seed=7):
            slow, stands = Slow(book, 99), standing(book, 99, 10)
            for number in stands:
                bearing = [base for base in slow.bases(number) if base[0] == "office" or base[1] in stands]
                first = bearing[0]
                ahead = [first[2]] if first[0] == "office" else chain(book, 99, 10, first[1])
                self.assertEqual(chain(book, 99, 10, number), ahead + [number], book)

    def test_lists_of_any_numbers(self):
        maker = Maker(8)
        for book in registers(150, seed=8):
            slow = Slow(book, 99)
            for _ in range(40):
                numbers = [maker.random.randrange(-2, len(book) + 2) for _ in range(maker.random.randrange(5))]
                self.assertIs(is_chain(book, 99, 8, numbers), slow.is_chain(8, numbers), (book, numbers))
                self.assertIs(is_shut(book, 99, 8, numbers), slow.is_shut(8, numbers), (book, numbers))

    def test_no_fault_is_told_just_where_it_stands(self):
        words = set()
        for book in registers(200, seed=9):
            slow = Slow(book, 99)
            for day in (4, 10):
                stands = standing(book, 99, day)
                for number in slow.borne:
                    told = faults(book, 99, day, number)
                    self.assertEqual(told == [], number in stands, (book, number))
                    words.update((each[0], each[-1]) for each in told if isinstance(each[-1], str))
        self.assertEqual(words, {("early", "early"), ("seal", "seal"), ("none", "none"), ("office", "holder"),
                                 ("office", "matters"), ("office", "further"), ("leave", "order"), ("leave", "days"),
                                 ("leave", "matters"), ("leave", "further"), ("leave", "falls"), ("copy", "none"),
                                 ("copy", "falls")})

    def test_what_was_known_is_not_changed_by_what_is_heard_later(self):
        for book, other in zip(registers(100, seed=10), registers(100, seed=11)):
            known = 5
            early = [row if row[0] <= known else (9, ("found", 9, "zoe")) for row in book]
            late = register_of(list(book) + [(row[0] + known + 1, row[1]) for row in other if row[1][0] != "root"])
            for each in (register_of(early), late):
                self.assertEqual(self.all_told(each, known, len(book)), self.all_told(book, known, len(book)))

    def all_told(self, book, known, count):
        told = [claims(book, known)] + [holder(book, known, office, day) for office in OFFICES for day in DAYS]
        told += [standing(book, known, day) for day in DAYS]
        borne = Slow(book, known).borne
        for number in range(count):
            told += [is_sound(book, known, number), bases(book, known, number), calls(book, known, number, 9),
                     chain(book, known, 9, number), leaning(book, known, 9, number)]
            if number in borne:
                told.append(faults(book, known, 9, number))
        return told

    def test_never_two_hold_one_office_on_one_day(self):
        for book in registers(100, seed=12):
            for office in OFFICES:
                for day in DAYS:
                    told = holder(book, 99, office, day)
                    alive = {claim[1] for claim in claims(book, 99)
                             if claim[0] == office and claim[2] <= day and (claim[3] is None or day < claim[3])}
                    self.assertEqual(told == ("none",), not alive)
                    if told[0] == "one":
                        self.assertIn(told[1], alive)
                    if told[0] == "parted":
                        self.assertEqual(told[1], sorted(alive))
                        self.assertGreater(len(alive), 1)

    def test_a_leave_never_reaches_further_than_the_one_who_gave_it(self):
        leaves = 0
        for book in registers(300, seed=13):
            roots = {deed[1]: deed for heard, deed in book if deed[0] == "root"}
            for number in standing(book, 99, 10):
                deed = book[number][1]
                if deed[0] == "leave":
                    leaves += 1
                    numbers = chain(book, 99, 10, number)
                    bound = book[numbers[-2]][1]
                    if len(numbers) > 2:
                        self.assertLess(deed[6], bound[6])
                        self.assertEqual(deed[4] & ~bound[4], 0)
                    else:
                        held = [office for office in roots if holder(book, 99, office, deed[1])[1:2] == (deed[2],)]
                        self.assertTrue(any(deed[6] < roots[office][3] and deed[4] & ~roots[office][2] == 0
                                            for office in held))
        self.assertGreater(leaves, 50)

    def test_a_sound_copy_stands_as_far_as_what_it_is_of(self):
        copies = 0
        for book in registers(300, seed=14):
            slow = Slow(book, 99)
            for number in slow.borne:
                deed = slow.rows[number]
                if deed[0] == "copy" and slow.is_sound(number) and slow.bases(number):
                    copies += 1
                    for day in DAYS:
                        told = deed[1] <= day and not slow.calls(number, day) and deed[3] in standing(book, 99, day)
                        self.assertEqual(number in standing(book, 99, day), told, (book, number))
        self.assertGreater(copies, 50)

    def test_leaning_is_what_falls_where_the_row_is_taken_away(self):
        several = 0
        for book in registers(200, seed=15):
            for day in (6, 10):
                stands = standing(book, 99, day)
                for number in range(len(book)):
                    told = leaning(book, 99, day, number)
                    if number not in stands:
                        self.assertEqual(told, [])
                        continue
                    several += len(told) > 1
                    without = book[:number] + ((99, ("found", 99, "zoe")),) + book[number + 1:]
                    left = standing(without, 99, day)
                    self.assertEqual(told, [each for each in stands if each not in left], (book, number))
                    self.assertIn(number, told)
        self.assertGreater(several, 30)

    def test_what_is_called_in_takes_down_just_what_leans_on_it_alone(self):
        taken = 0
        for book in registers(200, seed=16):
            day = 10
            stands = standing(book, 99, day)
            for number in stands:
                by = book[number][1][2]
                if lives(book, 99, by, day) and has_seal(book, 99, by, day):
                    called = register_of(list(book) + [(day, ("call", day, by, number))])
                    down = leaning(book, 99, day, number)
                    taken += len(down)
                    self.assertEqual(standing(called, 99, day), [each for each in stands if each not in down], book)
                    self.assertEqual(standing(called, 99, day - 1), standing(book, 99, day - 1), book)
        self.assertGreater(taken, 100)

    def test_the_registers_are_as_they_were(self):
        for book in registers(20, seed=17):
            before = copy.deepcopy(book)
            self.all_told(book, 99, len(book))
            self.assertEqual(book, before)


if __name__ == "__main__":
    unittest.main()
