"""The promise over papers, histories, texts and the desk, on many small registers, beside the slow reading."""

import copy
import unittest

from samples import ANN, KING
from sealchain.chains import chain, is_chain, standing
from sealchain.claims import holder
from sealchain.desk import Desk
from sealchain.errors import NoText, SealError
from sealchain.faults import faults, is_shut, leaning
from sealchain.histories import history, moments, parted
from sealchain.papers import holds, judged, words
from sealchain.registers import register_of
from sealchain.seals import has_seal, is_sound, lives
from sealchain.texts import read, shown
from test_promise import DAYS, LAST, OFFICES, PEOPLE, Maker, Slow

PAPERS = ("paper", "like", "copy")
WIDE = list(range(LAST + 12))


class PaperMaker(Maker):
    """Makes registers in which many rows are papers, likes and copies of one another."""

    def pieces(self):
        return tuple(self.one_of(["let", "him", "pass", "do"]) for _ in range(self.one_of([1, 2, 2, 3, 8])))

    def changes(self):
        places = sorted(self.random.sample(range(8), self.one_of([0, 1, 1, 2]))) if self.random.randrange(4) == 0 else (
            sorted(self.random.sample(range(3), self.one_of([0, 1, 1, 2, 3]))))
        return tuple((place, self.one_of(["her", "stay", "not"])) for place in places)

    def deed(self):
        if self.random.randrange(3) == 0:
            return Maker.deed(self)
        day, by, whom = self.random.randrange(LAST), self.one_of(PEOPLE), self.one_of([None, None] + PEOPLE)
        return self.one_of([
            ("paper", day, by, 1, self.stretch(), whom, self.pieces()),
            ("like", day, by, 1, self.stretch(), whom, 0, self.changes()),
            ("like", day, by, 1, self.stretch(), whom, 0, self.changes()),
            ("copy", day, by, 0), ("copy", self.one_of([5, 7, LAST]), by, 0),
        ])

    def short(self):
        """A register of four rows in which something may hold."""
        rows = [KING, ANN]
        for _ in range(2):
            deed = self.one_of([
                ("paper", self.one_of([1, 2]), "ann", 1, self.stretch(), self.one_of([None, "bob"]), ("let",)),
                ("like", self.one_of([1, 2]), "ann", 1, self.stretch(), None, self.one_of([2, 3, 9]), ((0, "do"),)),
                ("copy", self.one_of([1, 2, 4]), self.one_of(["ann", "bob"]), self.one_of([2, 3])),
                ("call", self.one_of([3, 5]), self.one_of(["ann", "bob"]), self.one_of([2, 3])),
                ("lost", self.one_of([1, 2]), "ann"),
            ])
            rows.append((deed[1] + self.one_of([0, 0, 2, 5]), deed))
        return register_of(rows)

    def near(self, book):
        """A register that differs from another in one row, or in none."""
        place = self.one_of([0, 1, 2, 2, 3, 3])
        heard, deed = book[place]
        row = self.one_of([(heard, deed), (heard + 1, deed), self.short()[place], self.short()[place]])
        return book[:place] + (row,) + book[place + 1:]

    def busy(self):
        """A register in which what holds changes as more is heard."""
        rows = [KING, ANN, (1, ("leave", 1, "ann", "bob", 1, (0, None), 1))]
        for _ in range(3):
            day, by, of = self.one_of([2, 3, 4]), self.one_of(["ann", "bob"]), self.random.randrange(3, 6)
            rows.append(self.one_of([("paper", day, by, 1, (0, None), None, ("let",)), ("copy", day + 1, by, of)]))
        for _ in range(9):
            day, by, of = self.one_of([1, 2, 3, 4, 5]), self.one_of(["ann", "bob"]), self.random.randrange(2, 6)
            rows.append(self.one_of([
                ("lost", day, by), ("found", day, by), ("lost", day, by), ("found", day, by), ("call", day, by, of),
                ("named", day, "king", "eve"), ("death", day, self.one_of(["eve", "eve", "ann"])),
                ("leave", day, "ann", "bob", 1, (0, None), 0),
            ]))
        return register_of(rows[:3] + [(deed[1] + self.random.randrange(9), deed) for deed in rows[3:]])


def registers(count, seed):
    maker = PaperMaker(seed)
    return [maker.register() for _ in range(count)]


class Whole(Slow):
    """The slow reading, on to words, papers and what is judged."""

    def words(self, number):
        steps = [number]
        while steps.count(steps[-1]) == 1:
            deed = self.rows.get(steps[-1], ("",))
            if deed[0] not in PAPERS:
                return ("lacks", steps[-1])
            if deed[0] == "paper":
                return self.put_together(steps)
            steps.append(deed[6] if deed[0] == "like" else deed[3])
        return ("ring", sorted(set(steps[steps.index(steps[-1]):])))

    def put_together(self, steps):
        pieces = dict(enumerate(self.rows[steps[-1]][6]))
        for number in steps[-2::-1]:
            for place, piece in self.rows[number][7] if self.rows[number][0] == "like" else ():
                if place not in pieces and place - 1 not in pieces:
                    return ("beyond", number)
                pieces[place] = piece
        return ("words", tuple(pieces[place] for place in sorted(pieces)))

    def stands(self, day):
        found = set()
        while True:
            more = {number for number in self.borne if self.is_fit(number, day) and any(
                base[0] == "office" or base[1] in found for base in self.bases(number))}
            if more == found:
                return found
            found = more

    def behind(self, number):
        deed = self.rows[number]
        return self.behind(deed[3]) if deed[0] == "copy" else deed

    def judged(self, day):
        held = [number for number in sorted(self.stands(day))
                if self.rows[number][0] in PAPERS and day in self.days(self.behind(number))]
        return [(number, self.behind(number)[5], self.words(number)) for number in held]

    def is_held(self, day, number):
        return number in [each[0] for each in self.judged(day)]


def slow_history(book, day, number):
    told, held = [], False
    order = sorted((row[0], each) for each, row in enumerate(book))
    for count in range(1, len(order) + 1):
        heard = [each for _, each in order[:count]]
        far = [row if each in heard else (10 ** 6, row[1]) for each, row in enumerate(book)]
        if Whole(far, 10 ** 5).is_held(day, number) != held:
            held = not held
            told.append((heard[-1], held))
    return told


class TestBesideTheSlowReading(unittest.TestCase):
    def test_words(self):
        met = set()
        for book in registers(600, seed=1):
            for known in (3, 6, 99):
                slow = Whole(book, known)
                for number in range(len(book)):
                    told = slow.words(number)
                    self.assertEqual(words(book, known, number), told, (book, known, number))
                    met.add((told[0], len(told[1]) if told[0] == "ring" else None))
        self.assertLessEqual({("words", None), ("lacks", None), ("beyond", None), ("ring", 1), ("ring", 2), ("ring", 3)},
                             met)

    def test_holds_and_judged(self):
        copies = 0
        for book in registers(40, seed=2):
            for known in (5, 99):
                slow = Whole(book, known)
                for day in (3, 5, 6, 8, 10):
                    told = slow.judged(day)
                    self.assertEqual(judged(book, known, day), told, (book, known, day))
                    copies += len([each for each in told if book[each[0]][1][0] == "copy"])
                    for number in range(len(book)):
                        whom = [each[1] for each in told if each[0] == number]
                        self.assertIs(holds(book, known, day, number), whom != [], (book, number))
                        for person in ("ann", "zoe"):
                            held = whom in ([None], [person])
                            self.assertIs(holds(book, known, day, number, person), held, (book, number))
        self.assertGreater(copies, 20)

    def test_history(self):
        maker = PaperMaker(3)
        longest = 0
        for book in registers(10, seed=3) + [maker.busy() for _ in range(60)]:
            for number in range(3, 6):
                for day in (4, 8):
                    told = slow_history(book, day, number)
                    self.assertEqual(history(book, day, number), told, (book, number))
                    longest = max(longest, len(told))
        self.assertGreater(longest, 3)

    def test_parted(self):
        maker = PaperMaker(4)
        alike = 0
        for _ in range(250):
            one = maker.short()
            other = maker.near(one)
            ways = [(known, day) for known in range(13) for day in range(14)]
            slow = {known: (Whole(one, known), Whole(other, known)) for known in range(13)}
            seen = {(known, day): slow[known][0].judged(day) != slow[known][1].judged(day) for known, day in ways}
            told = min([way for way in ways if seen[way]], default=None)
            alike += told is None
            self.assertEqual(parted(one, other), told, (one, other))
            self.assertEqual(parted(other, one), told, (one, other))
        self.assertGreater(alike, 40)
        self.assertLess(alike, 200)


class TestThePromise(unittest.TestCase):
    def test_a_paper_holds_just_where_a_chain_leads_to_it_on_its_days(self):
        held = 0
        for book in registers(60, seed=5):
            for known, day in ((5, 4), (99, 6), (99, 10)):
                stands = standing(book, known, day)
                self.assertIs(is_shut(book, known, day, stands), True)
                for number in range(len(book)):
                    more = stands + [number]
                    self.assertIs(is_shut(book, known, day, more), False, (book, more))
                    less = [each for each in stands if each != number]
                    self.assertIs(is_shut(book, known, day, less), number not in stands, (book, less))
                    told = chain(book, known, day, number)
                    self.assertEqual(told is not None, number in stands)
                    if told is not None:
                        self.assertIs(is_chain(book, known, day, told), True, (book, told))
                    if holds(book, known, day, number):
                        held += 1
                        self.assertIsNotNone(told)
        self.assertGreater(held, 80)

    def test_what_was_known_is_not_changed_by_what_is_heard_later(self):
        for book, other in zip(registers(15, seed=6), registers(15, seed=7)):
            known = 5
            later = [(row[0] + known + 1, row[1]) for row in other if row[1][0] != "root"]
            late = register_of(list(book) + later)
            early = register_of([row if row[0] <= known else (9, ("found", 9, "zoe")) for row in book])
            self.assertEqual(self.all_told(late, known, len(book)), self.all_told(book, known, len(book)))
            self.assertEqual(self.all_told(early, known, len(book)), self.all_told(book, known, len(book)))
            for number in range(len(book)):
                self.assertEqual(self.heard_by(late, known, number), self.heard_by(book, known, number))

    def all_told(self, book, known, count):
        told = [judged(book, known, day) for day in DAYS]
        for number in range(count):
            told.append(words(book, known, number))
            told += [holds(book, known, day, number, person) for day in DAYS for person in (None, "ann")]
        return told

    def heard_by(self, book, known, number):
        return [each for each in history(book, 6, number) if book[each[0]][0] <= known]

    def test_history_tells_what_holds_known_by_each_day(self):
        maker = PaperMaker(8)
        for book in [maker.busy() for _ in range(60)]:
            for number in range(3, 6):
                told = history(book, 7, number)
                for known in WIDE:
                    heard = [truth for each, truth in told if book[each][0] <= known]
                    self.assertIs(holds(book, known, 7, number), heard[-1] if heard else False, (book, number, known))

    def test_a_sound_copy_holds_as_what_it_is_of(self):
        copies = 0
        for book in registers(200, seed=9):
            slow = Slow(book, 99)
            for number in slow.borne:
                deed = slow.rows[number]
                if deed[0] == "copy" and is_sound(book, 99, number) and slow.bases(number):
                    for day in DAYS:
                        told = deed[1] <= day and not slow.calls(number, day) and holds(book, 99, day, deed[3])
                        self.assertIs(holds(book, 99, day, number), told, (book, number))
                        copies += told
        self.assertGreater(copies, 100)

    def test_what_is_called_in_takes_down_just_what_leans_on_it_alone(self):
        taken = 0
        for book in registers(150, seed=10):
            for day in (7, 9):
                held = [each[0] for each in judged(book, 99, day)]
                for number in standing(book, 99, day):
                    by = book[number][1][2]
                    if lives(book, 99, by, day) and has_seal(book, 99, by, day):
                        called = register_of(list(book) + [(day, ("call", day, by, number))])
                        down = leaning(book, 99, day, number)
                        left = [each for each in held if each not in down]
                        self.assertEqual([each[0] for each in judged(called, 99, day)], left, (book, number))
                        self.assertEqual(judged(called, 99, day - 1), judged(book, 99, day - 1))
                        taken += len(held) - len(left)
        self.assertGreater(taken, 50)

    def test_nothing_changes_but_at_moments(self):
        for book in registers(60, seed=11):
            at = moments(book)
            for known in (5, 99):
                for day in WIDE:
                    if day not in at:
                        self.assertEqual(judged(book, known, day), judged(book, known, day - 1), (book, day))

    def test_the_registers_are_as_they_were(self):
        for book in registers(8, seed=12):
            before = copy.deepcopy(book)
            self.all_told(book, 99, len(book))
            moments(book)
            shown(book)
            parted(book[:4], book[2:6])
            for number in range(len(book)):
                history(book, 6, number)
            self.assertEqual(book, before)


class TestTexts(unittest.TestCase):
    def test_written_and_read_back(self):
        for book in registers(300, seed=13):
            self.assertEqual(read(shown(book)), book)

    def test_what_is_read_is_written_the_same(self):
        maker = PaperMaker(14)
        taken, refused = 0, 0
        for book in registers(400, seed=14):
            text = shown(book)
            place = maker.random.randrange(len(text))
            sign = maker.one_of(list(" \n-0123459ahnz"))
            way = maker.random.randrange(3)
            torn = text[:place] + ("" if way == 0 else sign) + text[place + (way != 1):]
            try:
                self.assertEqual(shown(read(torn)), torn)
                taken += 1
            except NoText as refusal:
                refused += 1
                self.check_first(torn, refusal.at)
            except SealError:
                pass
        self.assertGreater(taken, 50)
        self.assertGreater(refused, 50)

    def check_first(self, text, at):
        """That the lines ahead of a place write rows, and the one at it doesn't."""
        lines = text.split("\n")
        self.assertEqual(shown(tuple(read(line)[0] for line in lines[:at])), "\n".join(lines[:at]))
        if lines[at] != "":
            with self.assertRaises(NoText):
                read(lines[at])


class TestTheDesk(unittest.TestCase):
    def test_it_answers_as_the_functions_do(self):
        for book in registers(12, seed=15):
            desk = Desk(shown(book))
            for known, day in ((9999, 0), (6, 7), (9999, 9)):
                self.assertEqual(desk.say(f"known {known}"), "ok")
                self.assertEqual(desk.say(f"on {day}"), "ok")
                self.check_whole(desk, book, known, day)
                for number in range(len(book)):
                    self.check_row(desk, book, known, day, number)

    def check_whole(self, desk, book, known, day):
        self.assertEqual(desk.say("text"), shown(book))
        self.assertEqual(desk.say("standing"), self.told(standing(book, known, day)))
        for office in OFFICES + ["earl"]:
            told = holder(book, known, office, day)
            people = told[1] if told[0] == "parted" else list(told[1:2])
            self.assertEqual(desk.say("holder " + office), " ".join([told[0]] + people))

    def check_row(self, desk, book, known, day, number):
        numbers = chain(book, known, day, number)
        self.assertEqual(desk.say(f"stands {number}"), "no" if numbers is None else "yes " + self.told(numbers))
        self.assertEqual(desk.say(f"leaning {number}"), self.told(leaning(book, known, day, number)))
        word, rest = words(book, known, number)
        rest = rest if isinstance(rest, (tuple, list)) else [rest]
        self.assertEqual(desk.say(f"words {number}"), word + " " + self.told(rest))
        for person in PEOPLE:
            told = {True: "yes", False: "no"}[holds(book, known, day, number, person)]
            self.assertEqual(desk.say(f"holds {number} {person}"), told)
        turns = [f"{each} {'yes' if truth else 'no'}" for each, truth in history(book, day, number)]
        self.assertEqual(desk.say(f"history {number}"), "; ".join(turns) or "none")
        if book[number][0] <= known and book[number][1][0] in PAPERS + ("leave",):
            broken = [" ".join(str(part) for part in fault) for fault in faults(book, known, day, number)]
            self.assertEqual(desk.say(f"faults {number}"), "; ".join(broken) or "stands")

    def told(self, things):
        return " ".join(str(each) for each in things) or "none"

    def test_rows_added_one_by_one(self):
        for book in registers(20, seed=16):
            desk = Desk("")
            for line in shown(book).split("\n"):
                self.assertEqual(desk.say("add " + line), "ok")
            self.assertEqual(desk.say("text"), shown(book))
            self.check_whole(desk, book, 9999, 0)


if __name__ == "__main__":
    unittest.main()
