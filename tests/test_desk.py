import unittest

from samples import LONG, call, done, odd_things, root
from sealchain.desk import Desk
from sealchain.errors import NoNumber, NoRegister, NoText, NoWord
from sealchain.registers import register_of
from sealchain.texts import shown

# Rows of every kind, among them some heard later than they were done.
LINES = [
    "0 root king abc 3 open",
    "0 named 0 king ann",
    "2 leave 2 ann bob ab 0 20 2",
    "3 leave 3 bob eve a 3 10 1",
    "4 paper 4 eve a 4 8 - let him pass",
    "6 copy 6 dan 4",
    "7 copy 7 eve 5",
    "5 like 5 ann a 5 - dan 4 2 stay",
    "9 call 8 eve 4",
    "6 lost 6 zoe",
    "7 paper 7 zoe a 0 - - no",
    "12 named 9 king zoe",
]
TEXT = "\n".join(LINES)
LAST_NUMBER = len(LINES) - 1
NUMBER_ROWS = ["stands", "faults", "leaning", "words", "history"]


def everything(desk):
    """What a desk answers to all that may be asked of its rows without changing it."""
    asked = ["text", "standing", "holder king", "holder duke"]
    for number in range(LAST_NUMBER + 4):
        asked += [f"{word} {number}" for word in NUMBER_ROWS] + [f"holds {number} dan"]
    return [answer_of(desk, row) for row in asked]


def answer_of(desk, row):
    try:
        return desk.say(row)
    except NoNumber:
        return NoNumber


def glimpse(desk):
    """A little of everything: the text, and what hangs on both days."""
    return [desk.say(row) for row in ("text", "standing", "holder king")]


class DeskCase(unittest.TestCase):
    def check(self, desk, row, answer):
        self.assertEqual(desk.say(row), answer, row)

    def check_all(self, text, *rows):
        """Says rows to one new desk, and that each is answered as told."""
        desk = Desk(text)
        for row, answer in rows:
            self.check(desk, row, answer)
        return desk

    def check_refused(self, desk, row, error, at=None):
        before = glimpse(desk)
        with self.assertRaises(error) as caught:
            desk.say(row)
        self.assertIs(type(caught.exception), error, row)
        if error in (NoText, NoRegister):
            self.assertEqual(caught.exception.at, at, row)
        self.assertEqual(glimpse(desk), before, row)


class TestMade(unittest.TestCase):
    def check(self, text, error, at):
        with self.assertRaises(error) as caught:
            Desk(text)
        self.assertEqual(caught.exception.at, at)

    def test_refused_as_read_does(self):
        for thing in odd_things():
            if not isinstance(thing, str):
                self.check(thing, NoText, None)
        self.check("x", NoText, 0)
        self.check(TEXT + "\n", NoText, len(LINES))
        self.check(TEXT + "\nx", NoText, len(LINES))
        self.check(TEXT + "\n0 root king a 1 last", NoRegister, len(LINES))
        self.check("\n".join(["0 death 0 ann"] * 61), NoRegister, 60)

    def test_without_rows(self):
        desk = Desk("")
        for row, answer in [("text", ""), ("standing", "none"), ("holder king", "none")]:
            self.assertEqual(desk.say(row), answer)
        for word in NUMBER_ROWS:
            with self.assertRaises(NoNumber):
                desk.say(word + " 0")


class TestDays(DeskCase):
    def test_at_first(self):
        desk = Desk("9999 root king a 0 open\n9999 named 0 king ann\n9999 named 1 king bob")
        self.check(desk, "holder king", "one ann")
        desk = Desk("0 root king a 0 open\n0 named 0 king ann\n0 paper 0 ann a 0 1 - x\n0 paper 0 ann a 1 2 - x")
        self.check(desk, "holds 2 ann", "yes")
        self.check(desk, "holds 3 ann", "no")

    def test_on(self):
        desk = Desk(TEXT)
        for day, answer in [(0, "none"), (1, "none"), (2, "2"), (3, "2 3"), (4, "2 3 4"), (5, "2 3 4 7"),
                            (6, "2 3 4 5 7"), (7, "2 3 4 5 6 7"), (8, "2 3 7"), (9999, "2 3 7")]:
            self.check(desk, f"on {day}", "ok")
            self.check(desk, "standing", answer)
        self.check(desk, "on 3", "ok")
        self.check(desk, "standing", "2 3")

    def test_known(self):
        desk = self.check_all(TEXT, ("on 9", "ok"))
        for known, answer in [(0, "none"), (2, "2"), (3, "2 3"), (5, "2 3 4 7"), (7, "2 3 4 5 6 7"),
                              (8, "2 3 4 5 6 7"), (9, "2 3 7"), (9999, "2 3 7")]:
            self.check(desk, f"known {known}", "ok")
            self.check(desk, "standing", answer)
        self.check(desk, "known 3", "ok")
        self.check(desk, "standing", "2 3")

    def test_one_does_not_change_the_other(self):
        desk = self.check_all(TEXT, ("known 8", "ok"), ("on 8", "ok"), ("standing", "2 3 4 5 6 7"))
        self.check(desk, "on 4", "ok")
        self.check(desk, "standing", "2 3 4")
        self.check(desk, "known 3", "ok")
        self.check(desk, "on 8", "ok")
        self.check(desk, "standing", "2 3")

    def test_two_desks_are_two(self):
        one, other = Desk(TEXT), Desk(TEXT)
        before = everything(other)
        for row in ("known 5", "on 5", "add 9 death 9 eve"):
            self.check(one, row, "ok")
        self.assertEqual(everything(other), before)
        self.assertNotEqual(everything(one), before)


class TestAnswers(DeskCase):
    def test_text(self):
        self.check_all(TEXT, ("text", TEXT), ("known 0", "ok"), ("on 5", "ok"), ("text", TEXT))
        self.assertEqual(Desk(shown(register_of(LONG))).say("text"), shown(register_of(LONG)))

    def test_holder(self):
        self.check_all(TEXT, ("holder king", "one ann"), ("on 8", "ok"), ("holder king", "one ann"), ("on 9", "ok"),
                       ("holder king", "parted ann zoe"), ("known 11", "ok"), ("holder king", "one ann"),
                       ("holder duke", "none"), ("holder ann", "none"))
        self.check_all("5 root king a 0 open\n5 named 3 king ann", ("holder king", "none"), ("on 3", "ok"),
                       ("holder king", "one ann"), ("known 4", "ok"), ("holder king", "none"))
        many = "0 root king a 0 open\n0 named 0 king eve\n0 named 0 king ann\n0 named 0 king dan"
        self.check_all(many, ("holder king", "parted ann dan eve"))

    def test_stands(self):
        self.check_all(TEXT, ("stands 2", "no"), ("on 7", "ok"), ("stands 2", "yes 1 2"), ("stands 3", "yes 1 2 3"),
                       ("stands 4", "yes 1 2 3 4"), ("stands 6", "yes 1 2 3 4 5 6"), ("stands 7", "yes 1 7"),
                       ("stands 0", "no"), ("stands 1", "no"), ("stands 10", "no"), ("on 8", "ok"), ("stands 6", "no"),
                       ("known 8", "ok"), ("stands 6", "yes 1 2 3 4 5 6"), ("known 6", "ok"), ("stands 6", "no"))

    def test_holds(self):
        self.check_all(TEXT, ("holds 4 ann", "no"), ("on 4", "ok"), ("holds 4 ann", "yes"), ("holds 4 stranger", "yes"),
                       ("on 7", "ok"), ("holds 6 ann", "yes"), ("holds 7 dan", "yes"), ("holds 7 ann", "no"),
                       ("on 8", "ok"), ("holds 4 ann", "no"), ("known 8", "ok"), ("holds 4 ann", "no"),
                       ("on 7", "ok"), ("known 3", "ok"), ("holds 4 ann", "no"), ("holds 0 ann", "no"),
                       ("holds 2 bob", "no"))

    def test_faults(self):
        self.check_all(TEXT, ("faults 4", "early"), ("on 7", "ok"), ("faults 4", "stands"), ("faults 10", "seal"),
                       ("on 8", "ok"), ("faults 4", "called 8"), ("faults 5", "copy 4 falls"),
                       ("faults 6", "copy 5 falls"), ("faults 2", "stands"), ("known 8", "ok"), ("faults 4", "stands"))
        rows = [root("king", 1), root("duke"), done(0, "named", "king", "ann"), done(3, "named", "duke", "ann"),
                done(0, "leave", "ann", "ann", 1, (0, 1), 0), done(2, "paper", "ann", 4, (0, None), None, ("no",)),
                done(3, "paper", "bob", 4, (0, None), None, ("no",)), done(3, "copy", "bob", 9)]
        self.check_all(shown(register_of(rows)), ("on 5", "ok"), ("faults 7", "copy 9 none"), ("faults 6", "none"),
                       ("faults 5", "office duke holder; office king matters; leave 4 days"))

    def test_faults_as_the_interface_shows_them(self):
        rows = ["0 root king a 1 open", "0 root duke a 1 open", "0 named 0 duke ann", "3 named 3 king bob",
                "0 leave 0 ann bob a 5 6 0", "2 paper 2 bob a 0 1 - x"]
        self.check_all("\n".join(rows), ("on 2", "ok"), ("faults 5", "office king holder; leave 4 days"))

    def test_faults_of_other_rows(self):
        desk = self.check_all(TEXT, ("on 9", "ok"))
        for number in (0, 1, 8, 9, 11, 12, 59):
            self.check_refused(desk, f"faults {number}", NoNumber)
        self.check(desk, "known 4", "ok")
        for number in (5, 6, 7, 10):
            self.check_refused(desk, f"faults {number}", NoNumber)
        self.check(desk, "faults 4", "stands")

    def test_faults_of_each_kind_of_row(self):
        for row, kept in [("0 root king a 0 open", False), ("2 named 1 king ann", False),
                          ("2 chosen 1 ann king bob 1", False), ("2 heir 1 ann king bob", False),
                          ("2 death 1 ann", False), ("2 lost 1 ann", False), ("2 found 1 ann", False),
                          ("2 leave 1 ann bob a 0 - 0", True), ("2 paper 1 ann a 0 - - x", True),
                          ("2 like 1 ann a 0 - - 7", True), ("2 copy 1 ann 7", True), ("2 call 1 ann 7", False)]:
            desk = Desk(row)
            if kept:
                self.check(desk, "faults 0", "early")
            else:
                self.check_refused(desk, "faults 0", NoNumber)
            self.check(desk, "known 1", "ok")
            self.check_refused(desk, "faults 0", NoNumber)

    def test_standing(self):
        self.check_all(TEXT, ("standing", "none"), ("on 2", "ok"), ("standing", "2"), ("on 7", "ok"),
                       ("standing", "2 3 4 5 6 7"))

    def test_leaning(self):
        self.check_all(TEXT, ("leaning 2", "none"), ("on 7", "ok"), ("leaning 2", "2 3 4 5 6"), ("leaning 6", "6"),
                       ("leaning 5", "5 6"), ("leaning 7", "7"), ("leaning 0", "none"), ("leaning 10", "none"),
                       ("known 6", "ok"), ("leaning 5", "5"), ("leaning 6", "none"))

    def test_words(self):
        self.check_all(TEXT, ("words 4", "words let him pass"), ("words 6", "words let him pass"),
                       ("words 7", "words let him stay"), ("words 10", "words no"), ("words 2", "lacks 2"),
                       ("known 4", "ok"), ("words 7", "lacks 7"), ("words 4", "words let him pass"))
        rows = ["1 like 1 ann a 0 - - 1", "1 copy 1 ann 2", "1 like 1 ann a 0 - - 0", "1 copy 1 ann 3",
                "1 copy 1 ann 40", "1 paper 1 ann a 0 - - x", "1 like 1 ann a 0 - - 5 2 y", "1 copy 1 ann 6",
                "1 copy 1 ann 0"]
        self.check_all("\n".join(rows), ("words 0", "ring 0 1 2"), ("words 3", "ring 3"), ("words 4", "lacks 40"),
                       ("words 6", "beyond 6"), ("words 7", "beyond 6"), ("words 8", "ring 0 1 2"))

    def test_history(self):
        self.check_all(TEXT, ("history 4", "none"), ("on 7", "ok"), ("history 4", "4 yes"), ("history 6", "6 yes"),
                       ("history 2", "none"), ("history 0", "none"))
        rows = ["0 root king a 0 open", "0 named 0 king ann", "1 paper 1 ann a 0 - - x", "4 lost 1 ann",
                "9 found 1 ann", "9 call 5 ann 2", "12 death 0 ann"]
        self.check_all("\n".join(rows), ("history 2", "none"), ("on 4", "ok"),
                       ("history 2", "2 yes; 3 no; 4 yes; 6 no"), ("on 5", "ok"),
                       ("history 2", "2 yes; 3 no; 4 yes; 5 no"))

    def test_history_is_of_all_that_was_heard(self):
        rows = ["0 root king a 0 open", "0 named 0 king ann", "1 paper 1 ann a 0 - - x", "9 lost 1 ann"]
        self.check_all("\n".join(rows), ("on 4", "ok"), ("known 5", "ok"), ("history 2", "2 yes; 3 no"),
                       ("known 0", "ok"), ("history 2", "2 yes; 3 no"))

    def test_rows_that_are_not_known(self):
        self.check_all(TEXT, ("known 6", "ok"), ("on 7", "ok"), ("stands 6", "no"), ("holds 6 ann", "no"),
                       ("leaning 6", "none"), ("words 6", "lacks 6"), ("history 6", "6 yes"),
                       ("standing", "2 3 4 5 7"))

    def test_names_like_the_first_words(self):
        desk = self.check_all(TEXT, ("on 4", "ok"))
        for name in ("text", "standing", "known", "on", "add", "holder", "words"):
            self.check(desk, "holder " + name, "none")
            self.check(desk, "holds 4 " + name, "yes")
        self.check(desk, "standing", "2 3 4")

    def test_asked_twice(self):
        desk = self.check_all(TEXT, ("on 7", "ok"))
        self.assertEqual(everything(desk), everything(desk))


class TestAdd(DeskCase):
    def test_a_row_stands_behind_all_others(self):
        desk = self.check_all(TEXT, ("on 8", "ok"), ("add 9 paper 8 ann a 0 - - so it is", "ok"))
        self.check(desk, "text", TEXT + "\n9 paper 8 ann a 0 - - so it is")
        self.check(desk, "words 12", "words so it is")
        self.check(desk, "stands 12", "yes 1 12")
        self.check(desk, "known 8", "ok")
        self.check(desk, "stands 12", "no")
        self.check(desk, "add 0 death 0 ann", "ok")
        self.check(desk, "text", TEXT + "\n9 paper 8 ann a 0 - - so it is\n0 death 0 ann")
        self.check(desk, "standing", "none")

    def test_to_a_register_without_rows(self):
        desk = self.check_all("", ("add 0 root king a 0 open", "ok"), ("text", "0 root king a 0 open"))
        self.check(desk, "add 0 named 0 king ann", "ok")
        self.check(desk, "holder king", "one ann")

    def test_the_days_stay(self):
        desk = self.check_all(TEXT, ("known 8", "ok"), ("on 8", "ok"), ("add 30 root duke a 1 last", "ok"))
        self.check(desk, "standing", "2 3 4 5 6 7")

    def test_what_writes_no_row(self):
        desk = self.check_all(TEXT, ("known 8", "ok"), ("on 7", "ok"))
        good = "9 death 9 ann"
        for row in ("", " ", "  ", " " + good, good + " ", good.replace(" ", "  "), "  " + good, "x", "add " + good,
                    "death 9 ann", "8 death 9 ann", "09 death 9 ann", "9 death 9 Ann", "9 death 9", good + " eve",
                    good + "\n", "\n" + good, good + "\n" + good, "\n", "9 death\n9 ann", "9\ndeath 9 ann",
                    "9 paper 9 ann a 0 - - let\nhim", "9 paper 9 ann a 0 - - let \nhim", "text", "known 5",
                    "9 root king a 1 shut", "9 root king ba 1 open", "9 copy 9 ann 60"):
            self.check_refused(desk, "add " + row, NoText, len(LINES))

    def test_the_number_that_it_would_have(self):
        desk = Desk("")
        for number in range(4):
            self.check_refused(desk, "add x", NoText, number)
            self.check(desk, "add 9 death 9 ann", "ok")

    def test_a_second_root(self):
        desk = self.check_all(TEXT, ("known 8", "ok"), ("on 7", "ok"))
        self.check_refused(desk, "add 5 root king a 1 last", NoRegister, len(LINES))
        self.check(desk, "add 5 root duke a 1 last", "ok")
        self.check_refused(desk, "add 5 root duke a 1 last", NoRegister, len(LINES) + 1)

    def test_a_sixty_first_row(self):
        desk = Desk("\n".join(["0 death 0 ann"] * 59))
        self.check(desk, "add 1 death 1 bob", "ok")
        self.check(desk, "words 59", "lacks 59")
        self.check_refused(desk, "add 1 death 1 bob", NoRegister, 60)
        self.check_refused(desk, "add x", NoText, 60)
        self.check_refused(desk, "add 1 root king a 1 last", NoRegister, 60)

    def test_a_twenty_first_person(self):
        desk = Desk("\n".join(f"0 lost 0 {name}" for name in "abcdefghijklmnopqrs"))
        self.check_refused(desk, "add 0 leave 0 y z a 0 - 0", NoRegister, 19)
        self.check(desk, "add 0 lost 0 z", "ok")
        self.check_refused(desk, "add 0 lost 0 y", NoRegister, 20)
        self.check(desk, "add 0 lost 0 z", "ok")
        self.check(desk, "add 0 root y a 0 open", "ok")

    def test_without_a_blank(self):
        desk = self.check_all(TEXT, ("known 8", "ok"), ("on 7", "ok"))
        for row in ("add", "add\n", "add9 death 9 ann", "add\n9 death 9 ann", "add\t9 death 9 ann"):
            self.check_refused(desk, row, NoWord)


class TestRefused(DeskCase):
    def setUp(self):
        self.desk = self.check_all(TEXT, ("known 8", "ok"), ("on 7", "ok"))

    def refused(self, row, error=NoWord):
        self.check_refused(self.desk, row, error)

    def test_what_is_no_text(self):
        for thing in odd_things():
            if not isinstance(thing, str):
                self.refused(thing)
        self.refused(["text"])
        self.refused(("known", 5))
        self.refused(b"text")
        self.refused(("add ", ))

    def test_another_first_word(self):
        for row in ("", " ", "\n", "x", "Text", "TEXT", "texts", "tex", "say 5", "judged 5", "known5", "chain 5",
                    "moments", "5", "5 known", "ok", "Add 9 death 9 ann", "adds 9 death 9 ann", "standing\n", "text\n",
                    "9 death 9 ann", "at 5"):
            self.refused(row)

    def test_too_few_words(self):
        for row in ("known", "on", "holder", "stands", "holds", "holds 4", "holds ann", "faults", "leaning", "words",
                    "history"):
            self.refused(row)

    def test_too_many_words(self):
        for row in ("known 5 5", "on 5 5", "text 5", "holder king king", "stands 4 4", "stands 4 ann", "holds 4 ann bob",
                    "holds 4 4 ann", "faults 4 4", "standing 5", "leaning 4 4", "words 4 4", "history 4 7"):
            self.refused(row)

    def test_days(self):
        wrong = ["-1", "+1", "00", "01", "007", "-0", "10000", "99999", "9" * 5000, "x", "-", "1.0", "1_0", "5\n", "\n5",
                 "0x1", "none", "\t5"]
        for word in ("known", "on"):
            for day in wrong:
                self.refused(f"{word} {day}")
            for day in ("0", "1", "10", "100", "1000", "9999"):
                self.check(Desk(TEXT), f"{word} {day}", "ok")

    def test_numbers(self):
        wrong = ["-1", "+1", "00", "04", "-0", "60", "61", "99", "100", "1000", "9999", "10000", "9" * 5000, "x", "-",
                 "4.0", "4\n", "\n4", "four", "0x1"]
        for number in wrong:
            for word in NUMBER_ROWS:
                self.refused(f"{word} {number}")
            self.refused(f"holds {number} ann")

    def test_names(self):
        for name in ("A", "Ann", "ninenines", "a1", "1", "-", "ann\n", "\nann", "a.b", "~"):
            self.refused("holder " + name)
            self.refused("holds 4 " + name)
        self.check(self.desk, "holder eightlet", "none")
        self.check(self.desk, "holds 4 eightlet", "yes")

    def test_words_without_signs(self):
        for row in ("known 5", "on 5", "text", "holder king", "stands 4", "holds 4 ann", "faults 4", "standing",
                    "leaning 4", "words 4", "history 4"):
            self.refused(" " + row)
            self.refused(row + " ")
            self.refused(row + "  ")
            if " " in row:
                self.refused(row.replace(" ", "  "))
                self.refused(row.replace(" ", "  ", 1))
                self.refused(row.replace(" ", "\n"))
        for row in ("known ", "on ", "holder ", "stands ", "holds  ", "holds 4 ", "holds  ann", "words "):
            self.refused(row)

    def test_a_number_that_no_row_has(self):
        for number in (LAST_NUMBER + 1, LAST_NUMBER + 2, 58, 59):
            for word in NUMBER_ROWS:
                self.refused(f"{word} {number}", NoNumber)
            self.refused(f"holds {number} ann", NoNumber)
        for word in NUMBER_ROWS[2:]:
            self.assertIsInstance(self.desk.say(f"{word} {LAST_NUMBER}"), str)
        self.check(self.desk, f"stands {LAST_NUMBER}", "no")
        self.check(self.desk, f"holds {LAST_NUMBER} ann", "no")

    def test_no_word_comes_ahead_of_no_number(self):
        for row in ("holds 59 Ann", "holds 59", "holds 59 ann bob", "stands 59 ", "stands 60", "faults 0 0", "words 59 1"):
            self.refused(row)

    def test_a_number_has_a_row_behind_add(self):
        self.refused(f"words {LAST_NUMBER + 1}", NoNumber)
        self.check(self.desk, "add 5 paper 5 ann a 0 - - so", "ok")
        self.check(self.desk, f"words {LAST_NUMBER + 1}", "words so")
        self.refused(f"words {LAST_NUMBER + 2}", NoNumber)


class TestBehindEachRefusal(DeskCase):
    def test_everything_is_answered_as_ahead_of_it(self):
        for known, on in ((9999, 0), (8, 8), (9, 7)):
            desk = self.check_all(TEXT, (f"known {known}", "ok"), (f"on {on}", "ok"))
            before = everything(desk)
            for row, error in [
                (None, NoWord), ("", NoWord), ("x", NoWord), ("known", NoWord), ("known 5 5", NoWord),
                ("known 10000", NoWord), ("known 05", NoWord), ("on -1", NoWord), ("on  5", NoWord), ("on 5 ", NoWord),
                ("words 60", NoWord), ("holder Ann", NoWord), ("holds 4 -", NoWord), ("add", NoWord),
                ("words 59", NoNumber), ("stands 12", NoNumber), ("faults 0", NoNumber), ("add ", NoText),
                ("add 9 death 9 ann\n", NoText), ("add 9 root king a 0 open", NoRegister),
            ]:
                self.check_refused(desk, row, error, len(LINES))
                self.assertEqual(everything(desk), before, row)


class TestBesideTheFunctions(DeskCase):
    def test_a_call_said_later(self):
        desk = Desk(shown(register_of(LONG)))
        self.check(desk, "on 7", "ok")
        self.check(desk, "stands 6", "yes 1 2 3 4 5 6")
        self.check(desk, "add " + shown(register_of([call(7, "bob", 3)])), "ok")
        self.check(desk, "stands 6", "no")
        self.check(desk, "faults 6", "copy 5 falls")
        self.check(desk, "faults 4", "leave 3 falls")
        self.check(desk, "faults 3", "called 7")
        self.check(desk, "standing", "2")
        self.check(desk, "history 6", "6 yes; 7 no")
        self.check(desk, "known 6", "ok")
        self.check(desk, "on 6", "ok")
        self.check(desk, "stands 5", "yes 1 2 3 4 5")


if __name__ == "__main__":
    unittest.main()
