import copy
import unittest

from samples import GOOD, KINDS, LONG, done, leave, like, odd_things, paper, root
from sealchain.errors import NoRegister, NoText
from sealchain.registers import register_of
from sealchain.texts import read, shown

# How each row of GOOD is written.
WRITTEN = {
    "root": "7 root king ac 2 open",
    "named": "7 named 5 king ann",
    "chosen": "7 chosen 5 ann king bob 6",
    "heir": "7 heir 5 ann king bob",
    "death": "7 death 5 ann",
    "lost": "7 lost 5 ann",
    "found": "7 found 5 ann",
    "leave": "7 leave 5 ann bob ac 3 9 2",
    "paper": "7 paper 5 ann ac 3 - bob let him pass",
    "like": "7 like 5 ann ac 3 9 - 4 0 do 2 stay",
    "copy": "7 copy 5 ann 4",
    "call": "7 call 5 ann 4",
}

# The kinds of the words behind HEARD and the deed's word: some parts of a row are written as several words.
SPREAD = {"stretch": ["start", "stop"], "pieces": ["piece"] * 3, "changes": ["place", "piece"] * 2}
WORDS = {word: [each for kind in kinds for each in SPREAD.get(kind, [kind])] for word, kinds in KINDS.items()}

NO_NAMES = ["A", "Ann", "ninenines", "a1", "1", "-", "a-b", "a.", "~", "!"]
NO_NUMBERS = ["-1", "+1", "-0", "+0", "00", "01", "05", "007", "0000", "1_0", "0x1", "1.0", "1e1", "x", "-", "10000",
              "99999", "9" * 20]
NOT_SO = {
    "heard": NO_NUMBERS,
    "day": NO_NUMBERS + ["8"],
    "since": NO_NUMBERS + ["4"],
    "start": NO_NUMBERS,
    "stop": [word for word in NO_NUMBERS if word != "-"] + ["3", "2", "0", "--"],
    "further": NO_NUMBERS + ["10", "11"],
    "number": NO_NUMBERS + ["60", "99", "100"],
    "place": NO_NUMBERS + ["8", "9", "10"],
    "matters": ["i", "ai", "ca", "aa", "aac", "acc", "aca", "A", "C", "abcdefghi", "hgfedcba", "0", "1", "5", "-", "a,c",
                "a-c", "abcdefgha"],
    "rule": ["Open", "opens", "ope", "middle", "-", "firstlast", "1"],
    "name": NO_NAMES,
    "whom": [word for word in NO_NAMES if word != "-"] + ["--"],
    "piece": NO_NAMES,
}


class TestWrittenAndRead(unittest.TestCase):
    def check(self, rows, text):
        book = register_of(rows)
        self.assertEqual(shown(book), text)
        self.assertIsInstance(shown(book), str)
        self.assertEqual(read(text), book)
        self.assertIsInstance(read(text), tuple)

    def test_each_kind_of_row(self):
        self.assertEqual(list(WRITTEN), list(GOOD))
        for word, row in GOOD.items():
            self.check([row], WRITTEN[word])

    def test_all_kinds_in_one_register(self):
        self.check(list(GOOD.values()), "\n".join(WRITTEN.values()))

    def test_no_rows(self):
        self.check([], "")

    def test_the_rows_in_their_places(self):
        self.check([done(9, "death", "ann"), done(3, "lost", "bob", heard=5), root("king")],
                   "9 death 9 ann\n5 lost 3 bob\n0 root king abc 3 open")

    def test_stop(self):
        self.check([leave(2, "ann", "bob", 1, (0, None), 0)], "2 leave 2 ann bob a 0 - 0")
        self.check([leave(2, "ann", "bob", 1, (0, 1), 9)], "2 leave 2 ann bob a 0 1 9")
        self.check([leave(2, "ann", "bob", 1, (9998, 9999), 9)], "2 leave 2 ann bob a 9998 9999 9")

    def test_whom(self):
        self.check([paper(2, "ann")], "2 paper 2 ann a 0 - - let")
        self.check([paper(2, "ann", whom="ann")], "2 paper 2 ann a 0 - ann let")
        self.check([like(2, "ann", 0, stretch=(1, 5), whom="bob")], "2 like 2 ann a 1 5 bob 0")
        self.check([like(2, "ann", 59)], "2 like 2 ann a 0 - - 59")

    def test_pieces(self):
        self.check([paper(2, "ann", pieces=("a",))], "2 paper 2 ann a 0 - - a")
        self.check([paper(2, "ann", pieces=tuple("abcdefgh"))], "2 paper 2 ann a 0 - - a b c d e f g h")
        self.check([paper(2, "ann", pieces=("paper", "eightlet"))], "2 paper 2 ann a 0 - - paper eightlet")

    def test_changes(self):
        self.check([like(2, "ann", 3, changes=((0, "a"),))], "2 like 2 ann a 0 - - 3 0 a")
        self.check([like(2, "ann", 3, changes=((7, "b"),))], "2 like 2 ann a 0 - - 3 7 b")
        changes = tuple((k, "abcdefgh"[k]) for k in range(8))
        self.check([like(2, "ann", 3, changes=changes)], "2 like 2 ann a 0 - - 3 0 a 1 b 2 c 3 d 4 e 5 f 6 g 7 h")

    def test_every_matters(self):
        for matters in range(1, 256):
            letters = "".join("abcdefgh"[k] for k in range(8) if matters >> k & 1)
            self.check([root("king", matters)], f"0 root king {letters} 3 open")

    def test_every_rule_and_further(self):
        for rule in ("open", "first", "last"):
            for further in range(10):
                self.check([root("king", 1, further, rule)], f"0 root king a {further} {rule}")

    def test_numbers_at_their_bounds(self):
        for number in (0, 1, 9, 10, 59):
            self.check([done(2, "call", "ann", number)], f"2 call 2 ann {number}")
        for day in (0, 9, 10, 100, 999, 1000, 9999):
            self.check([done(day, "death", "ann")], f"{day} death {day} ann")
            self.check([done(0, "death", "ann", heard=day)], f"{day} death 0 ann")

    def test_names_like_words_of_the_rows(self):
        self.check([root("root", rule="first"), done(2, "chosen", "named", "leave", "paper", 3)],
                   "0 root root abc 3 first\n2 chosen 2 named leave paper 3")
        self.check([done(1, "death", "eightlet"), done(1, "death", "a")], "1 death 1 eightlet\n1 death 1 a")

    def test_sixty_rows_and_twenty_people(self):
        rows = [done(number, "death", "abcdefghijklmnopqrst"[number % 20]) for number in range(60)]
        self.check(rows, "\n".join(f"{number} death {number} {row[1][2]}" for number, row in enumerate(rows)))


class TestNoText(unittest.TestCase):
    def check(self, text, at):
        with self.assertRaises(NoText) as caught:
            read(text)
        self.assertEqual(caught.exception.at, at, text)

    def check_line(self, line):
        """That the line writes no row, wherever it stands."""
        self.assertNotIn("\n", line)
        good = "7 death 5 ann"
        if line != "":
            self.check(line, 0)
        self.check(line + "\n" + good, 0)
        self.check(good + "\n" + line, 1)
        self.check(good + "\n" + line + "\n" + good, 1)

    def test_what_is_no_text(self):
        for thing in odd_things():
            if not isinstance(thing, str):
                self.check(thing, None)
        self.check(list(WRITTEN.values()), None)
        self.check(tuple(GOOD.values()), None)
        self.check(b"7 death 5 ann", None)

    def test_words_too_few(self):
        for word, line in WRITTEN.items():
            words = line.split(" ")
            for count in range(1, len(words)):
                # A paper may have fewer pieces, a like fewer changes.
                if not (word == "paper" and count > 8 or word == "like" and count in (9, 11)):
                    self.check_line(" ".join(words[:count]))

    def test_a_word_left_out(self):
        for word, line in WRITTEN.items():
            words = line.split(" ")
            for place in range(len(words)):
                # Without its whom a paper is one for its first piece.
                if not (word == "paper" and place > 6):
                    self.check_line(" ".join(words[:place] + words[place + 1:]))

    def test_words_too_many(self):
        for word, line in WRITTEN.items():
            for more in ("x", "1", "-", "a 1", "3 x y"):
                if word != "paper" or more != "x":
                    self.check_line(line + " " + more)
        self.check_line("2 paper 2 ann a 0 - - a b c d e f g h i")
        self.check_line("2 like 2 ann a 0 - - 3 0 a 1 b 2 c 3 d 4 e 5 f 6 g 7 h 8 i")

    def test_two_blanks(self):
        for line in WRITTEN.values():
            words = line.split(" ")
            for place in range(1, len(words)):
                self.check_line(" ".join(words[:place]) + "  " + " ".join(words[place:]))

    def test_a_blank_at_an_end(self):
        for line in WRITTEN.values():
            self.check_line(" " + line)
            self.check_line(line + " ")
            self.check_line(line + "  ")

    def test_an_empty_line(self):
        self.check_line("")
        self.check_line(" ")
        self.check_line("  ")
        self.check("\n", 0)
        self.check("\n\n", 0)

    def test_a_line_end_behind_the_last_line(self):
        self.check(WRITTEN["death"] + "\n", 1)
        self.check("\n".join(WRITTEN.values()) + "\n", 12)
        self.check("\n" + WRITTEN["death"], 0)

    def test_each_word_written_not_so(self):
        for word, line in WRITTEN.items():
            words = line.split(" ")
            for place, kind in enumerate(["heard", "deed"] + WORDS[word]):
                for wrong in NOT_SO.get(kind, []):
                    self.check_line(" ".join(words[:place] + [wrong] + words[place + 1:]))

    def test_done_later_than_heard(self):
        for word, line in WRITTEN.items():
            if word != "root":
                self.check_line("4" + line[1:])

    def test_another_deed(self):
        for line in WRITTEN.values():
            words = line.split(" ")
            for wrong in ("", "Root", "roots", "seal", "1", "-", "heard"):
                self.check_line(" ".join([words[0], wrong] + words[2:]))
            self.check_line(" ".join(words[1:]))
            self.check_line(" ".join(["death"] + words[1:]))

    def test_places_not_rising(self):
        for changes in ("2 a 1 b", "1 a 1 b", "0 a 0 a", "0 a 2 b 1 c", "7 a 0 b"):
            self.check_line("7 like 5 ann a 0 - - 4 " + changes)

    def test_changes_that_are_none(self):
        for changes in ("0", "0 a 1", "a 0", "0 1", "a b", "0 a b", "0 a 1 2"):
            self.check_line("7 like 5 ann a 0 - - 4 " + changes)

    def test_a_stop_that_is_not_later(self):
        for days in ("5 5", "5 4", "9999 9999", "1 0", "- 5", "- -", "5 --"):
            self.check_line(f"7 leave 5 ann bob a {days} 1")
            self.check_line(f"7 paper 5 ann a {days} - let")
            self.check_line(f"7 like 5 ann a {days} - 4")

    def test_a_number_of_very_many_figures(self):
        for figures in (5, 100, 901, 4301, 8000):
            self.check_line("1" * figures + " death 5 ann")
            self.check_line(f"7 death {'1' * figures} ann")
            self.check_line("7 copy 5 ann " + "0" * figures)

    def test_tuples_as_python_writes_them(self):
        for row in GOOD.values():
            self.check_line(str(row))
            self.check_line(repr(row[1]))

    def test_the_first_such_line(self):
        lines = list(WRITTEN.values())
        for place in range(len(lines)):
            wrong = lines[:place] + ["x"] + lines[place + 1:]
            self.check("\n".join(wrong), place)
            self.check("\n".join(wrong + ["", "y"]), place)


class TestNoRegister(unittest.TestCase):
    def check(self, lines, at):
        with self.assertRaises(NoRegister) as caught:
            read("\n".join(lines))
        self.assertEqual(caught.exception.at, at)

    def test_a_second_root(self):
        self.check(["0 root king a 1 open", "0 death 0 ann", "5 root king b 2 last"], 2)

    def test_more_than_sixty_rows(self):
        self.check(["0 death 0 ann"] * 61, 60)
        self.check(["0 death 0 ann"] * 70, 60)

    def test_more_than_twenty_people(self):
        lines = [f"0 lost 0 {name}" for name in "abcdefghijklmnopqrstuv"]
        self.check(lines, 20)
        self.check(lines[:19] + ["0 leave 0 y z a 0 - 0"], 19)

    def test_a_line_that_writes_no_row_comes_first(self):
        lines = ["0 root king a 1 open", "5 root king b 2 last"]
        self.check(lines, 1)
        for wrong in (["x"], [""], ["5 root king b 2 lost"]):
            with self.assertRaises(NoText) as caught:
                read("\n".join(lines + wrong))
            self.assertEqual(caught.exception.at, 2)
        with self.assertRaises(NoText) as caught:
            read("\n".join(["0 death 0 ann"] * 65 + ["x"]))
        self.assertEqual(caught.exception.at, 65)


class TestTheAskersOwn(unittest.TestCase):
    def test_the_register_is_as_it_was(self):
        book = register_of(LONG)
        before = copy.deepcopy(book)
        self.assertEqual(read(shown(book)), before)
        self.assertEqual(book, before)


if __name__ == "__main__":
    unittest.main()
