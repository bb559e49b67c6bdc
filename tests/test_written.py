"""Tests of stayswithin/written.py (points 8.1 to 8.3)."""

import copy
import random
import unittest
from math import gcd

from stayswithin import written
from stayswithin.errors import BadLine, BadMachine, BadRow, BoundError
from stayswithin.machine import Machine
from stayswithin.written import format_machine, format_points, parse_machine, parse_points
from tests.papers import point

FULL = Machine(((1, -2), (0, 20)), ((3,), (-20,)), ((1, 0), (0, -1)), 7, ((-1, 2),), ((0, 0), (-20, 20)))
FULL_ROWS = [((1, 0), 5), ((-20, 20), -1000), ((0, 0), 0)]
FULL_LINES = ["a 1 -2", "a 0 20", "b 3", "b -20", "e 1 0", "e 0 -1", "divisor 7", "input -1 2", "disturbance 0 0",
              "disturbance -20 20", "row 1 0 5", "row -20 20 -1000", "row 0 0 0"]
BARE = Machine(((3,),), ((),), ((),), 2, (), ())
BARE_LINES = ["a 3", "b", "e", "divisor 2", "row 1 2"]
WORDS = ("a", "b", "e", "divisor", "input", "disturbance", "row")
PARTS = ("matrix_a", "matrix_b", "matrix_e", "divisor", "input_limits", "disturbance_limits", "states", "inputs",
         "disturbances")
# Words that are no numbers, whatever the line is.
NO_NUMBERS = ("", "+1", "+0", "01", "00", "-01", "-0", "-", "--1", "1-", "1.0", "1e3", "1_0", "0x1", "1/2", "a", "row",
              "None", "True", "\t1", "1\t", "1\r", "\u0661", "\u00b2", "\uff11", "1,", "\u22121")


class Asks(unittest.TestCase):
    def error(self, kind, function, text):
        """The place of the error."""
        with self.assertRaises(kind) as caught:
            function(text)
        self.assertIsInstance(caught.exception, BoundError)
        self.assertEqual(caught.exception.word, kind.__name__)
        return caught.exception.place

    def bad_line(self, lines):
        return self.error(BadLine, parse_machine, "\n".join(lines))

    def check_read(self, lines, machine, rows):
        told = parse_machine("\n".join(lines))
        self.assertIs(type(told), tuple)
        self.assertIs(type(told[0]), Machine)
        self.assertEqual(parts_of(told[0]), parts_of(machine))
        self.assertIs(type(told[1]), list)
        self.assertEqual(told[1], rows)


def parts_of(machine):
    return [getattr(machine, name) for name in PARTS]


class Interface(unittest.TestCase):
    def test_each_function_is_defined_in_the_file(self):
        for name in ("format_machine", "parse_machine", "format_points", "parse_points"):
            self.assertEqual(getattr(written, name).__module__, "stayswithin.written")

    def test_arguments_by_name(self):
        self.assertEqual(format_machine(rows=[((1,), 2)], machine=BARE), "\n".join(BARE_LINES))
        self.assertEqual(parse_machine(text="\n".join(BARE_LINES))[1], [((1,), 2)])
        self.assertEqual(format_points(points=[point(1)]), "1")
        self.assertEqual(parse_points(text="1"), [point(1)])

    def test_the_examples(self):
        machine, rows = parse_machine("a 1 2\na 0 1\nb 1\nb 0\ne\ne\ndivisor 2\ninput -1 1\nrow 1 0 5")
        self.assertEqual(rows, [((1, 0), 5)])
        self.assertEqual(machine.step(((1, 1), (1, 1)), ((1, 2),), ()), ((7, 4), (1, 2)))
        self.assertEqual(parse_points("1/2 -3"), [((1, 2), (-3, 1))])


class FormatMachine(Asks):
    def test_with_inputs_and_disturbances(self):
        self.assertEqual(format_machine(FULL, FULL_ROWS), "\n".join(FULL_LINES))
        self.assertEqual(format_machine(FULL, tuple(FULL_ROWS)), "\n".join(FULL_LINES))

    def test_without_inputs_and_disturbances(self):
        self.assertEqual(format_machine(BARE, [((1,), 2)]), "a 3\nb\ne\ndivisor 2\nrow 1 2")
        bare = Machine(((0, 1, 2), (3, 4, 5), (6, 7, 8)), ((), (), ()), ((1,), (0,), (-1,)), 100, (), ((-1, 3),))
        self.assertEqual(format_machine(bare, [((0, 1, 0), -7)]),
                         "a 0 1 2\na 3 4 5\na 6 7 8\nb\nb\nb\ne 1\ne 0\ne -1\ndivisor 100\ndisturbance -1 3\nrow 0 1 0 -7")

    def test_no_rows(self):
        self.assertEqual(format_machine(BARE, []), "a 3\nb\ne\ndivisor 2")

    def test_numbers_beyond_the_limits(self):
        self.assertEqual(format_machine(BARE, [((1234567, -89), 10 ** 12)]).split("\n")[-1],
                         "row 1234567 -89 1000000000000")

    def test_read_again(self):
        rng = random.Random(121)
        for _ in range(100):
            n, m, p = rng.randint(1, 3), rng.randint(0, 2), rng.randint(0, 2)
            matrices = [tuple(tuple(rng.randint(-20, 20) for _ in range(width)) for _ in range(n))
                        for width in (n, m, p)]
            pairs = [tuple(tuple(sorted((rng.randint(-20, 20), rng.randint(-20, 20)))) for _ in range(width))
                     for width in (m, p)]
            machine = Machine(*matrices, rng.randint(1, 100), *pairs)
            rows = [(tuple(rng.randint(-20, 20) for _ in range(n)), rng.randint(-1000, 1000))
                    for _ in range(rng.randint(1, 16))]
            text = format_machine(machine, rows)
            self.check_read(text.split("\n"), machine, rows)
            self.assertEqual(format_machine(*parse_machine(text)), text)


class ParseMachine(Asks):
    def test_right_texts(self):
        self.check_read(FULL_LINES, FULL, FULL_ROWS)
        self.check_read(BARE_LINES, BARE, [((1,), 2)])

    def test_a_line_without_its_word(self):
        for at, line in enumerate(FULL_LINES):
            rest = line.split(" ")[1:]
            for word in ("", "A", "aa", "rows", "Row", "inputs", "c", "-", "1", "divisor:", "a\t", "\ta", "row\r"):
                with self.subTest(line, word=word):
                    lines = [*FULL_LINES[:at], " ".join([word, *rest]), *FULL_LINES[at + 1:]]
                    self.assertEqual(self.bad_line(lines), at)
            self.assertEqual(self.bad_line([*FULL_LINES[:at], " ".join(rest), *FULL_LINES[at + 1:]]), at)

    def test_an_empty_line(self):
        for at in range(len(FULL_LINES) + 1):
            self.assertEqual(self.bad_line([*FULL_LINES[:at], "", *FULL_LINES[at:]]), at)
            self.assertEqual(self.bad_line([*FULL_LINES[:at], " ", *FULL_LINES[at:]]), at)

    def test_spaces(self):
        for at, line in enumerate(FULL_LINES):
            word, rest = line.split(" ", 1)
            for odd in (f" {line}", f"{line} ", f"{word}  {rest}", line.replace(" ", "\t"), line.replace(" ", "\u00a0"),
                        f"{line}\r", f"{line}\t"):
                with self.subTest(odd):
                    self.assertEqual(self.bad_line([*FULL_LINES[:at], odd, *FULL_LINES[at + 1:]]), at)
        self.assertEqual(self.bad_line(["a 3", "b ", "e", "divisor 2", "row 1 2"]), 1)

    def test_words_that_are_no_numbers(self):
        for at, line in enumerate(FULL_LINES):
            words = line.split(" ")
            for place in range(1, len(words)):
                for odd in NO_NUMBERS:
                    with self.subTest(line, odd=odd):
                        bent = " ".join([*words[:place], odd, *words[place + 1:]])
                        self.assertEqual(self.bad_line([*FULL_LINES[:at], bent, *FULL_LINES[at + 1:]]), at)

    def test_6_and_7_digits(self):
        for at, line in enumerate(FULL_LINES):
            words = line.split(" ")
            for place in range(1, len(words)):
                for odd in ("1000000", "-1000000", "9999999", "9" * 5000, "-" + "9" * 100000, "0000000"):
                    bent = " ".join([*words[:place], odd, *words[place + 1:]])
                    self.assertEqual(self.bad_line([*FULL_LINES[:at], bent, *FULL_LINES[at + 1:]]), at)
        # With 6 digits the line has its form; the number is refused by the machine or by the rows.
        for odd in ("999999", "-999999"):
            self.assertEqual(self.error(BadMachine, parse_machine, "\n".join([f"a {odd}", *BARE_LINES[1:]])), "a")
            self.assertEqual(self.error(BadRow, parse_machine, "\n".join([*BARE_LINES[:-1], f"row 1 {odd}"])), 0)
        self.assertEqual(self.error(BadMachine, parse_machine, "a 3\nb\ne\ndivisor 100000\nrow 1 2"), "divisor")

    def test_too_many_or_too_few_numbers(self):
        for odd in ("divisor", "divisor 7 7", "divisor 7 7 7"):
            self.assertEqual(self.bad_line([*FULL_LINES[:6], odd, *FULL_LINES[7:]]), 6)
        for odd in ("input", "input 1", "input -1 1 2"):
            self.assertEqual(self.bad_line([*FULL_LINES[:7], odd, *FULL_LINES[8:]]), 7)
        for odd in ("disturbance", "disturbance 1", "disturbance -1 1 2"):
            self.assertEqual(self.bad_line([*FULL_LINES[:9], odd, *FULL_LINES[10:]]), 9)
        self.assertEqual(self.bad_line([*FULL_LINES[:12], "row"]), 12)

    def test_lines_that_may_have_any_number_of_numbers(self):
        # They have their form, and the machine or the rows are refused.
        for at, odd, place in ((0, "a", "a"), (1, "a 1 2 3", "a"), (1, "a", "a"), (2, "b", "b"), (3, "b 1 2", "b"),
                               (4, "e 1 2 3", "e"), (5, "e", "e")):
            lines = [*FULL_LINES[:at], odd, *FULL_LINES[at + 1:]]
            self.assertEqual(self.error(BadMachine, parse_machine, "\n".join(lines)), place)
        for odd in ("row 5", "row 1 5", "row 1 2 3 5"):
            lines = [*FULL_LINES[:11], odd, FULL_LINES[12]]
            self.assertEqual(self.error(BadRow, parse_machine, "\n".join(lines)), 1)

    def test_a_word_behind_a_later_one(self):
        for at, line in enumerate(FULL_LINES):
            rank = WORDS.index(line.split(" ")[0])
            for word in WORDS:
                numbers = {"a": " 1 2", "b": " 1", "e": " 1 0", "row": " 1 0 5", "divisor": " 7"}.get(word, " -1 1")
                lines = [*FULL_LINES[:at + 1], word + numbers, *FULL_LINES[at + 1:]]
                if WORDS.index(word) < rank or word == line.split(" ")[0] == "divisor":
                    self.assertEqual(self.bad_line(lines), at + 1)
        self.assertEqual(self.bad_line(FULL_LINES[::-1]), 3)
        self.assertEqual(self.bad_line(["a 3", "e", "b", "divisor 2", "row 1 2"]), 2)
        self.assertEqual(self.bad_line(["a 3", "b", "e", "row 1 2", "divisor 2"]), 4)

    def test_a_second_divisor(self):
        for odd in ("divisor 2", "divisor 3", "divisor"):
            self.assertEqual(self.bad_line([*BARE_LINES[:4], odd, "row 1 2"]), 4)
        self.assertEqual(self.bad_line(["divisor 2", "divisor 2"]), 1)

    def test_no_divisor(self):
        self.assertEqual(self.bad_line([*BARE_LINES[:3], "row 1 2"]), 4)
        self.assertEqual(self.bad_line(FULL_LINES[:6]), 6)
        self.assertEqual(self.bad_line(["a"]), 1)
        self.assertEqual(self.bad_line(["row 1 2"] * 20), 20)
        # A line without its form comes first.
        self.assertEqual(self.bad_line([*BARE_LINES[:3], "row 1 2", "row"]), 4)
        self.assertEqual(self.bad_line([*BARE_LINES[:3], "divisors 2"]), 3)

    def test_the_empty_text(self):
        self.assertEqual(self.bad_line([]), 0)
        self.assertEqual(self.bad_line([""]), 0)
        self.assertEqual(self.bad_line(["", ""]), 0)
        self.assertEqual(self.bad_line([" "]), 0)

    def test_a_newline_at_the_end(self):
        self.assertEqual(self.bad_line([*FULL_LINES, ""]), 13)
        self.assertEqual(self.bad_line(["", *FULL_LINES]), 0)

    def test_other_signs_that_end_lines_elsewhere(self):
        for sign in ("\r\n", "\r", "\x0b", "\x0c", "\x1c", "\x85", "\u2028"):
            self.assertEqual(self.error(BadLine, parse_machine, sign.join(BARE_LINES)), 0)

    def test_the_first_line_without_its_form(self):
        lines = list(FULL_LINES)
        for at in reversed(range(len(lines))):
            lines[at] = "a +1"
            self.assertEqual(self.bad_line(lines), at)

    def test_errors_of_the_machine(self):
        for lines, place in (
                (["divisor 2"], "a"), (["divisor 2", "row 1 2"], "a"), (["a 3", "divisor 2", "row 1 2"], "b"),
                (["a 3", "b", "divisor 2", "row 1 2"], "e"), (["a 21", *BARE_LINES[1:]], "a"),
                (["a 3", "b 21", "e", "divisor 2", "row 1 2"], "b"), (["a 3", "b", "e -21", "divisor 2", "row 1 2"], "e"),
                (["a 3", "a 3", *BARE_LINES[1:]], "a"), (["a 3", "b", "b", "e", "divisor 2", "row 1 2"], "b"),
                (["a 3", "b", "e", "divisor 0", "row 1 2"], "divisor"),
                (["a 3", "b", "e", "divisor -1", "row 1 2"], "divisor"),
                (["a 3", "b", "e", "divisor 101", "row 1 2"], "divisor"),
                (["a 3", "b 1", "e", "divisor 2", "row 1 2"], "input_limits"),
                (["a 3", "b 1", "e", "divisor 2", "input 2 1", "row 1 2"], "input_limits"),
                (["a 3", "b", "e", "divisor 2", "input 1 2", "row 1 2"], "input_limits"),
                (["a 3", "b", "e 1", "divisor 2", "row 1 2"], "disturbance_limits"),
                (["a 3", "b", "e 1", "divisor 2", "disturbance -21 1", "row 1 2"], "disturbance_limits"),
                (["a 3", "b", "e", "divisor 2", "disturbance 1 2", "row 1 2"], "disturbance_limits")):
            with self.subTest(lines):
                self.assertEqual(self.error(BadMachine, parse_machine, "\n".join(lines)), place)

    def test_an_error_of_the_machine_comes_before_one_of_the_rows(self):
        self.assertEqual(self.error(BadMachine, parse_machine, "a 3\nb\ne\ndivisor 0\nrow 1 2000"), "divisor")
        self.assertEqual(self.error(BadMachine, parse_machine, "a 3\nb\ne\ndivisor 0"), "divisor")

    def test_errors_of_the_rows(self):
        self.assertIsNone(self.error(BadRow, parse_machine, "\n".join(BARE_LINES[:4])))
        self.assertIsNone(self.error(BadRow, parse_machine, "\n".join([*BARE_LINES[:4], *["row 1 2"] * 17])))
        self.check_read([*BARE_LINES[:4], *["row 1 2"] * 16], BARE, [((1,), 2)] * 16)
        for odd in ("row 2", "row 1 1 2", "row 21 2", "row -21 2", "row 1 1001", "row 1 -1001"):
            for at in (0, 1, 15):
                rows = ["row 1 2"] * 16
                rows[at] = odd
                self.assertEqual(self.error(BadRow, parse_machine, "\n".join([*BARE_LINES[:4], *rows])), at)
        self.check_read([*BARE_LINES[:4], "row 20 1000", "row -20 -1000"], BARE, [((20,), 1000), ((-20,), -1000)])

    def test_new_values_each_time(self):
        text = "\n".join(FULL_LINES)
        first, second = parse_machine(text), parse_machine(text)
        self.assertIsNot(first[1], second[1])
        first[1].clear()
        self.assertEqual(parse_machine(text)[1], second[1])


class FormatPoints(unittest.TestCase):
    def test_no_points(self):
        self.assertEqual(format_points([]), "")

    def test_several(self):
        self.assertEqual(format_points([point("1/2", -3), point(0, "-7/3"), point(10, 1)]), "1/2 -3\n0 -7/3\n10 1")
        self.assertEqual(format_points([point(5)]), "5")
        self.assertEqual(format_points([point(1, 2), point(3)]), "1 2\n3")

    def test_long_numbers(self):
        for digits in (60, 61, 63, 64, 65, 127, 128, 129, 200):
            number = int("7" * digits)
            for odd in (number, 10 ** digits, 10 ** digits - 1, 10 ** digits + 1):
                self.assertEqual(format_points([((odd, 1),)]), str(odd))
                self.assertEqual(format_points([((-odd, 1),)]), str(-odd))
        self.assertEqual(format_points([((2, 10 ** 70 + 1),)]), "2/1" + "0" * 69 + "1")

    def test_numbers_that_python_alone_does_not_write(self):
        self.assertEqual(format_points([((10 ** 5000, 1), (-1, 10 ** 5000))]), "1" + "0" * 5000 + " -1/1" + "0" * 5000)
        self.assertEqual(format_points([((-3 * 10 ** 9000 - 7, 2),)]), "-3" + "0" * 8999 + "7/2")


class ParsePoints(Asks):
    def place(self, text):
        return self.error(BadLine, parse_points, text)

    def test_no_points(self):
        self.assertEqual(parse_points(""), [])

    def test_right_texts(self):
        self.assertEqual(parse_points("0"), [point(0)])
        self.assertEqual(parse_points("-12"), [point(-12)])
        self.assertEqual(parse_points("1/2 -3\n0 -7/3\n10 1"), [point("1/2", -3), point(0, "-7/3"), point(10, 1)])

    def test_lines_of_different_numbers_of_words(self):
        self.assertEqual(parse_points("1\n2 3/4\n5\n6 7 8"), [point(1), point(2, "3/4"), point(5), point(6, 7, 8)])

    def test_60_and_61_digits(self):
        long, longer = "7" * 60, "7" * 61
        ones, more = "1" + "0" * 59, "1" + "0" * 60
        self.assertEqual(parse_points(f"{long} -{long}"), [((int(long), 1), (-int(long), 1))])
        self.assertEqual(parse_points(f"{long}/{ones} -{long}/{ones}"),
                         [((int(long), int(ones)), (-int(long), int(ones)))])
        self.assertEqual(parse_points(f"1/{long}"), [((1, int(long)),)])
        for word in (longer, f"-{longer}", f"{longer}/2", f"-{longer}/2", f"1/{more}", f"{long}/{more}", "1" * 100000,
                     "-1/" + "3" * 100000):
            self.assertEqual(self.place(word), 0)
            self.assertEqual(self.place(f"1 2\n3 {word}"), 1)

    def test_words_that_are_not_written_so(self):
        for word in (*NO_NUMBERS, "3/1", "-3/1", "0/1", "2/4", "-2/4", "0/2", "6/3", "1/0", "0/0", "1/-2", "-1/-2", "/2", "1/",
                     "/", "1//2", "1/2/3", "1/2/", "/1/2", "1/+2", "1/02", "01/2", "+1/2", "-0/2", "1/-0", "1/2.0", "1\\2"):
            if word != "1/2":
                with self.subTest(word):
                    self.assertEqual(self.place(f"5 {word}"), 0)
                    self.assertEqual(self.place(f"1\n2\n{word} 7\n8"), 2)
                    self.assertEqual(self.place(f"1\n5 {word}\n{word}"), 1)
                    if word:
                        self.assertEqual(self.place(word), 0)

    def test_empty_words_and_empty_lines(self):
        for text, place in ((" ", 0), ("1 ", 0), (" 1", 0), ("1  2", 0), ("1\n", 1), ("\n1", 0), ("\n", 0), ("1\n\n2", 1),
                            ("1\n2\n3 ", 2), ("1 2\n \n3", 1), ("1\t2", 0), ("1\r\n2", 0), ("1\n2\r", 1)):
            self.assertEqual(self.place(text), place)

    def test_the_first_line_without_its_form(self):
        self.assertEqual(self.place("1\n2/4\n+3"), 1)
        self.assertEqual(self.place("1\n2\n+3\n2/4"), 2)

    def test_read_again(self):
        rng = random.Random(122)
        for _ in range(100):
            points = []
            for _ in range(rng.randint(0, 5)):
                pairs = [(rng.randint(-99, 99), rng.randint(1, 20)) for _ in range(rng.randint(1, 4))]
                points.append(tuple((n // gcd(n, d), d // gcd(n, d)) for n, d in pairs))
            text = format_points(points)
            self.assertEqual(parse_points(text), points)
            self.assertEqual(format_points(parse_points(text)), text)

    def test_a_new_list_each_time(self):
        for text in ("", "1/2 -3"):
            first, second = parse_points(text), parse_points(text)
            self.assertIs(type(first), list)
            self.assertIsNot(first, second)
            first.clear()
            self.assertEqual(parse_points(text), second)


class Arguments(unittest.TestCase):
    def test_what_is_passed_stays_as_it_was(self):
        rows, points = list(FULL_ROWS), [point(1, 2), point("1/2", 3)]
        before = copy.deepcopy((vars(FULL), rows, points))
        format_machine(FULL, rows)
        format_points(points)
        self.assertEqual((vars(FULL), rows, points), before)


if __name__ == "__main__":
    unittest.main()
