"""The console (point 25, and console.py)."""

import random

from lineorigins import console as module
from lineorigins.cheapest import cheapest_price, count_cheapest, possible_links
from lineorigins.console import Console
from lineorigins.errors import (
    InvalidCommand, InvalidLine, InvalidNumber, InvalidText, LineError, NothingToUndo, ParseError)
from lineorigins.formats import format_history, parse_history
from lineorigins.keepers import Keeper
from lineorigins.origins import lines_at, origins, touches
from lineorigins.pairs import relation
from lineorigins.prices import Prices
from lineorigins.ratios import Ratio
from lineorigins.steps import steps
from tests.examples import run_example
from tests.samples import merged_history, some_history, the_history
from tests.support import NO_STRINGS, Case, digits

EXAMPLE = """
>>> from lineorigins.console import Console
>>> console = Console()
>>> console.run('load version a -; |x; version b 0; |x; |y')
>>> [console.run('origins 1 0'), console.run('blame 1'), console.run('price 1'), console.run('same 0 0 1 0')]
['0.0 1.0', '? b', '2', 'perhaps']
"""
LOAD = "load " + format_history(the_history()).replace("\n", "; ")
NUMBERS = {"links": 2, "origins": 2, "touches": 2, "sure": 2, "same": 4, "count": 1, "price": 1, "steps": 0, "blame": 1,
           "undo": 0}
# What is no count as the console reads them.
NO_COUNTS = ["", "00", "01", "-1", "+1", "-0", "1.0", "0.0", "x", "a", "1_0", "0x1", "1" + "0" * 30, "0" * 31, "|", "-", ";", "1;"]


def place_text(place):
    return f"{place[0]}.{place[1]}"


def joined(words):
    return " ".join(words) or "-"


class Guide:
    """What a console should answer, by a keeper of its own."""

    def __init__(self):
        self.keeper = None

    def run(self, line):
        word, _, text = line.partition(" ")
        if word == "load":
            self.keeper = Keeper(parse_history("\n".join(text.split("; "))))
            return "ok"
        if word == "prices":
            self.keeper.reprice(Prices.from_text(text))
            return "ok"
        if word == "undo":
            self.keeper.undo()
            return "ok"
        if word == "amend":
            number, _, rest = text.partition(" ")
            lines = [] if rest == "-" else [row[1:] for row in rest.split("; ")]
            return joined(map(place_text, self.keeper.amend(int(number), lines)))
        return self.answer(self.keeper.study, word, [int(number) for number in text.split()])

    def answer(self, study, word, numbers):
        if word == "links":
            return " ".join(["new" if link is None else place_text(link) for link in possible_links(study, *numbers)])
        if word in ("origins", "touches"):
            return " ".join(map(place_text, (origins if word == "origins" else touches)(study, *numbers)))
        if word == "sure":
            return "yes" if len(origins(study, *numbers)) == 1 else "no"
        if word == "same":
            return relation(study, tuple(numbers[:2]), tuple(numbers[2:]))
        if word == "count":
            return str(count_cheapest(study, *numbers))
        if word == "price":
            return cheapest_price(study, *numbers).text
        if word == "steps":
            return joined([step.text for step in steps(study)])
        return joined([line.author or "?" for line in lines_at(study, *numbers)])


class ConsoleCase(Case):

    def loaded(self, text=LOAD):
        console = Console()
        self.assert_same(console.run(text), "ok")
        return console

    def assert_answers(self, console, *answers):
        """These lines, one after the other, are answered like this."""
        for line, answer in answers:
            self.assert_same(console.run(line), answer)

    def everything(self, console):
        """Answers that tell most about a console's state."""
        found = [console.run("steps")]
        for number in range(11):
            for line in [f"blame {number}", f"price {number}", f"count {number}"]:
                try:
                    found.append(console.run(line))
                except InvalidNumber:
                    return found
            for index in range(len(found[-3].split(" ")) if found[-3] != "-" else 0):
                found.extend([console.run(f"{word} {number} {index}") for word in ["links", "origins", "touches", "sure"]])
        return found

    def assert_unchanged(self, console, error, value, line, field="value"):
        """The command raises the error and changes nothing, also not what can be undone."""
        before = self.everything(console)
        with self.assertRaises(error) as caught:
            console.run(line)
        self.assertIs(type(caught.exception), error)
        self.assert_same(getattr(caught.exception, field), value)
        self.assertEqual(self.everything(console), before)


class TestCommands(ConsoleCase):

    def test_example(self):
        self.assertEqual(*run_example(EXAMPLE))

    def test_questions(self):
        console = self.loaded()
        self.assert_answers(console,
            ("links 1 0", "new 0.1"), ("links 0 1", "new"), ("links 2 0", "new 0.0 1.1"),
            ("origins 2 0", "0.0 1.1 2.0"), ("touches 2 0", "0.0 1.1 2.0"), ("sure 0 0", "yes"), ("sure 2 0", "no"),
            ("same 0 0 2 0", "perhaps"), ("same 1 1 1 1", "surely"), ("same 0 0 0 1", "never"), ("count 1", "4"),
            ("count 0", "1"), ("price 1", "2"), ("price 2", "1"), ("steps", "1"), ("blame 0", "anon anon"),
            ("blame 1", "? ?"), ("blame 2", "?"))
        self.assert_same(console.run("prices piece 1/2 far 0 alike 0 least 1"), "ok")
        self.assert_answers(console,
            ("links 1 0", "0.1"), ("links 2 0", "0.0 1.1"), ("origins 2 0", "0.0"), ("sure 2 0", "yes"),
            ("same 0 0 2 0", "surely"), ("count 1", "1"), ("count 2", "2"), ("price 1", "1"), ("price 2", "1/2"),
            ("steps", "1"), ("blame 1", "anon anon"))

    def test_load(self):
        console = Console()
        for text in ["load ", "load version a -", "load version a -; |", "load version a -; version b 0; |;; |; | ; |a b",
                     LOAD, "load " + format_history(merged_history()).replace("\n", "; ")]:
            self.assert_same(console.run(text), "ok")
            history = parse_history(text[5:].replace("; ", "\n"))
            self.assertEqual([console.run(f"price {number}") for number in range(len(history))],
                             [cheapest_price(Keeper(history).study, number).text for number in range(len(history))])
            with self.assertRaises(InvalidNumber):
                console.run(f"price {len(history)}")

    def test_load_nothing(self):
        console = self.loaded("load ")
        self.assert_answers(console, ("steps", "-"))
        self.assert_unchanged(console, InvalidNumber, 0, "blame 0")
        self.assert_unchanged(console, InvalidNumber, 0, "amend 0 -")
        self.assertRaises(NothingToUndo, console.run, "undo")

    def test_load_reads_from_the_left(self):
        """Each semicolon with a blank behind it is a line feed, wherever it stands."""
        console = self.loaded("load version a -; |a;; |;; | ;b; |;")
        self.assert_answers(console, ("price 0", "4"))
        self.assert_answers(console,
            ("amend 0 |a;; |;; | ;b; |;", "-"), ("amend 0 |a;; |;; |;; |;", "-"), ("undo", "ok"))
        for text, line in [("load ;  version a -", 0), ("load version a -;  |x", 1), ("load version a -; |x; ", 2),
                           ("load version a -; ; |x", 1), ("load version a -; |x; y", 2), ("load x", 0),
                           ("load ; ", 0), ("load  ", 0), ("load version a - ; |x", 0), ("load version a -;|x", 0)]:
            self.assert_unchanged(console, ParseError, line, text, field="line")

    def test_load_takes_the_place_of_the_old_keeper(self):
        console = self.loaded()
        self.assert_answers(console,
            ("prices piece 2 far 0 alike 0 least 1", "ok"), ("amend 0 |x", "0.1"), ("price 1", "2"))
        self.assert_same(console.run(LOAD), "ok")
        self.assert_answers(console, ("count 1", "4"), ("price 0", "2"))
        self.assertRaises(NothingToUndo, console.run, "undo")

    def test_prices(self):
        console = self.loaded()
        for text, answer in [("piece 3 far 0 alike 0 least 1", "2"), ("piece 1/3 far 0 alike 0 least 1", "2/3"),
                             ("piece 1/3 far 5/2 alike 7 least 12", "2"), ("piece 1 far 0 alike 0 least 1", "2")]:
            self.assert_same(console.run("prices " + text), "ok")
            self.assert_same(console.run("price 1"), answer)
        for text in ["", " ", "piece", "piece 0 far 0 alike 0 least 1", "piece 1 far 0 alike 0 least 13", " piece 1 far 0 alike 0 least 1",
                     "piece 1  far 0 alike 0 least 1", "piece 1 far 0 alike 0 least 1 ", "Piece 1 far 0 alike 0 least 1",
                     "piece 1 far -1 alike 0 least 1", "far 0 piece 1 alike 0 least 1"]:
            self.assert_unchanged(console, InvalidText, text, "prices " + text)
        with self.assertRaises(InvalidText) as caught:
            console.run("prices piece 1 far 01 alike 0 least 1")
        self.assertEqual(caught.exception.value, "piece 1 far 01 alike 0 least 1")
        for answer in ["2", "2", "2/3", "2"]:
            self.assert_answers(console, ("price 1", answer), ("undo", "ok"))
        self.assertRaises(NothingToUndo, console.run, "undo")

    def test_undo(self):
        console = self.loaded()
        self.assertRaises(NothingToUndo, console.run, "undo")
        self.assert_answers(console, ("amend 2 -", "2.0"), ("blame 2", "-"), ("undo", "ok"), ("blame 2", "?"))
        self.assertRaises(NothingToUndo, console.run, "undo")
        self.assert_answers(console, ("amend 2 -", "2.0"), ("amend 0 -", "0.0 0.1 1.0 1.1"))
        self.assert_answers(console, ("undo", "ok"), ("blame 0", "anon anon"), ("blame 2", "-"))
        self.assert_answers(console, ("undo", "ok"), ("blame 2", "?"))

    def test_amend(self):
        console = self.loaded()
        self.assert_same(console.run("prices piece 1/2 far 0 alike 0 least 1"), "ok")
        for line, answer, blame in [
                ("amend 0 |a; |c", "1.0", "ann anon"), ("amend 0 |a; |c; |b", "0.2 1.0", "anon anon"),
                ("amend 0 |a; |c; |b", "-", "anon anon"), ("amend 0 -", "0.0 0.1 0.2 1.0 1.1 2.0", "ann ann"),
                ("amend 1 |", "1.1 2.0", "ann"), ("amend 1 |; |", "1.1", "ann ann"), ("amend 1 |-", "1.1", "ann"),
                ("amend 1 |a b;c", "-", "ann"), ("amend 1 || ; |;", "1.1", "ann ann"), ("amend 1 | | ", "1.1", "ann")]:
            self.assert_same(console.run(line), answer)
            self.assert_same(console.run("blame 1"), blame)
        self.assert_same(console.run("amend 2 |" + "x" * 40 + "; |" * 11), " ".join([f"2.{index}" for index in range(1, 12)]))

    def test_lines_of_amendments(self):
        """The lines are those between the marks, blanks included, as load reads them, too."""
        for text, lines in [("|", [""]), ("| ", [" "]), ("|a;b", ["a;b"]), ("|a;", ["a;"]), ("|a;; |b", ["a;", "b"]), ("|;; |;", [";", ";"]),
                            ("|a |b", ["a |b"]), ("||a", ["|a"]), ("|-", ["-"]), ("|a ; |b", ["a ", "b"]), ("|a;|b", ["a;|b"])]:
            console = self.loaded("load version a -; version b 0; " + text)
            wanted = self.loaded("load version a -; version b 0")
            self.assertEqual(wanted.run(f"amend 1 {text}"), " ".join([f"1.{index}" for index in range(len(lines))]))
            self.assertEqual(self.everything(console), self.everything(wanted))
            other = Keeper(parse_history("version a -\nversion b 0"))
            other.amend(1, lines)
            self.assertEqual(other.history, parse_history(("version a -; version b 0; " + text).replace("; ", "\n")))
            # Equal lines can be taken for nothing but the price of a piece.
            wanted.run(f"amend 0 {text}")
            self.assertEqual(wanted.run("price 1"), str(1 if len(lines) > 0 else 0))

    def test_texts_that_are_none_are_asked_by_amend(self):
        console = self.loaded()
        self.assert_unchanged(console, InvalidText, [""] * 13, "amend 0 |" + "; |" * 12)
        self.assert_unchanged(console, InvalidText, ["x" * 41], "amend 0 |" + "x" * 41)
        self.assert_unchanged(console, InvalidText, ["a", "x" * 41, "b"], "amend 1 |a; |" + "x" * 41 + "; |b")
        self.assert_unchanged(console, InvalidNumber, 3, "amend 3 |" + "; |" * 12)
        self.assert_unchanged(console, InvalidNumber, 3, "amend 3 -")
        self.assert_unchanged(console, InvalidNumber, 10 ** 30 - 1, "amend " + "9" * 30 + " |a")
        self.assertRaises(NothingToUndo, console.run, "undo")

    def test_errors_of_questions(self):
        console = self.loaded()
        console.run("amend 2 |a; |b")
        most = 10 ** 30 - 1
        for word in ["links", "origins", "touches", "sure"]:
            self.assert_unchanged(console, InvalidNumber, 3, f"{word} 3 0")
            self.assert_unchanged(console, InvalidNumber, 2, f"{word} 1 2")
            self.assert_unchanged(console, InvalidNumber, most, f"{word} {most} 9")
            self.assert_unchanged(console, InvalidNumber, most, f"{word} 0 {most}")
        for word in ["count", "price", "blame"]:
            self.assert_unchanged(console, InvalidNumber, 3, f"{word} 3")
            self.assert_unchanged(console, InvalidNumber, most, f"{word} {most}")
        self.assert_unchanged(console, InvalidLine, (3, 0), "same 3 0 0 0")
        self.assert_unchanged(console, InvalidLine, (0, 2), "same 0 2 0 3")
        self.assert_unchanged(console, InvalidLine, (0, 3), "same 0 0 0 3")
        self.assert_unchanged(console, InvalidLine, (most, 1), f"same 0 1 {most} 1")
        self.assert_answers(console, ("undo", "ok"))
        self.assertRaises(NothingToUndo, console.run, "undo")

    def test_counts_of_30_digits(self):
        console = self.loaded()
        self.assert_unchanged(console, InvalidNumber, 10 ** 29, "count 1" + "0" * 29)
        self.assert_unchanged(console, InvalidCommand, "count 1" + "0" * 30, "count 1" + "0" * 30)

    def test_layout_of_prices(self):
        """The layout that the prices have is kept, which here is always the one that nothing is ignored by."""
        console = self.loaded("load version a -; |x y; version b 0; |X y")
        self.assert_answers(console,
            ("prices piece 1/2 far 0 alike 0 least 1", "ok"), ("links 1 0", "new"), ("steps", "-"))

    def test_consoles_have_nothing_to_do_with_each_other(self):
        one, other = self.loaded(), Console()
        self.assertRaises(InvalidCommand, other.run, "steps")
        other.run("load ")
        self.assert_answers(one, ("steps", "1"))
        self.assert_answers(other, ("steps", "-"))

    def test_by_name(self):
        console = Console()
        self.assertEqual(console.run(line=LOAD), "ok")
        self.assert_own_methods(Console, "run")
        self.assertEqual(Console.__module__, module.__name__)

    def test_long_sessions(self):
        """Rows of commands, right and wrong, beside what the functions answer."""
        source = random.Random(21)
        seen = {"ok": 0, "errors": 0, "invalid": 0, "places": 0}
        for _ in range(30):
            console, guide = Console(), Guide()
            for at in range(60):
                line = self.some_line(source) if at else self.some_load(source)
                if source.random() < 0.15:
                    line = self.spoilt(line, source)
                self.compare(console, guide, line, seen)
        self.assertGreater(min(seen.values()), 40, seen)

    def compare(self, console, guide, line, seen):
        """The console and the guide answer alike; the guide is not asked what is no command."""
        if guide.keeper is None and not line.startswith("load ") or not is_command(line):
            self.assert_refused(InvalidCommand, line, console.run, line)
            seen["invalid"] += 1
            return
        try:
            wanted = guide.run(line)
        except (LineError, NothingToUndo) as error:
            with self.assertRaises(type(error)) as caught:
                console.run(line)
            self.assertEqual(vars(caught.exception), vars(error))
            seen["errors"] += 1
        else:
            self.assert_same(console.run(line), wanted)
            seen["ok" if wanted == "ok" else "places"] += 1

    def some_load(self, source):
        return "load " + format_history(some_history(source)).replace("\n", "; ")

    def some_line(self, source):
        number, index = source.randint(0, 4), source.randint(0, 3)
        lines = [source.choice(["a", "b", "A", "", " a", "x;y", "; "]) for _ in range(source.choice([0, 1, 2, 3, 13]))]
        text = "; ".join(["|" + line for line in lines]) or "-"
        return source.choice([
            lambda: self.some_load(source), lambda: f"amend {number} {text}", lambda: f"amend {number} {text}", lambda: "undo",
            lambda: f"prices piece {source.choice(['1', '2', '1/2', '0', '2/4'])} far {source.choice(['0', '1/2'])} alike 0 least 1",
            lambda: f"{source.choice(['links', 'origins', 'touches', 'sure'])} {number} {index}",
            lambda: f"{source.choice(['links', 'origins', 'touches', 'sure'])} {number} {index}",
            lambda: f"same {number} {index} {source.randint(0, 4)} {source.randint(0, 3)}",
            lambda: f"{source.choice(['count', 'price', 'blame'])} {number}", lambda: "steps"])()

    def spoilt(self, line, source):
        at = source.randrange(len(line) + 1)
        return source.choice([line[:at] + line[at + 1:], line[:at] + " " + line[at:], line[:at] + "\n" + line[at:],
                              line[:at] + "0" + line[at:], line[:at], line[at:], line + " 0", line.upper()])


def is_count(word):
    return word.isdigit() and len(word) <= 30 and str(int(word)) == word


def is_command(line):
    """Whether a line is written like a command."""
    if "\n" in line:
        return False
    words = line.split(" ")
    if words[0] in ("load", "prices"):
        return len(words) > 1
    if words[0] == "amend":
        text = " ".join(words[2:])
        return len(words) > 2 and is_count(words[1]) and (text == "-" or all([row[:1] == "|" for row in text.split("; ")]))
    return NUMBERS.get(words[0]) == len(words) - 1 and all(map(is_count, words[1:]))


class TestWrongCommands(ConsoleCase):

    def test_no_string(self):
        for console in [Console(), self.loaded()]:
            for value in [*NO_STRINGS, digits(30), Ratio(1)]:
                self.assert_refused(InvalidCommand, value, console.run, value)

    def test_no_command(self):
        console = self.loaded()
        for line in ["", " ", "x", "Load", "LOAD version a -", "load", "loads version a -", " load version a -", "prices", "Prices",
                     "price", "count", "steps ", " steps", "steps 0", "undo ", " undo", "undo 0", "Undo", "redo", "links", "origin 0 0",
                     "amend", "amend ", "amend 0", "amend  -", "help", "quit", "follow version a -", "sures 0 0", "\tsteps"]:
            self.assert_refused(InvalidCommand, line, console.run, line)
        self.assertRaises(NothingToUndo, console.run, "undo")

    def test_too_few_and_too_many_words(self):
        console = self.loaded()
        for word, many in NUMBERS.items():
            for count in range(7):
                line = " ".join([word] + ["0"] * count)
                if count == many and word != "undo":
                    console.run(line)
                elif count != many:
                    self.assert_refused(InvalidCommand, line, console.run, line)

    def test_no_counts(self):
        console = self.loaded()
        for word, many in NUMBERS.items():
            for at in range(many):
                for wrong in NO_COUNTS:
                    numbers = ["0"] * many
                    numbers[at] = wrong
                    line = " ".join([word] + numbers)
                    self.assert_refused(InvalidCommand, line, console.run, line)
        for wrong in NO_COUNTS:
            for text in ["-", "|a", "|a; |b"]:
                line = f"amend {wrong} {text}"
                self.assert_refused(InvalidCommand, line, console.run, line)
        self.assertRaises(NothingToUndo, console.run, "undo")

    def test_blanks(self):
        console = self.loaded()
        for right in ["links 0 0", "same 0 0 1 0", "count 0", "steps", "undo", "blame 1"]:
            for at in [at for at, mark in enumerate(right) if mark == " "] + [0, len(right)]:
                line = right[:at] + " " + right[at:]
                self.assert_refused(InvalidCommand, line, console.run, line)
        for line in [" amend 0 -", "amend  0 -", "amend 0  -", "amend 0 - ", "amend 0  |a", " load ", " prices "]:
            self.assert_refused(InvalidCommand, line, console.run, line)
        self.assertRaises(NothingToUndo, console.run, "undo")

    def test_line_feeds(self):
        for console in [Console(), self.loaded()]:
            for line in ["\n", "load \n", LOAD + "\n", LOAD.replace("; ", "\n"), "\nload ", "steps\n", "\nsteps", "links 0\n0", "undo\n",
                         "amend 0 |a\n", "amend 0 |a\n|b", "prices piece 1 far 0 alike 0 least 1\n", "count 0\n0"]:
                self.assert_refused(InvalidCommand, line, console.run, line)

    def test_before_a_history_is_loaded(self):
        console = Console()
        for line in ["steps", "links 0 0", "same 0 0 0 0", "count 0", "blame 9", "undo", "amend 0 -", "amend 0 |a",
                     "prices piece 1 far 0 alike 0 least 1", "prices ", "amend 0 |" + "; |" * 12, "load", "x", ""]:
            self.assert_refused(InvalidCommand, line, console.run, line)
        for line, wrong in [("load x", 0), ("load version a 0", 0), ("load version a -; x", 1)]:
            with self.assertRaises(ParseError) as caught:
                console.run(line)
            self.assertEqual(caught.exception.line, wrong)
            self.assert_refused(InvalidCommand, "steps", console.run, "steps")
        self.assertEqual([console.run("load "), console.run("steps")], ["ok", "-"])

    def test_lines_without_a_mark(self):
        console = self.loaded()
        for text in ["", "a", "--", "- ", " -", "-; |a", "|a; -", "|a; b", "|a; ", "; |a", "|a;  |b", "|a; ; |b", " |a", "a|", "|a; b|",
                     "|a; |b; "]:
            line = f"amend 0 {text}"
            self.assert_unchanged(console, InvalidCommand, line, line)
            line = f"amend 9 {text}"
            self.assert_unchanged(console, InvalidCommand, line, line)
        self.assertRaises(NothingToUndo, console.run, "undo")
