"""What the document promises over the whole program (points 2 and 3, and the interface as it is listed)."""

import importlib
import inspect
import random

from lineorigins.certificates import format_paper, parse_paper
from lineorigins.cheapest import (
    ahead, behind, cheapest_price, cheapest_tellings, count_cheapest, extent, possible_links, telling_with)
from lineorigins.console import Console
from lineorigins.deeds import telling_of
from lineorigins.errors import InvalidNumber, InvalidTelling, LineError
from lineorigins.formats import format_history, parse_history
from lineorigins.hints import accepts_hints, fewest_hints, hint_paper, is_enough
from lineorigins.histories import History, Version
from lineorigins.keepers import Keeper
from lineorigins.layouts import Layout
from lineorigins.merges import carried, returned, sides, uses, written_twice
from lineorigins.notes import Notes
from lineorigins.originpapers import accepts_origins, origin_paper
from lineorigins.origins import chain_to, chains, count_chains, lines_at, origins, told_by, touches
from lineorigins.pairpapers import accepts_pairs, pair_paper
from lineorigins.pairs import authors, chains_together, links_together, origins_together, relation
from lineorigins.papers import accepts_links, link_paper
from lineorigins.prices import Prices
from lineorigins.ranges import Ranges
from lineorigins.ratios import Ratio
from lineorigins.records import excess, is_record, recorded_chain, recorded_origin, right_prices
from lineorigins.steps import bends, link_ranges, origin_ranges, origin_table, steps
from lineorigins.studies import Study
from lineorigins.tellings import is_telling, links_of, price_of
from tests.listing import NEW, take
from tests.samples import FOLDED, HALF, PRICES, some_history, the_history, the_study
from tests.support import Case

# Each function with its parameters, and each class with those of its methods; properties have none.
INTERFACE = {
    "ratios": {"Ratio": {"": "top, bottom=1", "top": None, "bottom": None, "text": None, "divided": "other",
                         "from_text": "text", "middle": "first, second"}},
    "layouts": {"is_line": "value", "is_text": "value",
                "Layout": {"": "*, ignored='', folded=False", "ignored": None, "folded": None, "__call__": "line"}},
    "histories": {
        "Version": {"": "lines, *, parents=(), author='anon'", "lines": None, "parents": None, "author": None},
        "History": {"": "versions=()", "version": "number", "ancestors": "number", "farther": "number",
                    "followed": "version", "amended": "number, lines"}},
    "formats": {"format_history": "history", "parse_history": "text"},
    "prices": {"Prices": {
        "": "*, piece=1, far=0, alike=0, least=1, layout=None", "piece": None, "far": None, "alike": None, "least": None,
        "layout": None, "text": None, "with_piece": "piece", "from_text": "text, *, layout=None"}},
    "tellings": {"is_telling": "history, number, value, *, prices=None",
                 "price_of": "history, number, telling, *, prices=None",
                 "links_of": "history, number, telling, *, prices=None"},
    "studies": {"Study": {"": "history, *, prices=None", "history": None, "prices": None}},
    "cheapest": {"cheapest_price": "study, number", "ahead": "study, number", "behind": "study, number",
                 "possible_links": "study, number, index", "count_cheapest": "study, number",
                 "cheapest_tellings": "study, number", "telling_with": "study, number, index, link",
                 "extent": "study, number"},
    "papers": {"link_paper": "study, number, index",
               "accepts_links": "history, number, index, links, value, *, prices=None"},
    "origins": {"origins": "study, number, index", "touches": "study, number, index", "chains": "study, number, index",
                "count_chains": "study, number, index", "chain_to": "study, number, index, origin",
                "told_by": "study, chain", "lines_at": "study, number",
                "LineAt": {"": "study, number, index", "place": None, "text": None, "links": None, "origins": None,
                           "touches": None, "is_sure": None, "author": None}},
    "originpapers": {"origin_paper": "study, number, index",
                     "accepts_origins": "history, number, index, origins, value, *, prices=None"},
    "pairs": {"links_together": "study, first, second", "origins_together": "study, first, second",
              "relation": "study, first, second", "chains_together": "study, first, second, pair",
              "authors": "study, number"},
    "pairpapers": {"pair_paper": "study, first, second",
                   "accepts_pairs": "history, first, second, pairs, value, *, prices=None"},
    "merges": {"uses": "study, number, source, index", "carried": "study, number, source",
               "sides": "study, number, index", "returned": "study, number", "written_twice": "study, number"},
    "ranges": {"Ranges": {"": "parts=()", "parts": None, "common": "other", "joined": "other", "whole": ""}},
    "steps": {"bends": "study, number", "steps": "study", "link_ranges": "study, number, index, link",
              "origin_ranges": "study, number, index, origin", "origin_table": "study, number, index"},
    "deeds": {"telling_of": "history, number, deeds, *, prices=None"},
    "records": {"is_record": "history, value, *, prices=None", "excess": "study, record",
                "recorded_origin": "study, record, number, index", "recorded_chain": "study, record, number, index",
                "right_prices": "study, record"},
    "hints": {"is_enough": "study, number, telling, lines", "fewest_hints": "study, number, telling",
              "hint_paper": "study, number, telling", "accepts_hints": "study, number, telling, most, value"},
    "keepers": {"Keeper": {
        "": "history, *, prices=None", "history": None, "study": None, "rates": None, "follow": "version",
        "amend": "number, lines", "reprice": "prices", "undo": "", "trial": "", "attempt": "changes", "later": "number"}},
    "notes": {"Notes": {"": "study", "put": "place, note", "take": "place, note", "at": "number, index",
                        "moved_to": "study"}},
    "certificates": {"format_paper": "paper", "parse_paper": "text"},
    "console": {"Console": {"": "", "run": "line"}}}
# The operators that the interface names for classes.
OPERATORS = {
    "Ratio": "add radd sub rsub mul rmul neg abs lt le gt ge eq ne bool", "Layout": "call eq", "Prices": "eq", "Study": "eq",
    "Version": "len getitem contains eq", "History": "iter len contains eq", "LineAt": "eq",
    "Ranges": "iter len bool contains eq"}


def parameters_of(thing):
    """How the parameters are written, without the object or the class itself."""
    return str(inspect.signature(thing))[1:-1]


def answers(study):
    """What all functions answer about a study; errors do not count."""
    history, prices, found = study.history, study.prices, []
    found.append([format_history(history), prices.text, steps(study)])
    places = [(number, index) for number, version in enumerate(history) for index in range(len(version))]
    for number in range(len(history)):
        tellings = list(cheapest_tellings(study, number))
        found.append([ask(study, number) for ask in [
            cheapest_price, ahead, behind, count_cheapest, extent, authors, returned, written_twice, bends]])
        found.append([tellings, [price_of(history, number, telling, prices=prices) for telling in tellings]])
        found.append([(line.place, line.text, line.links, line.author, line.is_sure) for line in lines_at(study, number)])
        found.append([carried(study, number, source) for source in history.ancestors(number)])
        found.append([fewest_hints(study, number, tellings[0]), hint_paper(study, number, tellings[0])])
    for place in places:
        found.append([ask(study, *place) for ask in [
            possible_links, origins, touches, count_chains, sides, link_paper, origin_paper, origin_table]])
        found.append(list(chains(study, *place)))
        found.append([relation(study, place, other) for other in places[:4]])
        found.append([origins_together(study, place, other) for other in places[-2:]])
        found.append([pair_paper(study, place, (place[0], 0)), link_ranges(study, *place, None)])
    record = tuple([next(cheapest_tellings(study, number)) for number in range(len(history))])
    found.append([excess(study, record), right_prices(study, record)[0].parts, right_prices(study, record)[1]])
    return found


def some_studies(many, seed):
    source = random.Random(seed)
    return [Study(some_history(source), prices=source.choice(PRICES)) for _ in range(many)]


class TestInterface(Case):

    def modules(self):
        for name, things in INTERFACE.items():
            yield importlib.import_module(f"lineorigins.{name}"), things

    def test_functions(self):
        for module, things in self.modules():
            for name, wanted in things.items():
                thing = vars(module)[name]
                self.assertEqual(thing.__module__, module.__name__)
                if isinstance(wanted, str):
                    self.assertTrue(inspect.isfunction(thing))
                    self.assertEqual(parameters_of(thing), wanted, name)

    def test_classes(self):
        for module, things in self.modules():
            for name, wanted in things.items():
                if isinstance(wanted, dict):
                    cls = vars(module)[name]
                    self.assertEqual(parameters_of(cls), wanted[""], name)
                    self.assertIn("__init__", vars(cls))
                    for method, parameters in wanted.items():
                        if method:
                            self.check_method(cls, method, parameters)

    def check_method(self, cls, name, parameters):
        found = vars(cls)[name]
        if parameters is None:
            self.assertIsInstance(found, property)
            return
        if isinstance(found, (classmethod, staticmethod)):
            self.assertEqual(parameters_of(getattr(cls, name)), parameters, name)
        else:
            self.assertEqual(parameters_of(found), ", ".join(["self", parameters] if parameters else ["self"]), name)

    def test_operators(self):
        classes = {name: vars(module)[name] for module, things in self.modules() for name in things}
        for name, operators in OPERATORS.items():
            for operator in operators.split():
                self.assertIn(f"__{operator}__", vars(classes[name]), name)

    def test_settable_properties(self):
        for module, things in self.modules():
            for name, wanted in things.items():
                for method, parameters in wanted.items() if isinstance(wanted, dict) else []:
                    if parameters is None:
                        setter = vars(vars(module)[name])[method].fset
                        self.assertEqual(setter is not None, (name, method) == ("Keeper", "rates"))

    def test_kinds_of_methods(self):
        self.assertIsInstance(vars(Ratio)["from_text"], classmethod)
        self.assertIsInstance(vars(Ratio)["middle"], staticmethod)
        self.assertIsInstance(vars(Prices)["from_text"], classmethod)
        self.assertIsInstance(vars(Ranges)["whole"], classmethod)

    def test_generators(self):
        study = the_study()
        for begun in [cheapest_tellings(study, 9), chains(study, 9, 0), lines_at(study, 9)]:
            self.assertTrue(inspect.isgenerator(begun))
            self.assert_refused(InvalidNumber, 9, next, begun)


class TestGeneralRules(Case):

    def test_equal_calls_give_equal_answers(self):
        """For the same object twice, and for an equal one."""
        for study in some_studies(12, 1):
            found = answers(study)
            self.assertEqual(answers(study), found)
            self.assertEqual(answers(Study(parse_history(format_history(study.history)), prices=study.prices)), found)

    def test_nothing_that_is_asked_changes_anything(self):
        for study in some_studies(12, 2):
            history, prices = study.history, study.prices
            text, written = format_history(history), prices.text
            answers(study)
            self.assertEqual([format_history(history), prices.text, study.history, study.prices],
                             [text, written, history, prices])
            self.assert_equal_objects(study, Study(parse_history(text), prices=prices))

    def test_arguments_are_not_changed_and_not_kept(self):
        """What is made of lists stays as it is when these change later."""
        lines, parents = ["a", "b"], [0]
        version = Version(lines, parents=parents)
        versions = [Version(["a"]), version]
        history = History(versions)
        amended = ["c"]
        other = history.amended(0, amended)
        parts = [(0, 1), (2, None)]
        ranges = Ranges(parts)
        deeds = [("bring", 0, 0, 1, 0), ("write", 1, "b")]
        telling = telling_of(history, 1, deeds)
        self.assertEqual([lines, parents, versions, amended, parts, deeds], [
            ["a", "b"], [0], [Version(["a"]), version], ["c"], [(0, 1), (2, None)],
            [("bring", 0, 0, 1, 0), ("write", 1, "b")]])
        for given in [lines, parents, versions, amended, parts, deeds]:
            given.clear()
        self.assertEqual([version.lines, version.parents, len(history), other.version(0).lines, ranges.parts, telling],
                         [("a", "b"), (0,), 2, ("c",), ((0, 1), (2, None)), (take(0, 0, 1), NEW)])

    def test_returned_dicts_are_new(self):
        study = the_study()
        one = authors(study, 2)
        one.clear()
        self.assertEqual(authors(study, 2), {"anon": (1, 1)})
        self.assertIsNot(authors(study, 2), authors(study, 2))

    def test_answers_are_tuples(self):
        """No answer can be changed from outside, except the dicts of `authors`."""
        def check(value):
            self.assertNotIsInstance(value, (set, bytearray))
            if isinstance(value, tuple):
                for item in value:
                    self.assertNotIsInstance(item, (list, dict))
                    check(item)

        for study in some_studies(6, 3):
            for rows in answers(study):
                for row in rows:
                    check(row)

    def test_refused_calls_change_nothing(self):
        study = the_study()
        before = answers(study)
        for call in [lambda: possible_links(study, 3, 0), lambda: origin_table(study, 0, 2), lambda: told_by(study, None),
                     lambda: fewest_hints(study, 1, None), lambda: right_prices(study, ()), lambda: bends(study, True),
                     lambda: links_together(study, (0, 0), (1, 0)), lambda: uses(study, 1, 1, 0)]:
            self.assertRaises(LineError, call)
        self.assertEqual(answers(study), before)

    def test_true_and_false_are_no_numbers(self):
        study = the_study()
        for call in [lambda: origins(study, True, 0), lambda: origins(study, 1, False), lambda: bends(study, False),
                     lambda: Keeper(study.history).later(True), lambda: Notes(study).at(True, 0),
                     lambda: accepts_hints(study, 0, (NEW, NEW), True, ())]:
            self.assertRaises(InvalidNumber, call)
        self.assertIs(is_record(study.history, ((NEW, NEW), (take(False, 1, 1), NEW), (NEW,))), False)
        telling = (take(0, True, 1), take(0, 0, 1))
        self.assert_refused(InvalidTelling, telling, is_enough, study, 1, telling, ())

    def test_many_objects_beside_each_other(self):
        """Studies of other prices do not mix up what they have found."""
        history = the_history()
        studies = [Study(history, prices=prices) for prices in PRICES]
        first = [answers(study) for study in studies]
        self.assertEqual([answers(study) for study in reversed(studies)][::-1], first)
        self.assertEqual([answers(Study(history, prices=prices)) for prices in PRICES], first)


class TestGuarantees(Case):
    """Promises of point 3 that hold between several modules."""

    def test_answers_that_belong_together(self):
        for study in some_studies(40, 4):
            history = study.history
            for number in range(len(history)):
                lines = list(lines_at(study, number))
                told = {name: [0, 0] for line in lines for name in {history.version(place[0]).author for place in line.origins}}
                for line in lines:
                    names = {history.version(place[0]).author for place in line.origins}
                    for name in names:
                        told[name] = [told[name][0] + (names == {name}), told[name][1] + 1]
                    self.assertEqual(line.author, names.pop() if len(names) == 1 else None)
                    self.assert_line(study, line.place)
                self.assertEqual(authors(study, number), {name: tuple(counts) for name, counts in told.items()})

    def assert_line(self, study, place):
        """Chains, origins, papers, ranges and relations of one line."""
        history, prices = study.history, study.prices
        every = list(chains(study, *place))
        self.assertEqual([count_chains(study, *place), tuple(sorted({chain[-1] for chain in every}))],
                         [len(every), origins(study, *place)])
        for origin in origins(study, *place):
            self.assertIn(prices.piece, origin_ranges(study, *place, origin))
            record = told_by(study, chain_to(study, *place, origin))
            self.assertIs(is_record(history, record, prices=prices), True)
            self.assertEqual([recorded_origin(study, record, *place), recorded_chain(study, record, *place)],
                             [origin, chain_to(study, *place, origin)])
            self.assertIn(prices.piece, right_prices(study, record)[0])
        self.assertIs(accepts_links(history, *place, possible_links(study, *place), link_paper(study, *place), prices=prices), True)
        paper = origin_paper(study, *place)
        self.assertEqual(parse_paper(format_paper(paper)), paper)
        self.assertIs(accepts_origins(history, *place, origins(study, *place), paper, prices=prices), True)
        for link in possible_links(study, *place):
            self.assertIn(prices.piece, link_ranges(study, *place, link))
            telling = telling_with(study, place[0], place[1], link)
            self.assertEqual(links_of(history, place[0], telling, prices=prices)[place[1]], link)
            lines = fewest_hints(study, place[0], telling)
            self.assertIs(is_enough(study, place[0], telling, lines), True)
            if lines:
                paper = hint_paper(study, place[0], telling)
                self.assertIs(accepts_hints(study, place[0], telling, len(lines) - 1, paper), True)
        beside = (place[0], 0)
        pairs = links_together(study, place, beside)
        self.assertIs(accepts_pairs(history, place, beside, pairs, pair_paper(study, place, beside), prices=prices), True)
        for pair in origins_together(study, place, beside):
            self.assertEqual(tuple([chain[-1] for chain in chains_together(study, place, beside, pair)]), pair)

    def test_authors_change_neither_links_nor_origins(self):
        for study in some_studies(25, 5):
            versions = [Version(version.lines, parents=version.parents, author="zed") for version in study.history]
            renamed = Study(History(versions), prices=study.prices)
            self.assertEqual(steps(renamed), steps(study))
            for number, version in enumerate(study.history):
                for index in range(len(version)):
                    for ask in [possible_links, origins, touches, count_chains, origin_table]:
                        self.assertEqual(ask(renamed, number, index), ask(study, number, index))

    def test_versions_in_another_order(self):
        """Tables of origins and ranges of links are those renumbered, too."""
        source = random.Random(6)
        moved = 0
        for study in some_studies(60, 7):
            order = self.other_order(study.history, source)
            moved += order != list(range(len(order)))
            new = {old: number for number, old in enumerate(order)}
            versions = [study.history.version(old) for old in order]
            other = Study(History([Version(version.lines, parents=[new[parent] for parent in version.parents])
                                   for version in versions]), prices=study.prices)
            self.assertEqual(steps(other), steps(study))
            for old, version in enumerate(study.history):
                self.assertEqual(bends(other, new[old]), bends(study, old))
                for index in range(len(version)):
                    wanted = [(low, high, tuple(sorted([(new[number], line) for number, line in told])))
                              for low, high, told in origin_table(study, old, index)]
                    self.assertEqual(list(origin_table(other, new[old], index)), wanted)
                    for link in possible_links(study, old, index):
                        renumbered = None if link is None else (new[link[0]], link[1])
                        self.assertEqual(link_ranges(other, new[old], index, renumbered),
                                         link_ranges(study, old, index, link))
        self.assertGreater(moved, 10)

    def other_order(self, history, source):
        """The numbers of the versions in any order in which parents come first."""
        order = []
        while len(order) < len(history):
            order.append(source.choice([number for number, version in enumerate(history) if number not in order
                                        and all([parent in order for parent in version.parents])]))
        return order

    def test_written_things_are_read_back(self):
        source = random.Random(8)
        for study in some_studies(40, 9):
            self.assertEqual(parse_history(format_history(study.history)), study.history)
            prices = Prices(piece=Ratio(source.randint(1, 9), source.randint(1, 9)), far=Ratio(source.randint(0, 9), 7),
                            alike=source.randint(0, 3), least=source.randint(1, 12), layout=source.choice([FOLDED, Layout()]))
            self.assertEqual(Prices.from_text(prices.text, layout=prices.layout), prices)
            for number in range(len(study.history)):
                for ratio in ahead(study, number) + behind(study, number):
                    self.assertEqual(Ratio.from_text(ratio.text), ratio)

    def test_a_console_tells_what_the_functions_tell(self):
        for study in some_studies(15, 10):
            console = Console()
            console.run("load " + format_history(study.history).replace("\n", "; "))
            console.run("prices " + study.prices.text)
            there = Study(study.history, prices=Prices.from_text(study.prices.text))
            for number, version in enumerate(study.history):
                self.assertEqual(console.run(f"price {number}"), cheapest_price(there, number).text)
                for index in range(len(version)):
                    self.assertEqual(console.run(f"origins {number} {index}"),
                                     " ".join([f"{one}.{line}" for one, line in origins(there, number, index)]))

    def test_kept_answers_are_those_of_new_studies(self):
        """After changes of all kinds a keeper's study answers like one that is made of its history and prices."""
        source = random.Random(11)
        for study in some_studies(15, 12):
            keeper = Keeper(study.history, prices=study.prices)
            keeper.follow(Version(["a", "b"], parents=[0], author="eve"))
            keeper.amend(source.randrange(len(study.history)), ["b", "A"])
            keeper.rates = source.choice(PRICES)
            for _ in range(4):
                self.assertEqual(answers(keeper.study), answers(Study(keeper.history, prices=keeper.rates)))
                if keeper.history != study.history or keeper.rates != study.prices:
                    keeper.undo()

    def test_tellings_of_deeds_are_tellings(self):
        history = the_history()
        for prices in PRICES:
            telling = telling_of(history, 1, [("bring", 0, 0, 2, 0), ("move", 0, 1, 1)], prices=prices)
            self.assertIs(is_telling(history, 1, telling, prices=prices), True)
            self.assertGreaterEqual(price_of(history, 1, telling, prices=prices), cheapest_price(Study(history, prices=prices), 1))

    def test_a_note_stays_with_its_line(self):
        notes = Notes(Study(the_history(), prices=Prices(piece=HALF)))
        notes.put((0, 1), "todo")
        self.assertEqual([notes.at(0, 1), notes.at(1, 0), notes.at(1, 1)], [(("todo",), ()), (("todo",), ()), ((), ())])
