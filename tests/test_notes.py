"""Notes (point 23, and notes.py)."""

import random

from lineorigins import notes as module
from lineorigins.errors import InvalidLine, InvalidName, InvalidNumber
from lineorigins.histories import History, Version
from lineorigins.keepers import Keeper
from lineorigins.notes import Notes
from lineorigins.pairs import relation
from lineorigins.prices import Prices
from lineorigins.ratios import Ratio
from lineorigins.studies import Study
from tests.examples import run_example
from tests.samples import HALF, long_studies, samples, the_history, the_study
from tests.support import AGREEABLE, NO_STRINGS, RUDE, Case, digits, no_indices

EXAMPLE = """
>>> from lineorigins.histories import History, Version
>>> from lineorigins.ratios import Ratio
>>> from lineorigins.prices import Prices
>>> from lineorigins.studies import Study
>>> from lineorigins.notes import Notes
>>> history = History([Version(['a', 'b']), Version(['b', 'a'], parents=[0], author='ann'), Version(['a'], parents=[1])])
>>> study = Study(history, prices=Prices(piece=Ratio(1, 2)))
>>> notes = Notes(study)
>>> notes.put((0, 0), 'todo')
>>> [notes.at(2, 0), notes.at(1, 0)]
[(('todo',), ()), ((), ())]
"""
# Values that are no place of a line of the document's example.
NO_PLACES = [
    None, True, 0, "", "00", b"00", [], [0, 0], {}, {0, 1}, (), (0,), (0, 0, 0), (3, 0), (0, 2), (2, 1), (-1, 0), (0, -1), (True, 0),
    (0, True), (False, False), ("0", 0), (0, "0"), (0.0, 0), (0, 0.0), (Ratio(0), 0), (0, Ratio(0)), (None, 0), (0, None),
    (digits(200), 0), (0, digits(200)), ((0, 0),), (RUDE, 0), (0, RUDE), (AGREEABLE, 0), (0, AGREEABLE), RUDE, AGREEABLE, Version]
NO_NAMES = [*NO_STRINGS, "", "abcdefghi", "Todo", "to do", "a1", "a_", "a\n", " ", "TODO", "-", "a" * 200]


class TestListed(Case):
    """The answers beside all tellings of the whole history."""

    def test_notes_of_lines(self):
        source = random.Random(12)
        seen = set()
        for study, listing in samples()[1::3]:
            if listing.count_whole() > 300:
                continue
            notes, put = Notes(study), {}
            for place in listing.places:
                for note in source.sample(["a", "b", "c", "todo", "zz"], source.choice([0, 1, 1, 2])):
                    notes.put(place, note)
                    put.setdefault(place, []).append(note)
            ends = [{place: listing.chain(links, place)[-1] for place in listing.places} for links in listing.whole()]
            for place in listing.places:
                sure, possible = set(), set()
                for other in put:
                    same = [at[place] == at[other] for at in ends]
                    if all(same):
                        sure.update(put[other])
                    elif any(same):
                        possible.update(put[other])
                wanted = (tuple(sorted(sure)), tuple(sorted(possible - sure)))
                self.assert_same(notes.at(*place), wanted)
                seen.add((len(wanted[0]) > 0, len(wanted[1]) > 0, len(possible & sure) > 0))
        self.assertEqual(seen, {(False, False, False), (False, True, False), (True, False, False), (True, True, False),
                                (True, False, True), (True, True, True)})


class TestNotes(Case):

    def test_example(self):
        self.assertEqual(*run_example(EXAMPLE))

    def test_no_notes(self):
        notes = Notes(the_study())
        self.assert_same([notes.at(number, index) for number, index in [(0, 0), (0, 1), (1, 0), (1, 1), (2, 0)]], [((), ())] * 5)

    def test_put_and_take(self):
        notes = Notes(the_study())
        self.assertIsNone(notes.put((0, 0), "todo"))
        self.assertIsNone(notes.put((0, 0), "a"))
        self.assert_same(notes.at(0, 0), (("a", "todo"), ()))
        self.assertIsNone(notes.put((0, 0), "todo"))
        self.assert_same(notes.at(0, 0), (("a", "todo"), ()))
        self.assertIs(notes.take((0, 0), "todo"), True)
        self.assert_same(notes.at(0, 0), (("a",), ()))
        self.assertIs(notes.take((0, 0), "todo"), False)
        self.assertIs(notes.take((0, 0), "b"), False)
        self.assertIs(notes.take((0, 1), "a"), False)
        self.assertIs(notes.take((1, 1), "a"), False)
        self.assertIs(notes.take((0, 0), "a"), True)
        self.assert_same(notes.at(0, 0), ((), ()))
        self.assertIs(notes.take((0, 0), "a"), False)
        notes.put((0, 0), "a")
        self.assert_same(notes.at(0, 0), (("a",), ()))

    def test_the_same_note_at_several_places_counts_once(self):
        notes = Notes(the_study())
        for place in [(0, 0), (1, 1), (2, 0)]:
            notes.put(place, "todo")
            notes.put(place, "b")
        self.assert_same(notes.at(1, 1), (("b", "todo"), ()))
        self.assertIs(notes.take((0, 0), "todo"), True)
        self.assert_same(notes.at(0, 0), (("b", "todo"), ()))
        self.assertIs(notes.take((2, 0), "todo"), True)
        self.assertIs(notes.take((2, 0), "todo"), False)
        self.assert_same(notes.at(0, 0), (("b", "todo"), ()))
        self.assertIs(notes.take((1, 1), "todo"), True)
        self.assert_same(notes.at(0, 0), (("b",), ()))

    def test_surely_perhaps_and_never(self):
        study = Study(the_history())
        self.assertEqual([relation(study, (1, 1), place) for place in [(0, 0), (1, 1), (2, 0), (1, 0)]],
                         ["perhaps", "surely", "perhaps", "never"])
        notes = Notes(study)
        for place, note in [((0, 0), "b"), ((1, 1), "sure"), ((2, 0), "a"), ((1, 0), "never"), ((0, 0), "sure"),
                            ((2, 0), "b")]:
            notes.put(place, note)
        self.assert_same(notes.at(1, 1), (("sure",), ("a", "b")))
        self.assert_same(notes.at(0, 0), (("b", "sure"), ("a",)))
        self.assert_same(notes.at(2, 0), (("a", "b"), ("sure",)))
        self.assert_same(notes.at(0, 1), ((), ("never",)))
        self.assert_same(notes.at(1, 0), (("never",), ()))

    def test_a_line_that_perhaps_comes_from_elsewhere_is_the_same_as_itself(self):
        notes = Notes(Study(the_history()))
        notes.put((2, 0), "todo")
        self.assert_same(notes.at(2, 0), (("todo",), ()))

    def test_sorted(self):
        notes = Notes(the_study())
        names = ["b", "ab", "a", "zzzzzzzz", "aa", "ba", "abcdefgh"]
        for name in names:
            notes.put((0, 1), name)
        self.assert_same(notes.at(1, 0), (tuple(sorted(names)), ()))

    def test_moved_to_an_equal_study(self):
        notes = Notes(the_study())
        notes.put((0, 0), "todo")
        moved = notes.moved_to(the_study())
        self.assertIs(type(moved), Notes)
        self.assertIsNot(moved, notes)
        self.assert_same(moved.at(2, 0), (("todo",), ()))
        moved.put((0, 0), "more")
        notes.put((0, 1), "other")
        self.assertIs(moved.take((0, 0), "todo"), True)
        self.assert_same([notes.at(2, 0), notes.at(1, 0)], [(("todo",), ()), (("other",), ())])
        self.assert_same([moved.at(2, 0), moved.at(1, 0)], [(("more",), ()), ((), ())])
        self.assertIs(notes.take((0, 0), "more"), False)

    def test_moved_to_a_study_that_lacks_places(self):
        notes = Notes(the_study())
        for place in [(0, 0), (0, 1), (1, 0), (1, 1), (2, 0)]:
            notes.put(place, "abcdefgh"[place[0] * 2 + place[1]])
        smaller = Study(History([Version(["a"]), Version(["b", "a"], parents=[0])]), prices=Prices(piece=HALF))
        moved = notes.moved_to(study=smaller)
        self.assert_same([moved.at(0, 0), moved.at(1, 0), moved.at(1, 1)],
                         [(("a", "d"), ()), (("c",), ()), (("a", "d"), ())])
        place = (0, 1)
        self.assert_refused(InvalidLine, place, moved.take, place, "b")
        # What was left out is not there when the notes are moved back.
        back = moved.moved_to(the_study())
        self.assertIs(back.take((0, 1), "b"), False)
        self.assertIs(back.take((1, 1), "d"), True)
        self.assertIs(notes.take((0, 1), "b"), True)
        self.assert_same(Notes(the_study()).moved_to(Study(History())).moved_to(the_study()).at(0, 0), ((), ()))
        self.assert_same(notes.moved_to(Study(History())).moved_to(the_study()).at(0, 0), ((), ()))

    def test_moved_to_other_prices_and_lines(self):
        notes = Notes(the_study())
        notes.put((0, 0), "todo")
        dear = notes.moved_to(Study(the_history(), prices=Prices(piece=2)))
        self.assert_same([dear.at(0, 0), dear.at(2, 0)], [(("todo",), ()), ((), ())])
        usual = dear.moved_to(Study(the_history()))
        self.assert_same([usual.at(0, 0), usual.at(2, 0)], [(("todo",), ()), ((), ("todo",))])
        keeper = Keeper(the_history(), prices=Prices(piece=HALF))
        keeper.amend(0, ["c", "b"])
        moved = notes.moved_to(keeper.study)
        self.assert_same([moved.at(0, 0), moved.at(2, 0)], [(("todo",), ()), ((), ())])

    def test_notes_keep_their_study(self):
        """Changes of a keeper do not reach the notes that were made for its study."""
        keeper = Keeper(the_history(), prices=Prices(piece=HALF))
        notes = Notes(keeper.study)
        notes.put((0, 0), "todo")
        keeper.amend(0, [])
        self.assert_same(notes.at(2, 0), (("todo",), ()))

    def test_long(self):
        for study in long_studies():
            notes = Notes(study)
            places = [(number, index) for number in [0, 3, 9] for index in range(len(study.history.version(number)))][::3]
            names = {place: "abcdefgh"[at % 8] * (at // 8 + 1) for at, place in enumerate(places)}
            for place in places:
                notes.put(place, names[place])
            for place in places[::3]:
                words = {other: relation(study, place, other) for other in places}
                sure = sorted([names[other] for other in places if words[other] == "surely"])
                possible = sorted([names[other] for other in places if words[other] == "perhaps"])
                self.assert_same(notes.at(*place), (tuple(sure), tuple(possible)))

    def test_by_name(self):
        notes = Notes(study=the_study())
        notes.put(note="todo", place=(0, 0))
        self.assertEqual(notes.at(index=0, number=2), (("todo",), ()))
        self.assertIs(notes.take(note="todo", place=(0, 0)), True)
        self.assert_own_methods(Notes, "__init__", "put", "take", "at", "moved_to")
        self.assertEqual(Notes.__module__, module.__name__)

    def test_two_notes_of_one_study(self):
        study = the_study()
        one, other = Notes(study), Notes(study)
        one.put((0, 0), "todo")
        self.assert_same(other.at(0, 0), ((), ()))


class TestWrongValues(Case):

    def test_no_place(self):
        notes = Notes(the_study())
        notes.put((0, 0), "todo")
        for value in NO_PLACES:
            for note in ["todo", "", None, RUDE]:
                self.assert_refused(InvalidLine, value, notes.put, value, note)
                self.assert_refused(InvalidLine, value, notes.take, value, note)
        self.assert_same([notes.at(0, 0), notes.at(0, 1)], [(("todo",), ()), ((), ())])

    def test_no_name(self):
        notes = Notes(the_study())
        notes.put((0, 0), "todo")
        for value in NO_NAMES:
            for place in [(0, 0), (1, 0)]:
                self.assert_refused(InvalidName, value, notes.put, place, value)
                self.assert_refused(InvalidName, value, notes.take, place, value)
        self.assert_same([notes.at(0, 0), notes.at(1, 0)], [(("todo",), ()), ((), ())])

    def test_no_version_and_no_line(self):
        notes = Notes(the_study())
        for value in no_indices(3):
            self.assert_refused(InvalidNumber, value, notes.at, value, 0)
            self.assert_refused(InvalidNumber, value, notes.at, value, "no")
        for number, size in [(0, 2), (1, 2), (2, 1)]:
            for value in no_indices(size):
                self.assert_refused(InvalidNumber, value, notes.at, number, value)
        number, index = digits(30), digits(31)
        self.assert_refused(InvalidNumber, number, notes.at, number, index)

    def test_no_versions(self):
        notes = Notes(Study(History()))
        for place in [(0, 0), (0, 1)]:
            self.assert_refused(InvalidLine, place, notes.put, place, "a")
            self.assert_refused(InvalidLine, place, notes.take, place, "a")
        self.assert_refused(InvalidNumber, 0, notes.at, 0, 0)
