"""Notes at places of lines; each belongs to its line, wherever that stands."""

from lineorigins.errors import InvalidName
from lineorigins.kinds import is_name
from lineorigins.pairs import relation
from lineorigins.places import check_place, is_place, line_of


class Notes:
    """Names that are attached to places of lines of one study."""

    def __init__(self, study):
        self._study = study
        self._notes = {}

    def put(self, place, note):
        """Add a note at a place."""
        self._check(place, note)
        self._notes.setdefault(place, {})[note] = True

    def take(self, place, note):
        """Remove a note from a place; tells whether it was there."""
        self._check(place, note)
        notes = self._notes.get(place, {})
        if note not in notes:
            return False
        del notes[note]
        return True

    def at(self, number, index):
        """The notes of what is surely the same line, and the further ones of what is perhaps the same line, sorted."""
        line_of(self._study.history, number, index)
        found = {"surely": {}, "perhaps": {}, "never": {}}
        for place, notes in self._notes.items():
            word = relation(self._study, (number, index), place)
            for note in notes:
                found[word][note] = True
        possible = [note for note in found["perhaps"] if note not in found["surely"]]
        return _in_order(found["surely"]), _in_order(possible)

    def moved_to(self, study):
        """The notes, with the same places, for another study, without those at places that it does not have."""
        moved = Notes(study)
        for place, note in self._all():
            if is_place(study.history, place):
                moved.put(place, note)
        return moved

    def _all(self):
        """All places with their notes, one by one."""
        return [(place, note) for place, notes in self._notes.items() for note in notes]

    def _check(self, place, note):
        check_place(self._study.history, place)
        if not is_name(note):
            raise InvalidName(note)


def _in_order(notes):
    return tuple(sorted([str(note) for note in notes]))
