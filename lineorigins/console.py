"""A console: it is told commands and answers with strings."""

from lineorigins.cheapest import cheapest_price, count_cheapest, possible_links
from lineorigins.errors import InvalidCommand
from lineorigins.formats import parse_history
from lineorigins.keepers import Keeper
from lineorigins.kinds import are_written_counts
from lineorigins.origins import LineAt, lines_at, origins, touches
from lineorigins.pairs import relation
from lineorigins.places import format_link, format_place
from lineorigins.prices import Prices
from lineorigins.steps import steps

# How many numbers stand behind the word of a question.
NUMBERS = {
    "links": 2, "origins": 2, "touches": 2, "sure": 2, "same": 4, "count": 1, "price": 1, "steps": 0, "blame": 1}


class Console:
    """Has a keeper once a history is loaded."""

    def __init__(self):
        self._keeper = None

    def run(self, line):
        """The answer to a command."""
        if not isinstance(line, str) or "\n" in line:
            raise InvalidCommand(line)
        word, space, text = line.partition(" ")
        if word == "load" and space != "":
            self._keeper = Keeper(parse_history(text.replace("; ", "\n")))
            return "ok"
        if self._keeper is None:
            raise InvalidCommand(line)
        if line == "undo":
            self._keeper.undo()
            return "ok"
        if word == "prices" and space != "":
            self._keeper.reprice(Prices.from_text(text, layout=self._keeper.rates.layout))
            return "ok"
        if word == "amend":
            return self._amended(line, text)
        return self._answered(line)

    def _amended(self, line, text):
        """The answer to a line with this text behind the word for amendments."""
        number, _, written = text.partition(" ")
        rows = [] if written == "-" else written.split("; ")
        if not are_written_counts([number]) or not all([row.startswith("|") for row in rows]):
            raise InvalidCommand(line)
        places = self._keeper.amend(int(number), [row[1:] for row in rows])
        return _joined([format_place(place) for place in places])

    def _answered(self, line):
        """The answer to a line that should be a question."""
        words = line.split(" ")
        numbers = words[1:]
        if NUMBERS.get(words[0]) != len(numbers) or not are_written_counts(numbers):
            raise InvalidCommand(line)
        return _answer(self._keeper.study, words[0], [int(number) for number in numbers])


def _answer(study, word, numbers):
    """The answer to a question, of which these are the numbers."""
    if word == "steps":
        return _joined([step.text for step in steps(study)])
    if word == "same":
        return relation(study, (numbers[0], numbers[1]), (numbers[2], numbers[3]))
    if NUMBERS[word] == 1:
        return _answer_of_version(study, word, numbers[0])
    return _answer_of_line(study, word, numbers[0], numbers[1])


def _answer_of_version(study, word, number):
    """The answer to a question about a version."""
    if word == "count":
        return str(count_cheapest(study, number))
    if word == "price":
        return cheapest_price(study, number).text
    return _joined([line.author or "?" for line in lines_at(study, number)])


def _answer_of_line(study, word, number, index):
    """The answer to a question about a line."""
    if word == "links":
        return _joined([format_link(link) for link in possible_links(study, number, index)])
    if word == "origins":
        return _joined([format_place(place) for place in origins(study, number, index)])
    if word == "touches":
        return _joined([format_place(place) for place in touches(study, number, index)])
    return "yes" if LineAt(study, number, index).is_sure else "no"


def _joined(words):
    return " ".join(words) if words else "-"
