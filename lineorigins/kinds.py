"""The kinds of plain values that the whole package asks for."""

MOST_NAME_LETTERS = 8
MOST_COUNT_DIGITS = 30


def is_whole(value):
    """Whether the value is an integer; True and False never stand for one."""
    return isinstance(value, int) and not isinstance(value, bool)


def is_count(value):
    return is_whole(value) and value >= 0


def is_index(value, size):
    """Whether the value is the index of one of so many things."""
    return is_count(value) and value < size


def is_listing(value):
    return isinstance(value, (list, tuple))


def is_plain(text):
    """Whether a string consists of the characters from space to ~."""
    return all([" " <= mark <= "~" for mark in text])


def is_name(value):
    if not isinstance(value, str) or not 1 <= len(value) <= MOST_NAME_LETTERS:
        return False
    return all(["a" <= letter <= "z" for letter in value])


def is_digits(word, most):
    """Whether a string consists of decimal digits, at least one and at most so many."""
    return 1 <= len(word) <= most and all(["0" <= digit <= "9" for digit in word])


def is_written_count(word):
    """Whether a string is a count as written: digits, not too many, without leading zeros."""
    return is_digits(word, MOST_COUNT_DIGITS) and (word == "0" or not word.startswith("0"))


def are_written_counts(words):
    return all([is_written_count(word) for word in words])
