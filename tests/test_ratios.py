"""Exact fractions (point 4 and ratios.py)."""

import operator

from lineorigins.errors import InvalidNumber, InvalidText
from lineorigins.ratios import Ratio
from tests.examples import run_example
from tests.support import AGREEABLE, NO_STRINGS, NO_WHOLE_NUMBERS, Case, digits

FIRST_EXAMPLE = """
>>> from lineorigins.ratios import Ratio
>>> half = Ratio(2, 4)
>>> [half.text, (half + 1).text, (1 - half).text, half < 1, Ratio.from_text('-3/4').top, Ratio.middle(0, 1) == half]
['1/2', '3/2', '1/2', True, -3, True]
"""
SECOND_EXAMPLE = """
>>> from lineorigins.ratios import Ratio
>>> Ratio(1, 0)
raises InvalidNumber(value=0)
"""
PAIRS = [(a, b) for a in range(-4, 5) for b in [-3, -2, -1, 1, 2, 3, 4]]


def terms(ratio):
    return (ratio.top, ratio.bottom)


class TestMaking(Case):

    def test_examples(self):
        for example in [FIRST_EXAMPLE, SECOND_EXAMPLE]:
            self.assertEqual(*run_example(example))

    def test_lowest_terms(self):
        for args, wanted in [((2, 4), (1, 2)), ((3, 1), (3, 1)), ((3,), (3, 1)), ((0, 5), (0, 1)),
                             ((0, -5), (0, 1)), ((0,), (0, 1)), ((-2, 4), (-1, 2)), ((2, -4), (-1, 2)),
                             ((-2, -4), (1, 2)), ((7, 3), (7, 3)), ((12, 18), (2, 3)), ((-9, 3), (-3, 1)),
                             ((6, -6), (-1, 1))]:
            with self.subTest(args=args):
                self.assert_same(terms(Ratio(*args)), wanted)

    def test_by_name(self):
        self.assertEqual(terms(Ratio(bottom=6, top=4)), (2, 3))
        self.assertEqual(terms(Ratio(top=4)), (4, 1))

    def test_large(self):
        big = digits(200)
        self.assertEqual(terms(Ratio(big * 6, big * 4)), (3, 2))
        self.assertEqual(terms(Ratio(big, 10 ** 199)), (big, 10 ** 199))

    def test_wrong_top(self):
        for value in [*NO_WHOLE_NUMBERS, Ratio(1)]:
            self.assert_refused(InvalidNumber, value, Ratio, value)
            self.assert_refused(InvalidNumber, value, Ratio, value, 2)

    def test_wrong_bottom(self):
        for value in [*NO_WHOLE_NUMBERS, Ratio(1), 0]:
            self.assert_refused(InvalidNumber, value, Ratio, 1, value)
            self.assert_refused(InvalidNumber, value, Ratio, 1, bottom=value)

    def test_wrong_top_comes_first(self):
        for top in NO_WHOLE_NUMBERS:
            for bottom in [0, None, True]:
                self.assert_refused(InvalidNumber, top, Ratio, top, bottom)

    def test_properties_and_methods(self):
        self.assert_fixed(Ratio(1, 2), "top", "bottom", "text")
        self.assert_own_methods(
            Ratio, "__init__", "__add__", "__radd__", "__sub__", "__rsub__", "__mul__", "__rmul__", "__neg__",
            "__abs__", "__bool__", "__eq__", "__ne__", "__lt__", "__le__", "__gt__", "__ge__", "divided",
            "from_text", "middle", "top", "bottom", "text")
        self.assertIsInstance(vars(Ratio)["from_text"], classmethod)
        self.assertIsInstance(vars(Ratio)["middle"], staticmethod)
        self.assertEqual(Ratio.__module__, "lineorigins.ratios")


class TestText(Case):

    def test_text(self):
        for ratio, wanted in [(Ratio(0), "0"), (Ratio(5), "5"), (Ratio(-5), "-5"), (Ratio(4, 2), "2"),
                              (Ratio(1, 2), "1/2"), (Ratio(-6, 4), "-3/2"), (Ratio(1, -10), "-1/10"),
                              (Ratio(digits(200)), str(digits(200)))]:
            self.assert_same(ratio.text, wanted)

    def test_text_of_a_long_result(self):
        big = Ratio(10 ** 199 + 1)
        self.assertEqual((big * big * big).text, str((10 ** 199 + 1) ** 3))

    def test_read_back(self):
        for top, bottom in PAIRS:
            ratio = Ratio(top, bottom)
            read = Ratio.from_text(ratio.text)
            self.assertIs(type(read), Ratio)
            self.assertEqual(terms(read), terms(ratio))

    def test_every_digit_is_read(self):
        for number in [*range(-120, 121), 9876543210, -1029384756]:
            self.assert_same(terms(Ratio.from_text(str(number))), (number, 1))
        self.assert_same(terms(Ratio.from_text("9/1234567890123456790")), (9, 1234567890123456790))
        self.assert_same(terms(Ratio.from_text("-1/99")), (-1, 99))

    def test_200_digits_and_201(self):
        most, beyond = digits(200), digits(201)
        for ratio in [Ratio(most), Ratio(-most), Ratio(1, most), Ratio(-most, most + 1)]:
            self.assertEqual(terms(Ratio.from_text(ratio.text)), terms(ratio))
        for ratio in [Ratio(beyond), Ratio(-beyond), Ratio(1, beyond), Ratio(most, beyond), Ratio(beyond, 2)]:
            text = ratio.text
            self.assert_refused(InvalidText, text, Ratio.from_text, text)
        self.assertEqual(len(str(most)), 200)

    def test_not_written_so(self):
        for text in ["", "-", "/", "1/", "/2", "-/2", "-1/", "2/4", "3/1", "0/1", "0/5", "-0", "-0/3", "00", "01",
                     "-01", "1/02", "01/2", "1/0", "0/0", "1/00", "1/-2", "-1/-2", "+1", "--1", "1/+2", " 1", "1 ",
                     "1 /2", "1/ 2", "1/2/3", "1//2", "1.0", "1e3", "a", "1\n", "\n1", "1_0", "0x1", "1,2",
                     "\u0661", "\u00b2", "1/\u0662", "-3/6", "10/1"]:
            with self.subTest(text=text):
                self.assert_refused(InvalidText, text, Ratio.from_text, text)

    def test_no_text(self):
        for value in [*NO_STRINGS, Ratio(1)]:
            self.assert_refused(InvalidText, value, Ratio.from_text, value)
            self.assert_refused(InvalidText, value, Ratio.from_text, text=value)

    def test_by_name(self):
        self.assertEqual(terms(Ratio.from_text(text="-3/4")), (-3, 4))


class TestArithmetic(Case):

    def check(self, found, top, bottom):
        self.assertIs(type(found), Ratio)
        self.assertEqual(found.top * bottom, top * found.bottom)
        self.assertEqual(terms(found), terms(Ratio(top, bottom)))

    def test_two_ratios(self):
        for a, b in PAIRS:
            for c, d in PAIRS:
                one, other = Ratio(a, b), Ratio(c, d)
                self.check(one + other, a * d + c * b, b * d)
                self.check(one - other, a * d - c * b, b * d)
                self.check(one * other, a * c, b * d)

    def test_integer_on_either_side(self):
        for a, b in PAIRS:
            for number in [-3, -1, 0, 1, 2, digits(200)]:
                ratio = Ratio(a, b)
                self.check(ratio + number, a + number * b, b)
                self.check(number + ratio, a + number * b, b)
                self.check(ratio - number, a - number * b, b)
                self.check(number - ratio, number * b - a, b)
                self.check(ratio * number, a * number, b)
                self.check(number * ratio, a * number, b)

    def test_signs(self):
        for a, b in PAIRS:
            ratio = Ratio(a, b)
            self.check(-ratio, -a, b)
            self.check(abs(ratio), abs(a), abs(b))
            self.assertIs(bool(ratio), a != 0)

    def test_operands_stay(self):
        one, other = Ratio(1, 2), Ratio(1, 3)
        one + other, one - other, one * other, -one, abs(one), one.divided(other), Ratio.middle(one, other)
        self.assertEqual([terms(one), terms(other)], [(1, 2), (1, 3)])

    def test_no_other_operands(self):
        for value in [True, False, None, "1", 0.5, (1,)]:
            for apply in [operator.add, operator.sub, operator.mul]:
                with self.assertRaises(TypeError):
                    apply(Ratio(1), value)
                with self.assertRaises(TypeError):
                    apply(value, Ratio(1))

    def test_divided(self):
        for a, b in PAIRS:
            for c, d in PAIRS:
                if c != 0:
                    self.check(Ratio(a, b).divided(Ratio(c, d)), a * d, b * c)
            for number in [-2, -1, 1, 3]:
                self.check(Ratio(a, b).divided(number), a, b * number)
        self.check(Ratio(1, 2).divided(other=3), 1, 6)

    def test_divided_by_no_such_number(self):
        for value in [*NO_WHOLE_NUMBERS, 0, Ratio(0), Ratio(0, 7)]:
            self.assert_refused(InvalidNumber, value, Ratio(1, 2).divided, value)
            self.assert_refused(InvalidNumber, value, Ratio(0).divided, other=value)

    def test_middle(self):
        for a, b in PAIRS:
            for c, d in PAIRS:
                self.check(Ratio.middle(Ratio(a, b), Ratio(c, d)), a * d + c * b, 2 * b * d)
        self.check(Ratio.middle(1, 2), 3, 2)
        self.check(Ratio.middle(-1, Ratio(1, 3)), -1, 3)
        self.check(Ratio.middle(second=4, first=Ratio(2)), 3, 1)


class TestComparing(Case):

    SIGNS = [operator.lt, operator.le, operator.gt, operator.ge, operator.eq, operator.ne]

    def test_two_ratios(self):
        for a, b in PAIRS:
            for c, d in PAIRS:
                left, right = a * d * (b * d), c * b * (b * d)
                for sign in self.SIGNS:
                    self.assertIs(sign(Ratio(a, b), Ratio(c, d)), sign(left, right))

    def test_integer_on_either_side(self):
        for a, b in PAIRS:
            for number in range(-4, 5):
                left, right = a * b, number * b * b
                for sign in self.SIGNS:
                    self.assertIs(sign(Ratio(a, b), number), sign(left, right))
                    self.assertIs(sign(number, Ratio(a, b)), sign(right, left))

    def test_close_numbers(self):
        big = 10 ** 199
        self.assertIs(Ratio(big + 1, big) > 1, True)
        self.assertIs(Ratio(big, big - 1) > Ratio(big + 1, big), True)

    def test_unequal_to_all_others(self):
        for ratio in [Ratio(0), Ratio(1), Ratio(1, 2)]:
            for value in [*NO_WHOLE_NUMBERS, 0.5, 0.0, "1/2", (1, 2), "0"]:
                self.assertIs(ratio == value, False)
                self.assertIs(ratio != value, True)
        for value in [True, False, None, "1", 1.0, (1, 1)]:
            self.assertIs(value == Ratio(1), False)
            self.assertIs(value != Ratio(1), True)
            self.assertIs(value == Ratio(0), False)
        self.assert_unequal(Ratio(1), AGREEABLE)

    def test_no_order_with_others(self):
        for value in [True, False, None, "1", 0.5]:
            for sign in self.SIGNS[:4]:
                with self.assertRaises(TypeError):
                    sign(Ratio(1), value)
                with self.assertRaises(TypeError):
                    sign(value, Ratio(1))
