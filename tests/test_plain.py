import unittest

from anyfifth.plain import integer_in, is_int, is_short, written


class PlainTest(unittest.TestCase):
    def test_integers_are_no_bools(self):
        for value in (0, 1, -5, 10 ** 70):
            self.assertIs(is_int(value), True)
        for value in (True, False, None, "1", (1,), [1], {}, is_int):
            self.assertIs(is_int(value), False)

    def test_short_integers_have_at_most_40_figures(self):
        for value in (0, 10 ** 40 - 1, 1 - 10 ** 40):
            self.assertIs(is_short(value), True)
        for value in (10 ** 40, -(10 ** 40), True, None, "1"):
            self.assertIs(is_short(value), False)

    def test_written_like_str(self):
        for power in range(0, 4200, 7):
            for number in (10 ** power, 10 ** power - 1, 10 ** power + 10 ** (power // 2), 7 ** power):
                self.assertEqual(written(number), str(number))
                self.assertEqual(written(-number), str(-number))

    def test_written_beyond_what_str_takes(self):
        self.assertEqual(written(10 ** 9000), "1" + "0" * 9000)
        self.assertEqual(written(1 - 10 ** 9000), "-" + "9" * 9000)
        self.assertEqual(written(12 * 10 ** 5000 + 34), "12" + "0" * 4998 + "34")

    def test_integer_in(self):
        for number in (0, 1, -1, 9, 10, -10, 10 ** 60 - 1, 1 - 10 ** 60):
            self.assertEqual(integer_in(str(number), 60), number)
        for word in ("", "-", "-0", "00", "01", "-01", "+1", " 1", "1 ", "1\n", "--1", "1_0", "1.0", "a", "\u0663",
                     "\u00b2", str(10 ** 60), str(-10 ** 60)):
            self.assertIsNone(integer_in(word, 60), word)


if __name__ == "__main__":
    unittest.main()
