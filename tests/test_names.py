"""Names, fresh names, worths and gaps [3]."""

import unittest

from leaveledger import names

RESERVED = (
    "asker group thing badge tag number flag asked action duty tie never walk when role gate let bar on from to by "
    "is may rank due and or not always now ask any table final node rule"
).split()


class NamesTest(unittest.TestCase):
    def test_names(self):
        for word in ("a", "z", "ab", "abcdefgh", "a1234567", "z0", "zaz", "azz", "az", "x9z"):
            self.assertIs(names.is_name(word), True, word)

    def test_no_names(self):
        for word in ("", "abcdefghi", "zz", "zz0", "zza", "0a", "1", "A", "aB", "a_", "a b", " a", "a\n", "-a", "@a",
                     "\u00e4", "a\u00e4", "a\u0661", None, 1, True, ("a",), ["a"], b"a"):
            self.assertIs(names.is_name(word), False, word)

    def test_reserved_words(self):
        self.assertEqual(len(RESERVED), 37)
        for word in RESERVED:
            self.assertIs(names.is_name(word), False, word)
            self.assertIs(names.is_name(word + "x"), True, word)
            self.assertIs(names.is_name("x" + word), True, word)
            self.assertIs(names.is_name(word[:-1]), word[:-1] not in RESERVED, word)

    def test_fresh_names(self):
        for word in ("zz0", "zz1", "zz9", "zz10", "zz99", "zz100", "zz999"):
            self.assertIs(names.is_fresh(word), True, word)
        for word in ("zz", "zz00", "zz01", "zz1000", "zz-1", "zz 1", "zza", "z0", "zzz0", "ZZ0", "a", "", "zz\u0661",
                     None, 0, ("zz0",)):
            self.assertIs(names.is_fresh(word), False, word)

    def test_worths_and_gaps(self):
        for number, worth, gap in ((0, True, True), (9999, True, True), (10000, False, False), (-1, False, True),
                                   (-9999, False, True), (-10000, False, False)):
            self.assertIs(names.is_worth(number), worth, number)
            self.assertIs(names.is_gap(number), gap, number)
        for thing in (True, False, None, "0", (0,), [0]):
            self.assertIs(names.is_worth(thing), False, thing)
            self.assertIs(names.is_gap(thing), False, thing)


if __name__ == "__main__":
    unittest.main()
