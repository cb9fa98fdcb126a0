"""Points 2 and 15: notes that are read and shown, and texts that are none."""

import unittest

from loanplan.errors import LoanError, NoNote
from loanplan.notes import read, shown

# The largest number of thirty figures.
THIRTY = 10 ** 30 - 1
GOOD = {
    "pay 3 500": ("pay", 3, 500),
    "pay 0 0": ("pay", 0, 0),
    "pay 0 1": ("pay", 0, 1),
    "pay 100001 0": ("pay", 100001, 0),
    "pay 1234567890 9876543210": ("pay", 1234567890, 9876543210),
    "rate 365 90": ("rate", 365, 90),
    "rate 0 0": ("rate", 0, 0),
    "rate 7 100001": ("rate", 7, 100001),
    "owe 30": ("owe", 30),
    "owe 0": ("owe", 0),
    "owe 100": ("owe", 100),
    f"pay {THIRTY} {10 ** 29}": ("pay", THIRTY, 10 ** 29),
    f"rate {10 ** 29} {THIRTY}": ("rate", 10 ** 29, THIRTY),
    f"owe {THIRTY}": ("owe", THIRTY),
}
KINDS = {"pay": ["3", "500"], "rate": ["3", "500"], "owe": ["3"]}
NO_NUMBERS = [
    "", "x", "3x", "x3", "-3", "+3", "-0", "+0", "--3", "3-", "00", "03", "007", "000", "0" * 30, "0" + "9" * 29,
    "1" * 31, "0" * 31, "9" * 41, "3.0", "3.", ".3", "3,0", "1_000", "0x3", "1e3", "three", "'3'", "(3)", "\t3", "3\n",
]


class NotesTest(unittest.TestCase):
    def refused(self, line):
        with self.assertRaises(LoanError) as told:
            read(line)
        self.assertIs(type(told.exception), NoNote, line)

    def test_notes_are_read(self):
        for line, note in GOOD.items():
            told = read(line)
            self.assertEqual(told, note)
            self.assertIs(type(told), tuple)
            self.assertEqual([type(part) for part in told], [str] + [int] * (len(note) - 1))

    def test_notes_are_shown(self):
        for line, note in GOOD.items():
            told = shown(note)
            self.assertEqual(told, line)
            self.assertIs(type(told), str)
            self.assertEqual(shown(read(line)), line)

    def test_each_figure(self):
        for figure in range(10):
            self.assertEqual(read(f"owe {figure}"), ("owe", figure))
            self.assertEqual(read(f"pay 1{figure} 2{figure}"), ("pay", 10 + figure, 20 + figure))
            self.assertEqual(shown(("rate", figure, 30 + figure)), f"rate {figure} 3{figure}")

    def test_what_is_no_number(self):
        for word, numbers in KINDS.items():
            read(" ".join([word] + numbers))
            for at in range(len(numbers)):
                for bad in NO_NUMBERS:
                    self.refused(" ".join([word] + numbers[:at] + [bad] + numbers[at + 1:]))

    def test_signs_beside_the_figures(self):
        for sign in range(32, 127):
            if chr(sign) not in "0123456789":
                self.refused("owe " + chr(sign))
                self.refused("owe 1" + chr(sign))
                self.refused("pay 5 " + chr(sign) + "1")
                self.refused("pay 1" + chr(sign) + "1 5")

    def test_thirty_one_figures(self):
        for figures in ["1" + "0" * 30, "9" * 31]:
            for line in [f"pay {figures} 5", f"pay 5 {figures}", f"rate {figures} 5", f"rate 5 {figures}"]:
                self.refused(line)
            self.refused(f"owe {figures}")

    def test_a_blank_too_many_or_too_few(self):
        for word, numbers in KINDS.items():
            line = " ".join([word] + numbers)
            self.refused(" " + line)
            self.refused(line + " ")
            self.refused(line.replace(" ", "  ", 1))
            self.refused(line.replace(" ", "", 1))
            self.refused("  ".join([word] + numbers))
            self.refused("".join([word] + numbers))
        self.refused("pay 3  500")
        self.refused("pay3 500")
        self.refused("rate 3  500")

    def test_other_gaps_than_a_blank(self):
        for gap in ["\t", "\n", "-", "_", ",", ":", "\r\n"]:
            self.refused(f"pay{gap}3 500")
            self.refused(f"pay 3{gap}500")
            self.refused(f"owe{gap}3")
            self.refused(f"owe 3{gap}")

    def test_a_number_too_many_or_too_few(self):
        for line in ["pay", "pay ", "pay 3", "pay 3 500 1", "rate", "rate 3", "rate 3 5 1", "owe", "owe ", "owe 3 5"]:
            self.refused(line)

    def test_other_words_and_great_letters(self):
        words = ["Pay", "PAY", "paY", "pays", "paid", "pa", "p", "Rate", "RATE", "rates", "Owe", "OWE", "owed", "ow"]
        for word in words + ["change", "stand", "plan", "0", "1", "3", "", "-", "pay,", '"pay"', "payrate"]:
            self.refused(f"{word} 3 500")
            self.refused(f"{word} 3")
            self.refused(word)

    def test_a_word_of_another_kind_of_note(self):
        for line in ["pay pay 3", "pay 3 pay", "owe pay 3 5", "3 pay 500", "3 500 pay", "3 owe", "pay 3 500 owe 3"]:
            self.refused(line)

    def test_empty_texts(self):
        for line in ["", " ", "  ", "   "]:
            self.refused(line)


if __name__ == "__main__":
    unittest.main()
