"""A slow reader of notes by regular expressions, with which the tests of notes compare the program."""

import re
from random import Random

from fourcords.errors import BadNotation

WHOLE = "(0|[1-9][0-9]*)"
ABOVE_0 = "([1-9][0-9]*)"
SIGNED = "(?:0|-?[1-9][0-9]*)"
NUMBER_300 = 10 ** 299 + 7


def fault_of(text, first_form, line_form, fits):
    """The number of the first faulty line, or None; the reader does not look at lowest terms.

    line_form(numbers) is the expression for a line behind the first one; fits(numbers) tells whether
    the numbers of the first line may stand there, and fits(numbers, more) the same for another line.
    """
    pieces = re.findall(r"[^\n]*\n|[^\n]+", text)
    if not pieces:
        return 1
    first = re.fullmatch(first_form + r"\n", pieces[0])
    numbers = first and [int(word) for word in first.groups()]
    if not numbers or not fits(numbers):
        return 1
    for at in range(1, numbers[0] + 1):
        line = at < len(pieces) and re.fullmatch(line_form(numbers) + r"\n", pieces[at])
        if not line or not fits(numbers, [int(word) for word in line.groups()]):
            return at + 1
    return numbers[0] + 2 if len(pieces) > numbers[0] + 1 else None


def changed_texts(random, text):
    """Texts that differ a little from this one."""
    letters = " \n0123456789-+_:/.,ax"
    lines = text.split("\n")
    for _ in range(60):
        at = random.randint(0, len(text))
        yield text[:at] + random.choice(letters) + text[at:]
        yield text[:at] + text[at + 1:]
        yield text[:at] + random.choice(letters) + text[at + 1:]
        yield text[:at]
    numbers = list(re.finditer("[0-9]+", text))
    for found in numbers:
        for word in ("0", "-0", "00", "+1", "-1", "01", "1_0", "", " 1", "1 ", "--1", "61", "11", "101", "2", "1e1", "1.0"):
            yield text[:found.start()] + word + text[found.end():]
    for at in range(len(lines)):
        yield "\n".join(lines[:at] + lines[at + 1:])
        yield "\n".join(lines[:at] + [lines[at]] + lines[at:])
        yield "\n".join(lines[:at] + [""] + lines[at:])
        yield "\n".join(lines[:at] + [" " + lines[at]] + lines[at + 1:])
        yield "\n".join(lines[:at] + [lines[at] + " "] + lines[at + 1:])
        yield "\n".join(lines[:at] + [lines[at].upper()] + lines[at + 1:])


class Notes:
    """What is checked for each kind of note; the classes of tests tell write, read, fault and samples."""

    def fault(self, text):
        """The number of the faulty line that the program tells, or None."""
        try:
            self.read(text)
        except BadNotation as error:
            return error.line
        return None

    def check_faults(self, faults):
        for text, line in faults:
            with self.subTest(text):
                self.assertEqual(self.fault(text), line)

    def test_what_is_written_is_read_back(self):
        for told in self.samples():
            text = self.write(told)
            self.assertIs(type(text), str)
            self.assertTrue(self.read(text) == told)
            self.assertIsNone(self.expected_fault(text))
            self.assertEqual(self.write(self.read(text)), text)

    def test_changed_texts(self):
        random = Random(1)
        good = bad = 0
        for told in self.samples():
            text = self.write(told)
            if len(text) > 150:
                continue
            for other in changed_texts(random, text):
                expected = self.expected_fault(other)
                # A text that is read is the one that is written for what was read.
                if expected is None:
                    good += 1
                    self.assertEqual(self.write(self.read(other)), other)
                else:
                    bad += 1
                    self.assertEqual(self.fault(other), expected, repr(other))
        self.assertGreater(min(good, bad), 50)

    def test_the_empty_string_and_newlines(self):
        self.check_faults([("", 1), ("\n", 1), ("\n\n", 1), (" ", 1), (" \n", 1), ("a", 1), ("0\n", 1)])
        for told in self.samples():
            text = self.write(told)
            lines = text.count("\n")
            self.check_faults([(text[:-1], lines), (text + "\n", lines + 1), (text + "a", lines + 1),
                               (text + " ", lines + 1), (text + text, lines + 1), (" " + text, 1), ("\n" + text, 1),
                               (text[:-1] + " \n", lines)])
            # Lines are missing, the last one that is left is ended or not.
            pieces = text.splitlines(keepends=True)
            for count in range(lines):
                self.check_faults([("".join(pieces[:count]), count + 1),
                                   ("".join(pieces[:count]) + pieces[count][:-1], count + 1)])
