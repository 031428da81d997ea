"""Point 16: texts."""

import random
import unittest

from steplinks.errors import BadScheme, BadText, NoImage
from steplinks.layings import image_of
from steplinks.sheets import Scheme, places
from steplinks.texts import image_text, read_image
from helping import deep, far_integers, oddities, random_scheme, written_in

TEXT = "sheet 5\nsteps 1 2\nnumbers 1\n1 2 0\n2 3 1\n3 ? 2\n4 0 3\n0 1 4"


class Texts(unittest.TestCase):
    def refused(self, text, line):
        with self.assertRaises(BadText) as caught:
            read_image(text)
        self.assertEqual(caught.exception.line, line, text[:200] if isinstance(text, str) else text)

    def refused_scheme(self, text, part):
        with self.assertRaises(BadScheme) as caught:
            read_image(text)
        self.assertEqual(caught.exception.part, part, text)

    def with_line(self, at, line):
        """The text with one line, counted from 1, changed."""
        lines = TEXT.split("\n")
        lines[at - 1] = line
        return "\n".join(lines)

    def test_examples(self):
        scheme = Scheme((5,), (1, 2), 1)
        image = written_in(image_of(scheme, (0, 1, 2, 3, 4)), {(2, 1): None})
        self.assertEqual(image_text(scheme, image), TEXT)
        self.assertEqual(read_image(TEXT), (scheme, image))
        self.assertEqual(image_text(Scheme((2, 2), (1, 2), 0), ((None, None), (0, 1), (2, 3), (None, 0))),
                         "sheet 2 2\nsteps 1 2\nnumbers 0\n? ?\n0 1\n2 3\n? 0")

    def test_what_is_written_is_read_back(self):
        rng = random.Random(16)
        for moduli in [(3,), (9,), (2, 5), (2, 3, 4), (400,), (20, 20)]:
            for numbers in range(4):
                scheme = random_scheme(rng, moduli, rng.randint(1, 6), numbers)
                many = places(scheme)
                kinds = len(scheme.steps) + numbers
                for names in [range(many), [None], [None, *range(many)]]:
                    image = tuple(tuple(rng.choice(names) for _ in range(kinds)) for _ in range(many))
                    text = image_text(scheme, image)
                    self.assertEqual(len(text.split("\n")), many + 3)
                    found = read_image(text)
                    self.assertEqual(found, (scheme, image))
                    self.assertEqual([type(found), type(found[1]), type(found[1][0])], [tuple] * 3)
                    self.assertEqual(image_text(*found), text)

    def test_no_string(self):
        for wrong in oddities() + far_integers() + [(), 0, ["sheet 3"], ("sheet 3",), TEXT.split("\n")]:
            if not isinstance(wrong, str):
                before = repr(wrong)
                self.refused(wrong, 0)
                self.assertEqual(repr(wrong), before)

    def test_no_image(self):
        scheme = Scheme((5,), (1, 2), 1)
        image = image_of(scheme, (0, 1, 2, 3, 4))
        for wrong in oddities() + far_integers() + [(), image[1:], image + image[:1], list(image), TEXT,
                                                    written_in(image, {(1, 1): 5}), written_in(image, {(1, 1): "?"}),
                                                    written_in(image, {(1, 1): True}), image[:4] + ((0, 1),)]:
            before = repr(wrong)
            with self.assertRaises(NoImage):
                image_text(scheme, wrong)
            self.assertEqual(repr(wrong), before)

    def test_each_of_the_first_lines(self):
        words = ["sheet", "steps", "numbers"]
        for at, word in enumerate(words, 1):
            number = "5" if at == 1 else "1"
            for line in ["", " ", word.upper() + " 1", word[:-1] + " 1", word + "1", word + "  1", " " + word + " 1",
                         word + " 1 ", word + " 01", word + " 00", word + " 1234567890", word + " -1", word + " +1",
                         word + " 1.0", word + " ?", word + " one", word + " 1 x", word + "\t1", word + " 1\t", "1",
                         "1 " + word, word + ",1", word + " 1_0", word + " " + "9" * 1000, words[at % 3] + " 1"]:
                self.refused(self.with_line(at, line), at)
            # The first of several is told, and ahead of all else that is wrong.
            self.refused(self.with_line(at, "x").replace("4 0 3", "x").replace("sheet 5", "sheet 1"), at)
            lines = self.with_line(at, word + " " + number).split("\n")
            self.refused("\n".join(lines[:at - 1]) if at > 1 else "", at)
            self.refused("\n".join(lines[:at - 1] + lines[at:]), at)
            self.refused("\n".join(lines[:at] + lines[at - 1:]), at + 1 if at < 3 else 4)
        for line in ["numbers", "numbers 0 0", "numbers "]:
            self.refused(self.with_line(3, line), 3)
        self.refused("sheet\nsteps", 3)
        self.refused("sheet", 2)
        self.refused("\n", 1)

    def test_schemes(self):
        for at, line, part in [(1, "sheet", "moduli"), (1, "sheet 0", "moduli"), (1, "sheet 1 5", "moduli"),
                               (1, "sheet 401", "moduli"), (1, "sheet 999999999", "moduli"),
                               (1, "sheet 2 2 2 2", "moduli"), (1, "sheet 2", "moduli"), (2, "steps", "steps"),
                               (2, "steps 0", "steps"), (2, "steps 5", "steps"), (2, "steps 1 1 1 1 1 1 1", "steps"),
                               (3, "numbers 4", "numbers"), (3, "numbers 999999999", "numbers")]:
            self.refused_scheme(self.with_line(at, line), part)
            # Ahead of too few or too many entries, and of lines that lack; behind lines of other signs.
            self.refused_scheme(self.with_line(at, line) + "\n7 7 7 7 7", part)
            self.refused_scheme("\n".join(self.with_line(at, line).split("\n")[:4]), part)
            self.refused(self.with_line(at, line) + "\nx", 9)
        self.refused_scheme("sheet 4\nsteps 2\nnumbers 0\n?\n?\n?\n?", "steps")
        self.refused_scheme("sheet\nsteps\nnumbers 9", "moduli")

    def test_entries(self):
        for at in range(4, 9):
            for line in ["", " ", "0 1 ", " 0 1 2", "0  1 2", "0 1\t2", "0 x 2", "0 -1 2", "0 01 2", "0 00 2", "0 ?? 2",
                         "0 1234567890 2", "0 None 2", "numbers 1", "0,1,2", "? ? +1"]:
                self.refused(self.with_line(at, line), at)
            for line in ["0 1", "0 1 2 3", "?", "0", "? ? ? ?", "5 0 0", "0 0 5", "0 400 0", "0 999999999 0"]:
                self.refused(self.with_line(at, line), at)
                # What is no row of integers at all is told first, wherever it is.
                self.refused(self.with_line(at, line) + "\nx", 9)
            # Of the others the first one.
            self.refused(self.with_line(at, "0 1") + "\n0 1 2", at)

    def test_lines_too_few_or_too_many(self):
        lines = TEXT.split("\n")
        for many in range(3, 8):
            self.refused("\n".join(lines[:many]), many + 1)
        self.refused("\n".join(lines[:5] + lines[6:]), 8)
        for more in ["0 1 2", "? ? ?", "0", ""]:
            self.refused(TEXT + "\n" + more, 9)
        self.refused(TEXT + "\n0 1 2\n0 1 2", 9)
        self.refused(TEXT + "\n\n", 9)
        self.refused("\n" + TEXT, 1)
        self.refused(TEXT.replace("\n", " "), 1)
        self.refused(TEXT + "\n0 1 2" * 20000, 9)

    def test_a_line_twice(self):
        lines = TEXT.split("\n")
        for at in range(3, 8):
            self.refused("\n".join(lines[:at + 1] + lines[at:]), 9)

    def test_any_signs(self):
        rng = random.Random(161)
        for _ in range(300):
            text = list(TEXT)
            for _ in range(rng.randint(1, 2)):
                text[rng.randrange(len(text))] = rng.choice(["", " ", "\n", "0", "9", "?", "x", "\t", "-"])
            text = "".join(text)
            try:
                scheme, image = read_image(text)
            except (BadText, BadScheme):
                continue
            self.assertEqual(image_text(scheme, image), text)

    def test_deep_things(self):
        for make in [lambda inner: [inner], lambda inner: (inner,), lambda inner: {"a": inner}]:
            self.refused(deep(make, leaf=TEXT), 0)


if __name__ == "__main__":
    unittest.main()
