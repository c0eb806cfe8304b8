"""[69]: webs and boxes as texts."""

import random
import unittest

from pushtells.boxes import Box
from pushtells.errors import InvalidText
from pushtells.texts import box_text, read_box, read_web, web_text
from pushtells.webs import Web
from tests.helpers import (JUNK, MIXED, PIPES, check_errors, error, great_boxes, no_boxes, no_webs, raised,
                           random_boxes, random_webs)

PAIR = Web(2, [(1, -1, 0, 1), (1, 1)])
PAIR_TEXT = "web 2\ntie 0 + 1 -\ntie 1 +"
PAIR_BOX = Box(PAIR, [(-3, 10 ** 18), (0, 0)], (-7, 0))
BOX_TEXT = "box\n-3 1000000000000000000\n0 0\ntotal -7\ntotal 0"
NO_TEXTS = [value for value in JUNK if not isinstance(value, str)] + [b"web 1", ["web 1"], ("web 1",)]
# What is no integer as Python writes it, or has too many figures.
NO_NUMBERS = ["", "+0", "+1", "00", "01", "-0", "-01", "--1", "-", "1.0", "1e3", "0x1", "1_0", "one", "1\r", "\t1",
              "9" * 41, "-" + "1" * 41, "1" + "0" * 40, "\u0661", "\u00b2", "1-", "None"]


def text_error(at):
    return error(InvalidText, at=at)


def near_texts(text):
    """Texts that are almost this one: blanks, rows, words left out, doubled, changed."""
    rows = text.split("\n")
    yield from (text + "\n", "\n" + text, text + " ", " " + text, text.replace(" ", "  "), text.replace("\n", "\r\n"),
                text.replace("\n", "\n\n"), text.upper(), text.replace(" ", "\t"), text.replace("\n", " \n"), "")
    for at, row in enumerate(rows):
        yield "\n".join(rows[:at] + rows[at + 1:])
        yield "\n".join(rows[:at] + [row, row] + rows[at + 1:])
        words = row.split(" ")
        for place in range(len(words)):
            for word in ([], [words[place]] * 2, [""], ["+"], ["-"], ["0"], ["5"], ["x"], ["+0"], ["-0"]):
                changed = words[:place] + word + words[place + 1:]
                yield "\n".join(rows[:at] + [" ".join(changed)] + rows[at + 1:])


class WebTextTest(unittest.TestCase):
    def test_by_hand(self):
        self.assertEqual(web_text(PAIR), PAIR_TEXT)
        self.assertEqual(web_text(Web(1000, [])), "web 1000")
        self.assertEqual(web_text(PIPES), "web 2" + "\ntie 0 + 1 -" * 3)
        self.assertEqual(read_web(PAIR_TEXT), PAIR)
        self.assertEqual(read_web("web 4\ntie 0 + 3 -\ntie 2 +"), Web(4, [(0, 1, 3, -1), (2, 1)]))

    def test_there_and_back(self):
        for web in random_webs(131, 100, 8, 10) + [MIXED, Web(1, []), Web(1000, []), Web(3, [(0, 1)] * 3000)]:
            self.assertEqual(read_web(web_text(web)), web)
        for web, _ in great_boxes(132):
            self.assertEqual(read_web(web_text(web)), web)

    def test_one_text_for_each_web(self):
        """What is read of a text has just this text."""
        for web in random_webs(133, 30, 4, 4) + [PAIR]:
            for text in near_texts(web_text(web)):
                told = raised(read_web, text)
                self.assertTrue(told[0] is InvalidText if isinstance(told, tuple) else web_text(told) == text, text)

    def test_first_wrong_row(self):
        for row in NO_NUMBERS + ["0", "1001", "-1", "2 2", "2 "]:
            self.assertEqual(raised(read_web, "web " + row + "\nx"), text_error(0), row)
        for text in ("", "web", "web ", "Web 2", " web 2", "web  2", "2", "\nweb 2", "web 2 ", "tie 0 +"):
            self.assertEqual(raised(read_web, text + "\ntie"), text_error(0), text)
        wrong = ["tie", "tie ", "", "tie 0", "tie 0 + 1", "tie 1 - 0 +", "tie 0 + 0 -", "tie 0 + 2 -", "tie 2 +",
                 "tie -1 +",
                 "tie 0 1 1 -", "tie 0 * 1 -", "tie 0 +  1 -", "tie 0 + 1 - ", " tie 0 +", "tie 0 + 1 - 1 +", "total 0",
                 "web 2", "tie + 0", "tie 0 + 1 1", "tie 0 +1", "Tie 0 +", "tie 0 ++"]
        wrong += ["tie " + word + " +" for word in NO_NUMBERS] + ["tie 0 + " + word + " -" for word in NO_NUMBERS]
        for row in wrong:
            self.assertEqual(raised(read_web, "web 2\n" + row + "\ny"), text_error(1), row)
            self.assertEqual(raised(read_web, PAIR_TEXT + "\n" + row), text_error(3), row)
        self.assertEqual(read_web("web 2" + "\ntie 0 +" * 3000).ties, ((0, 1),) * 3000)
        self.assertEqual(raised(read_web, "web 2" + "\ntie 0 +" * 3001), text_error(3001))
        self.assertEqual(raised(read_web, "web 2" + "\ntie 0 +" * 3001 + "\nx"), text_error(3001))

    def test_errors(self):
        texts = [(value, text_error(-1)) for value in NO_TEXTS]
        check_errors(self, web_text, [PIPES], [no_webs()])
        check_errors(self, read_web, ["web 1"], [texts])
        check_errors(self, box_text, [PAIR, PAIR_BOX], [no_webs(), no_boxes(PAIR)])
        check_errors(self, read_box, [PAIR, BOX_TEXT], [no_webs(), texts + [("", text_error(0))]])
        for value in JUNK:
            if isinstance(value, str):
                self.assertEqual(raised(read_web, value), text_error(0))


class BoxTextTest(unittest.TestCase):
    def test_by_hand(self):
        self.assertEqual(box_text(PAIR, PAIR_BOX), BOX_TEXT)
        self.assertEqual(read_box(PAIR, BOX_TEXT), PAIR_BOX)
        bare = Web(1, [])
        self.assertEqual(box_text(bare, Box(bare, [], [5])), "box\ntotal 5")
        self.assertEqual(read_box(bare, "box\ntotal 5"), Box(bare, [], [5]))

    def test_there_and_back(self):
        rng = random.Random(134)
        for web, box in random_boxes(135, 80, 6, 8, 30) + great_boxes(136):
            self.assertEqual(read_box(web, box_text(web, box)), box)
        top = 10 ** 40 - 1
        for _ in range(20):
            least = rng.randint(-top, top)
            box = Box(PAIR, [(-top, top), (least, rng.randint(least, top))], (top, -top))
            self.assertEqual(read_box(PAIR, box_text(PAIR, box)), box)

    def test_numbers_of_more_figures_are_written_alone(self):
        for at, bounds, totals in ((1, [(-10 ** 40, 0), (0, 1)], (0, 0)), (2, [(0, 0), (0, 10 ** 40)], (0, 0)),
                                   (4, [(0, 0), (0, 0)], (0, -10 ** 40)), (3, [(0, 0), (0, 0)], (10 ** 3999, 0))):
            text = box_text(PAIR, Box(PAIR, bounds, totals))
            self.assertIn(str(max(map(abs, [x for pair in bounds for x in pair] + list(totals)))), text)
            self.assertEqual(raised(read_box, PAIR, text), text_error(at))

    def test_one_text_for_each_box(self):
        for web, box in random_boxes(137, 30, 3, 3, 9) + [(PAIR, PAIR_BOX)]:
            for text in near_texts(box_text(web, box)):
                told = raised(read_box, web, text)
                self.assertTrue(told[0] is InvalidText if isinstance(told, tuple) else box_text(web, told) == text,
                                text)

    def test_first_wrong_row(self):
        rows = BOX_TEXT.split("\n")
        wrong = {0: ["", "Box", "box ", " box", "box 2", "web 2", "0 0"],
                 1: ["", "1 0", "0", "0 0 0", "total 0", "0  0", " 0 0", "0 0 "],
                 3: ["", "total", "total ", "0", "0 0", "Total 0", "total 0 0", "total  0", "total 0 "]}
        wrong[1] += [word + " 0" for word in NO_NUMBERS] + ["-9 " + word for word in NO_NUMBERS]
        wrong[3] += ["total " + word for word in NO_NUMBERS]
        wrong[2], wrong[4] = wrong[1], wrong[3]
        for at, texts in wrong.items():
            for text in texts:
                # What stands behind is wrong, too.
                behind = ["?"] * (4 - at)
                self.assertEqual(raised(read_box, PAIR, "\n".join(rows[:at] + [text] + behind)), text_error(at), text)
        for many in range(1, 5):
            self.assertEqual(raised(read_box, PAIR, "\n".join(rows[:many])), text_error(many))
        for more in ("", "total 0", "x\ny"):
            self.assertEqual(raised(read_box, PAIR, BOX_TEXT + "\n" + more), text_error(5))


if __name__ == "__main__":
    unittest.main()
