"""[1.11], [1.12] the texts of endings and tongues."""

import unittest

from looseorder.errors import BadFrame, BadStock, BadText, BadTongue
from looseorder.frames import Frame
from looseorder.stocks import Stock
from looseorder.tongues import Tongue
from looseorder.tonguetext import ending_text, tongue_from, tongue_text
from support import STRANGE, great, nesting, refuses, some_tongues, two_roles

NESTING = ["roles who whom what far",
           "stock noun who:-a/-a-s whom:-a/-b far:-/-x-y",
           "stock thing whom:-a/-b far:-b/-b",
           "frame say who whom! [what]",
           "frame give who whom far",
           "frame go who!",
           "frame hear whom [what]",
           "rule who far",
           "rule far whom",
           "verbs free"]


def bad(test, place, rows):
    text = "\n".join(rows) if isinstance(rows, list) else rows
    refuses(test, BadText, {"place": place, "what": "row"}, tongue_from, text)


def put(at, row, rows=None):
    rows = list(rows or NESTING)
    rows[at] = row
    return rows


class WriteTest(unittest.TestCase):
    def test_endings(self):
        for ending, text in (((("a", "s")), "-a-s"), (("",), "-"), (["", ""], "--"), (("abc",), "-abc"),
                             (("", "a", "", "zz"), "--a--zz"), (["x"], "-x")):
            self.assertEqual(ending_text(ending), text)

    def test_tongue(self):
        self.assertEqual(tongue_text(nesting("free", 1, [(0, 3), (3, 1)])), "\n".join(NESTING))
        self.assertEqual(tongue_text(two_roles([(1, 0)], "first")),
                         "roles who whom\nstock noun who:-a/-s whom:-a/-t\nframe see who whom\nframe go who\n"
                         "rule whom who\nverbs first")

    def test_the_clause_stands_last(self):
        stock = Stock("n", [(1, ("a",), ("b",)), (2, ("a",), ("b",))])
        tongue = Tongue(["x", "y", "z"], [stock], [Frame("f", (1, 2), 0, 2), Frame("g", (1,))])
        self.assertEqual(tongue_text(tongue).split("\n")[2], "frame f y z! [x]")


class ReadTest(unittest.TestCase):
    def test_read_back(self):
        for tongue in (nesting(), nesting("free", 0, [(0, 3), (3, 1)]), two_roles(), great(), *some_tongues(40, 11, 6)):
            self.assertEqual(tongue_from(tongue_text(tongue)), tongue)

    def test_rules_may_be_told_in_any_order_and_twice(self):
        rows = [*NESTING[:7], "rule far whom", "rule who far", "rule far whom", NESTING[9]]
        self.assertEqual(tongue_from("\n".join(rows)), nesting("free", 1, [(0, 3), (3, 1)]))

    def test_no_string(self):
        for text in (*[thing for thing in STRANGE if not isinstance(thing, str)], NESTING, 5, b"roles who"):
            refuses(self, BadText, {"place": 0, "what": "text"}, tongue_from, text)

    def test_it_ends_too_early(self):
        for many in (1, 2, 3, 4, 6, 7, 8, 9):
            bad(self, many, NESTING[:many])
        bad(self, 0, "")

    def test_a_row_too_many(self):
        for row in ("", "verbs free", "roles who", "rule who far", "x"):
            bad(self, 10, [*NESTING, row])
        bad(self, 10, "\n".join(NESTING) + "\n")

    def test_order_of_rows(self):
        bad(self, 0, NESTING[1:])
        bad(self, 1, [NESTING[0], *NESTING])
        bad(self, 1, [NESTING[0], *NESTING[3:]])
        bad(self, 3, [*NESTING[:3], *NESTING[7:]])
        bad(self, 4, [*NESTING[:4], NESTING[1], *NESTING[4:]])
        bad(self, 8, [*NESTING[:8], NESTING[3], *NESTING[8:]])
        bad(self, 3, [*NESTING[:3], NESTING[9]])
        bad(self, 2, [*NESTING[:2], NESTING[7], *NESTING[3:]])
        bad(self, 8, [*NESTING[:8], NESTING[1], *NESTING[8:]])
        bad(self, 8, [*NESTING[:7], NESTING[9], NESTING[7]])

    def test_row_of_roles(self):
        for row in ("roles", "roles ", "roles who ", "roles  who", " roles who", "role who", "Roles who", "roles Who",
                    "roles abcdefghi", "roles who! whom what far", "roles who\twhom", "roles who whom what far ", "",
                    "roles who whom what f1"):
            bad(self, 0, put(0, row))

    def test_row_of_a_stock(self):
        for row in ("stock", "stock noun", "stock noun ", "stock  who:-a/-b", "stock Noun who:-a/-b",
                    "stock abcdefghi who:-a/-b", "stock noun who", "stock noun who:-a", "stock noun who:-a/",
                    "stock noun who:/-a", "stock noun who:a/-a", "stock noun who:-a/b", "stock noun you:-a/-b",
                    "stock noun :-a/-b", "stock noun who:-a/-b/-c", "stock noun who:-a:-b", "stock noun who:-A/-b",
                    "stock noun who:-a/-1", "stock noun who:-a/-b ", "stock noun who:-a/-b  far:-a/-b",
                    "stock noun who!:-a/-b", "stock noun who:-a/-b:", "stock noun who::-a/-b", "stock who:-a/-b",
                    "stock noun [what]", "stock noun -a/-b", "stock noun who:?/-b", "stock noun who:-a/-\u00e9"):
            bad(self, 1, put(1, row))

    def test_row_of_a_frame(self):
        for row in ("frame", "frame say", "frame say ", "frame say [what]", "frame Say who", "frame abcdefghi who",
                    "frame say you", "frame say who [you]", "frame say [what] who", "frame say who [what] [far]",
                    "frame say who! whom!", "frame say who!!", "frame say who [what]!", "frame say who [what!]",
                    "frame say who []", "frame say who [", "frame say who ]", "frame say who [what",
                    "frame say who what]", "frame say who [whatx", "frame say who xwhat]",
                    "frame say !", "frame say who  whom", "frame say who ", "frame  who", "frame say !who",
                    "frame say who [ what ]", "frame say who! who!", "frame who"):
            bad(self, 3, put(3, row))

    def test_row_of_a_rule(self):
        for row in ("rule", "rule who", "rule who whom far", "rule who you", "rule you who", "rule who ", "rule  who",
                    "rule who! far", "rule who [what]", "Rule who far"):
            bad(self, 7, put(7, row))

    def test_row_of_verbs(self):
        for row in ("verbs", "verbs ", "verbs free last", "verbs Free", "verbs abcdefghi", "verbs  free", "verbs fr1e",
                    "verbs free "):
            bad(self, 9, put(9, row))

    def test_the_first_row_counts(self):
        bad(self, 2, put(5, "x", put(2, "stock x")))
        bad(self, 1, [NESTING[0], "x", "y"])

    def test_shapes_that_are_let(self):
        """These have their shapes; what they tell is refused when it is made."""
        refuses(self, BadTongue, {"index": 0, "what": "roles"}, tongue_from, "\n".join(
            ["roles a b c d e f g", "stock n a:-x/-y", "frame f a", "verbs last"]))
        refuses(self, BadTongue, {"index": 2, "what": "role"}, tongue_from, "\n".join(
            ["roles a b a", "stock n a:-x/-y", "frame f a", "verbs last"]))
        refuses(self, BadTongue, {"index": 0, "what": "verbs"}, tongue_from, "\n".join(put(9, "verbs sideways")))
        refuses(self, BadTongue, {"index": 1, "what": "stock"}, tongue_from, "\n".join(
            put(2, "stock noun whom:-a/-b")))
        refuses(self, BadTongue, {"index": 1, "what": "rule"}, tongue_from, "\n".join(put(8, "rule who who")))
        refuses(self, BadTongue, {"index": 0, "what": "ring"}, tongue_from, "\n".join(put(8, "rule far who")))
        refuses(self, BadTongue, {"index": 0, "what": "rules"}, tongue_from, "\n".join(
            [*NESTING[:7], *["rule who far"] * 31, NESTING[9]]))
        refuses(self, BadTongue, {"index": 0, "what": "stocks"}, tongue_from, "\n".join(
            [NESTING[0], *[f"stock {name} who:-/-" for name in "abcde"], "frame f who", "verbs last"]))
        refuses(self, BadTongue, {"index": 0, "what": "frames"}, tongue_from, "\n".join(
            [*NESTING[:3], *[f"frame {name} who" for name in "abcde"], "verbs last"]))

    def test_the_first_of_equal_names_is_meant(self):
        rows = ["roles a b b", "stock n a:-x/-y b:-x/-y b:-z/-z", "frame f a", "verbs last"]
        refuses(self, BadStock, {"what": "role"}, tongue_from, "\n".join(rows))

    def test_stocks_and_frames_are_made_from_top_to_bottom(self):
        for row, what in (("stock noun who:-abcd/-b", "ending"), ("stock noun who:-a-a-a-a-a/-b", "ending"),
                          ("stock noun who:-a/-b who:-a/-b", "role"), ("stock noun far:-a/-b who:-a/-b", "role"),
                          ("stock noun " + "who:-a/-b " * 6 + "who:-a/-b", "table")):
            refuses(self, BadStock, {"what": what}, tongue_from, "\n".join(put(1, row)))
        for row, what in (("frame say who who", "nouns"), ("frame say whom who", "nouns"),
                          ("frame say who [who]", "clause"), ("frame say who who! [who]", "nouns")):
            refuses(self, BadFrame, {"what": what}, tongue_from, "\n".join(put(3, row)))
        refuses(self, BadStock, {"what": "role"}, tongue_from, "\n".join(
            ["roles a b c d e f g", "stock n g:-x/-y", "frame f a", "verbs last"]))
        refuses(self, BadStock, {"what": "ending"}, tongue_from, "\n".join(
            put(3, "frame say who who", put(1, "stock noun who:-abcd/-b", put(2, "stock noun far:-/- who:-/-")))))
        refuses(self, BadStock, {"what": "role"}, tongue_from, "\n".join(
            put(3, "frame say who who", put(2, "stock noun far:-/- who:-/-"))))
        refuses(self, BadFrame, {"what": "nouns"}, tongue_from, "\n".join(
            put(4, "frame give who [who]", put(3, "frame say who who", put(9, "verbs x")))))

    def test_rows_are_asked_before_anything_is_made(self):
        bad(self, 9, put(9, "verbs", put(1, "stock noun who:-abcd/-b")))


if __name__ == "__main__":
    unittest.main()
