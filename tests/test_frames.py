"""[0.2], [0.9], [0.11], [1.4] frames."""

import unittest

from looseorder.errors import BadFrame
from looseorder.frames import Frame
from support import STRANGE, are_tuples, refuses


class FrameTest(unittest.TestCase):
    def test_attributes_and_slots(self):
        frame = Frame("give", [0, 2, 5], 3, 2)
        self.assertEqual((frame.name, frame.nouns, frame.clause, frame.agreed), ("give", (0, 2, 5), 3, 2))
        self.assertEqual(frame.slots, (0, 2, 3, 5))
        self.assertTrue(are_tuples(frame.nouns) and are_tuples(frame.slots))

    def test_defaults(self):
        frame = Frame("go", (4,))
        self.assertEqual((frame.nouns, frame.clause, frame.agreed, frame.slots), ((4,), None, None, (4,)))
        self.assertEqual(Frame("go", (4,), agreed=4).agreed, 4)
        self.assertEqual(Frame("go", (4,), clause=0).slots, (0, 4))

    def test_the_most(self):
        frame = Frame("abcdefgh", (0, 1, 2, 3, 4), 5, 0)
        self.assertEqual(frame.slots, (0, 1, 2, 3, 4, 5))
        self.assertEqual(Frame("a", (1, 2, 3, 4, 5), 0, 5).slots, (0, 1, 2, 3, 4, 5))

    def test_agreed_may_be_role_nought_or_none(self):
        self.assertEqual(Frame("a", (0, 1), None, 0).agreed, 0)
        self.assertEqual(Frame("a", (1, 2), 0, None).clause, 0)

    def test_name(self):
        for name in (*STRANGE[:5], *STRANGE[6:], "", "abcdefghi", "A", "a1", ["a"]):
            refuses(self, BadFrame, {"what": "name"}, Frame, name, [0])

    def test_nouns(self):
        for nouns in (*STRANGE, (), [], (0, 1, 2, 3, 4, 5), (0, 0), (1, 0), (-1,), (6,), (0, True), (False,),
                      ("0",), ([0],), (None,), (10 ** 30,), "01", {0: 1}, iter([0])):
            refuses(self, BadFrame, {"what": "nouns"}, Frame, "f", nouns)

    def test_clause(self):
        for clause in (*STRANGE[1:], -1, 6, 0, 2, "1", [1], (1,), 10 ** 30):
            refuses(self, BadFrame, {"what": "clause"}, Frame, "f", (0, 2), clause)

    def test_agreed(self):
        for agreed in (*STRANGE[1:], -1, 6, 1, 3, "0", [0], 10 ** 30):
            refuses(self, BadFrame, {"what": "agreed"}, Frame, "f", (0, 2), 3, agreed)
        refuses(self, BadFrame, {"what": "agreed"}, Frame, "f", (1,), None, True)
        refuses(self, BadFrame, {"what": "agreed"}, Frame, "f", (0,), None, False)

    def test_which_is_asked_first(self):
        refuses(self, BadFrame, {"what": "name"}, Frame, "", (), 9, 9)
        refuses(self, BadFrame, {"what": "nouns"}, Frame, "f", (), 9, 9)
        refuses(self, BadFrame, {"what": "clause"}, Frame, "f", (0,), 9, 9)
        refuses(self, BadFrame, {"what": "clause"}, Frame, "f", (0,), 0, 1)

    def test_what_is_passed_in_stays_and_is_not_kept(self):
        nouns = [0, 1]
        frame = Frame("f", nouns)
        self.assertEqual(nouns, [0, 1])
        nouns.append(2)
        self.assertEqual((frame.nouns, frame.slots), ((0, 1), (0, 1)))

    def test_equal(self):
        frame = Frame("f", [0, 1], 2, 1)
        self.assertIs(frame == Frame("f", (0, 1), 2, 1), True)
        self.assertIs(frame != Frame("f", (0, 1), 2, 1), False)
        for other in (Frame("g", (0, 1), 2, 1), Frame("f", (0, 1, 3), 2, 1), Frame("f", (0, 1), 3, 1),
                      Frame("f", (0, 1), None, 1), Frame("f", (0, 1), 2, 0), Frame("f", (0, 1), 2), *STRANGE,
                      ("f", (0, 1), 2, 1)):
            self.assertIs(frame == other, False)
            self.assertIs(frame != other, True)
            self.assertIs(other == frame, False)


if __name__ == "__main__":
    unittest.main()
