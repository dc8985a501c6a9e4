"""[1.11], [1.12] the texts of heard rows."""

import unittest

from looseorder.errors import BadText
from looseorder.heard import heard_of, swallow
from looseorder.heardtext import heard_from, heard_text
from looseorder.speaking import saying_of
from support import STRANGE, are_tuples, nesting, refuses, some_tongues, two_roles, walk_patterns

ROW = (("noun", "man", 0, ("a", "s")), ("noun", "dog", 1, None), ("noun", "zzzzzz", 0, ("",)), ("verb", 2, "many"),
       ("verb", 0, None), ("verb", 1, "one"))
TEXT = "man:noun:-a-s dog:thing:? zzzzzz:noun:- go.many say give.one"


def bad(test, place, what, text):
    refuses(test, BadText, {"place": place, "what": what}, heard_from, nesting(), text)


class WriteTest(unittest.TestCase):
    def test_row(self):
        self.assertEqual(heard_text(nesting(), ROW), TEXT)
        as_lists = [[list(part) if isinstance(part, tuple) else part for part in piece] for piece in ROW]
        self.assertEqual(heard_text(nesting(), as_lists), TEXT)
        self.assertEqual(as_lists[0], ["noun", "man", 0, ["a", "s"]])
        self.assertEqual(heard_text(two_roles(), [("verb", 1, None)]), "go")


class ReadTest(unittest.TestCase):
    def test_row(self):
        found = heard_from(nesting(), TEXT)
        self.assertEqual(found, ROW)
        self.assertTrue(are_tuples(found))

    def test_read_back(self):
        for tongue in some_tongues(12, 13, 3):
            for frame in range(len(tongue.frames)):
                for pattern in walk_patterns(tongue, frame)[:40]:
                    heard = heard_of(saying_of(tongue, frame, pattern))
                    self.assertEqual(heard_from(tongue, heard_text(tongue, heard)), heard)
                    place = [at for at, piece in enumerate(heard) if piece[0] == "noun"][0]
                    heard = swallow(heard, [place])
                    self.assertEqual(heard_from(tongue, heard_text(tongue, heard)), heard)

    def test_what_is_let(self):
        """Numbers that do not fit, endings of any length, one stem with two stocks."""
        self.assertEqual(heard_from(nesting(), "go"), (("verb", 2, None),))
        self.assertEqual(heard_from(nesting(), "say.one"), (("verb", 0, "one"),))
        self.assertEqual(heard_from(nesting(), "a:noun:-abcdef-a-b-c-d--"),
                         (("noun", "a", 0, ("abcdef", "a", "b", "c", "d", "", "")),))
        self.assertEqual(heard_from(nesting(), "a:noun:-- a:thing:?"),
                         (("noun", "a", 0, ("", "")), ("noun", "a", 1, None)))
        self.assertEqual(len(heard_from(nesting(), " ".join(["go"] * 99))), 99)

    def test_no_string(self):
        for text in (*[thing for thing in STRANGE if not isinstance(thing, str)], ["go"], 5):
            bad(self, 0, "text", text)

    def test_word(self):
        for word in ("", "x", "Go", "go.", "go.two", "go.one.many", ".one", "go.One", "go_one", "[",
                     "]", "a:noun:", "a:noun", "a:noun:a", "a:noun:-A", "a:noun:-1", "a:noun:??", "a:noun:-?",
                     "a:noun:?-", "a:noun:who", "a:who:-a", ":noun:-a", "abcdefg:noun:-a", "A:noun:-a", "a::-a",
                     "a:noun:-a:-b", "a:noun:-a.many", "a:noun:?.many", "who", "noun", "-a", "?", "a:noun:-a\n",
                     "go:one",
                     "a:noun:-\u00e9", "a:go:-a", "a:0:-a"):
            bad(self, 0, "word", word)
            bad(self, 1, "word", f"go {word} x")
        bad(self, 1, "word", "go  go")
        bad(self, 1, "word", "go ")
        bad(self, 0, "word", " go")


if __name__ == "__main__":
    unittest.main()
