"""[1.11], [1.12] the texts of sayings."""

import unittest

from looseorder.errors import BadSaying, BadText
from looseorder.frames import Frame
from looseorder.sayings import Saying
from looseorder.sayingtext import saying_from, saying_text
from looseorder.speaking import plain_saying, saying_of
from looseorder.stocks import Stock
from looseorder.tongues import Tongue
from support import STRANGE, nesting, refuses, some_tongues, two_roles, walk_patterns

VERB = ("verb",)
DEEP = "man:noun:who [ [ cat:noun:who.many go ] owl:thing:whom hear ] dog:thing:whom.many say"


def deep():
    tongue = nesting()
    go = Saying(tongue, 2, [("noun", "cat", 0, 0, "many"), VERB])
    hear = Saying(tongue, 3, [("clause", 2, go), ("noun", "owl", 1, 1, "one"), VERB])
    return Saying(tongue, 0, [("noun", "man", 0, 0, "one"), ("clause", 2, hear), ("noun", "dog", 1, 1, "many"), VERB])


def bad(test, place, what, text, tongue=None):
    refuses(test, BadText, {"place": place, "what": what}, saying_from, tongue or nesting(), text)


def wrong(test, place, what, text, tongue=None):
    refuses(test, BadSaying, {"place": place, "what": what}, saying_from, tongue or nesting(), text)


class WriteTest(unittest.TestCase):
    def test_clauses_in_clauses(self):
        self.assertEqual(saying_text(deep()), DEEP)

    def test_where_the_verb_stands(self):
        said = [("noun", "a", 0, 0, "one"), ("noun", "b", 0, 1, "many")]
        for verbs, place, text in (("first", 0, "see a:noun:who b:noun:whom.many"),
                                   ("last", 2, "a:noun:who b:noun:whom.many see"),
                                   ("free", 1, "a:noun:who see b:noun:whom.many")):
            items = list(said)
            items.insert(place, VERB)
            self.assertEqual(saying_text(Saying(two_roles((), verbs), 0, items)), text)


class ReadTest(unittest.TestCase):
    def test_read_back(self):
        self.assertEqual(saying_from(nesting(), DEEP), deep())
        for tongue in some_tongues(12, 12, 3):
            for frame in range(len(tongue.frames)):
                for pattern in walk_patterns(tongue, frame)[:40]:
                    saying = saying_of(tongue, frame, pattern)
                    self.assertEqual(saying_from(tongue, saying_text(saying)), saying)

    def test_verbs_in_the_middle(self):
        tongue = nesting("free")
        text = "[ go a:noun:who ] say b:noun:whom c:noun:who.many"
        saying = saying_from(tongue, text)
        self.assertEqual([item[0] for item in saying.said], ["clause", "verb", "noun", "noun"])
        self.assertEqual(saying_text(saying), text)

    def test_no_string(self):
        for text in (*[thing for thing in STRANGE if not isinstance(thing, str)], ["go"], 5):
            bad(self, 0, "text", text)

    def test_word(self):
        for word in ("", "x", "gone", "Go", "man", "man:noun", "man:noun:who:one", "man:noun:you", "man:who:who",
                     ":noun:who", "abcdefg:noun:who", "Man:noun:who", "man:noun:", "man::who", "man:noun:who.one",
                     "man:noun:who.", "man:noun:who.many.many", "man:noun:.many", "man:noun:whomany", "man:noun:-a",
                     "man:noun:?", "go.one", "go.many", "[go", "]]", "[]", "(", "m1n:noun:who", "man:noun:who!",
                     "noun", "who", "man:0:0", "man:noun:who\n", "man:noun:many"):
            bad(self, 0, "word", word)
            bad(self, 1, "word", f"[ {word} ] ] x")
        bad(self, 1, "word", "man:noun:who  go")
        bad(self, 2, "word", "man:noun:who go ")
        bad(self, 0, "word", " man:noun:who go")
        bad(self, 1, "word", "go \t go go")

    def test_bracket(self):
        bad(self, 0, "bracket", "]")
        bad(self, 1, "bracket", "[")
        bad(self, 2, "bracket", "a:noun:who go ] go")
        bad(self, 3, "bracket", "[ go ] ]")
        bad(self, 2, "bracket", "[ ] ] [")
        bad(self, 4, "bracket", "[ [ go ]")
        bad(self, 0, "bracket", "] [")
        bad(self, 3, "bracket", "go go [")

    def test_verb(self):
        bad(self, 1, "verb", "[ ] go")
        bad(self, 3, "verb", "[ go go ] go")
        bad(self, 4, "verb", "[ go ] a:noun:who")
        bad(self, 2, "verb", "go go")
        bad(self, 1, "verb", "a:noun:who")
        bad(self, 2, "verb", "[ [ ] ] go")
        bad(self, 5, "verb", "[ go [ go go ] ]")
        bad(self, 3, "verb", "[ go go ] [ ]")
        bad(self, 6, "verb", "[ go [ go ] go ] go")

    def test_which_is_asked_first(self):
        bad(self, 4, "word", "] go go [ x")
        bad(self, 2, "bracket", "go go ]")
        bad(self, 4, "bracket", "[ go go [")
        bad(self, 6, "verb", "[ a:noun:whom go ] say say")

    def test_the_sayings_are_made_each_when_it_ends(self):
        wrong(self, 0, "role", "[ a:noun:whom go ] a:thing:who b:noun:who say")
        wrong(self, 0, "items", "go")
        wrong(self, 0, "items", "[ go ] [ a:noun:whom go ] b:noun:who say")
        wrong(self, 0, "role", "[ a:noun:who go ] [ a:noun:whom go ] say")
        wrong(self, 0, "items", "[ a:noun:who go ] [ b:noun:who go ] say")
        wrong(self, 1, "double", "[ a:noun:who go ] [ b:noun:who go ] c:noun:who say")
        wrong(self, 1, "double", "a:noun:who b:noun:who [ c:noun:who go ] say")
        wrong(self, 0, "verb", "go a:noun:who")
        wrong(self, 2, "verb", "a:noun:who [ c:noun:who go ] say b:noun:whom")
        wrong(self, 1, "unlike", "a:noun:who a:thing:whom [ c:noun:who go ] say")
        wrong(self, 1, "rule", "a:noun:whom b:noun:who [ c:noun:who go ] say", nesting(rules=[(0, 1)]))
        wrong(self, 0, "role", "a:thing:who go")

    def test_the_inner_one_is_made_before_the_outer_one(self):
        wrong(self, 0, "verb", "[ go a:noun:who ] say")
        wrong(self, 0, "items", "[ [ go ] go a:noun:who ] say")

    def test_a_clause_without_a_role(self):
        wrong(self, 0, "role", "[ a:noun:who go ] go")
        wrong(self, 1, "role", "a:noun:who [ a:noun:who go ] b:noun:whom give")
        wrong(self, 0, "items", "a:noun:who [ a:noun:who go ] go")

    def test_many_brackets(self):
        bad(self, 400, "verb", " ".join(["["] * 400 + ["]"] * 400))
        wrong(self, 0, "items", " ".join(["["] * 400 + ["go", "]"] * 400 + ["go"]))

    def test_too_long(self):
        stock = Stock("n", [(0, ("a",), ("b",))])
        tongue = Tongue(["a", "b"], [stock], [Frame("f", (0,), 1), Frame("g", (0,))], (), "first")
        text = "g x:n:a"
        for _ in range(6):
            text = f"f x:n:a [ {text} ]"
        self.assertEqual(saying_from(tongue, text).size, 14)
        wrong(self, 0, "long", f"f x:n:a [ {text} ]", tongue)
        self.assertEqual(saying_text(plain_saying(tongue, 0)), "f a:n:a [ g b:n:a ]")


if __name__ == "__main__":
    unittest.main()
