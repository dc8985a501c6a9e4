"""[0.9] the errors."""

import unittest
from inspect import isclass

from looseorder import errors
from looseorder.errors import TongueError

WITH = {
    ("index", "what"): ("BadRules BadTongue BadPattern BadThings BadHeard BadNouns BadArticle BadNest BadWear "
                        "BadChange BadHelp BadLesson"),
    ("place", "what"): "BadSaying BadText",
    ("what",): "BadStock BadFrame BadExchange BadRing BadTrade BadSame BadSwallowed",
    ("role",): "NoRole",
    ("stock",): "NoStock",
    ("frame",): "NoFrame",
    ("index",): "BadLot BadChoices BadTalk BadPool BadHearers BadRemark NoBook BadWish",
    ("most",): "TooManyRoles TooManyRules",
    ("place",): "BadBlocks",
    ("first", "second"): "LessonClash",
    ("number",): "NoChange",
    (): ("BadEnding NoRule BadNumber BadTurn BadStems BadPlaces NoReading BadClause BadCounts NoOrder NotClear "
         "BadMany FreeClauses NoClause BadDepth FreeVerbs NotFree BadHabit Nothing BadPair BadAge BadPick BadRow"),
}
NAMES = {name: told for told, names in WITH.items() for name in names.split()}


class ErrorsTest(unittest.TestCase):
    def test_these_and_no_others(self):
        found = {name for name, thing in vars(errors).items() if isclass(thing)}
        self.assertEqual(found, set(NAMES) | {"TongueError"})

    def test_each_is_directly_under_tongue_error(self):
        self.assertEqual(TongueError.__bases__, (ValueError,))
        for name in NAMES:
            self.assertEqual(getattr(errors, name).__bases__, (TongueError,), name)

    def test_arguments_are_kept(self):
        for name, told in NAMES.items():
            worth = [object() for _ in told]
            for error in (getattr(errors, name)(*worth), getattr(errors, name)(**dict(zip(told, worth)))):
                for attribute, value in zip(told, worth):
                    self.assertIs(getattr(error, attribute), value, name)

    def test_no_more_and_no_fewer_arguments(self):
        for name, told in NAMES.items():
            if told:
                with self.assertRaises(TypeError):
                    getattr(errors, name)(*told[1:])
                with self.assertRaises(TypeError):
                    getattr(errors, name)(*told, 1)


if __name__ == "__main__":
    unittest.main()
