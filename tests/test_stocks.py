"""[0.2], [0.8], [0.9], [0.11], [1.3] stocks."""

import unittest

from looseorder.errors import BadStock
from looseorder.stocks import Stock
from support import STRANGE, are_tuples, refuses

TABLE = ((0, ("b",), ("a", "")), (2, ("a",), ("b",)), (5, ("",), ("abc", "z", "", "y")))


class StockTest(unittest.TestCase):
    def test_attributes_and_properties(self):
        for table in (TABLE, [[0, ["b"], ("a", "")], (2, ["a"], ["b"]), [5, ("",), ["abc", "z", "", "y"]]]):
            stock = Stock("abcdefgh", table)
            self.assertEqual(stock.name, "abcdefgh")
            self.assertEqual(stock.table, TABLE)
            self.assertTrue(are_tuples(stock.table))
            self.assertEqual(stock.borne, (0, 2, 5))
            self.assertEqual(stock.endings, (("",), ("a",), ("a", ""), ("abc", "z", "", "y"), ("b",)))
            self.assertTrue(are_tuples(stock.endings) and are_tuples(stock.borne))

    def test_six_rows_and_one(self):
        rows = [(role, ("a",), ("a",)) for role in range(6)]
        self.assertEqual(Stock("n", rows).borne, (0, 1, 2, 3, 4, 5))
        self.assertEqual(Stock("n", rows).endings, (("a",),))
        self.assertEqual(Stock("n", rows[3:4]).borne, (3,))

    def test_ending_for(self):
        stock = Stock("n", TABLE)
        self.assertEqual(stock.ending_for(0, "one"), ("b",))
        self.assertEqual(stock.ending_for(0, "many"), ("a", ""))
        self.assertEqual(stock.ending_for(5, "one"), ("",))
        self.assertEqual(stock.ending_for(5, "many"), ("abc", "z", "", "y"))
        for role in (1, 3, 4, 6, -1, 10 ** 20):
            self.assertIsNone(stock.ending_for(role, "one"))
            self.assertIsNone(stock.ending_for(role, "many"))

    def test_name(self):
        for name in (*STRANGE[:5], *STRANGE[6:], "", "abcdefghi", "A", "a1", ["a"]):
            refuses(self, BadStock, {"what": "name"}, Stock, name, TABLE)

    def test_table(self):
        seven = [(role, ("a",), ("a",)) for role in range(7)]
        for table in (*STRANGE, (), [], seven, "ab", iter(TABLE)):
            refuses(self, BadStock, {"what": "table"}, Stock, "n", table)

    def test_row(self):
        for row in (*STRANGE, (), (0, ("a",)), (0, ("a",), ("b",), ("c",)), "abc", {0: 1, 1: 2, 2: 3}):
            refuses(self, BadStock, {"what": "row"}, Stock, "n", [row])
            refuses(self, BadStock, {"what": "row"}, Stock, "n", [TABLE[0], row])

    def test_role(self):
        for role in (*STRANGE, -1, 6, 10 ** 30, "0", [0]):
            refuses(self, BadStock, {"what": "role"}, Stock, "n", [(role, ("a",), ("b",))])
        for one, other in ((1, 1), (2, 1), (0, True), (5, 0)):
            refuses(self, BadStock, {"what": "role"}, Stock, "n", [(one, ["a"], ["b"]), (other, ["a"], ["b"])])

    def test_ending(self):
        for ending in (*STRANGE, (), ("abcd",), ("a",) * 5, ("A",), "a", ("a", None)):
            refuses(self, BadStock, {"what": "ending"}, Stock, "n", [(0, ending, ("b",))])
            refuses(self, BadStock, {"what": "ending"}, Stock, "n", [(0, ("b",), ending)])

    def test_which_is_asked_first(self):
        refuses(self, BadStock, {"what": "name"}, Stock, "", ())
        refuses(self, BadStock, {"what": "role"}, Stock, "n", [(9, (), ()), "row"])
        refuses(self, BadStock, {"what": "ending"}, Stock, "n", [(0, (), ("a",)), "row"])
        refuses(self, BadStock, {"what": "row"}, Stock, "n", ["row", (9, (), ())])
        refuses(self, BadStock, {"what": "table"}, Stock, "n", ["row"] * 7)

    def test_what_is_passed_in_stays_and_is_not_kept(self):
        table = [[0, ["a"], ["b"]], [1, ["c"], ["d"]]]
        stock = Stock("n", table)
        self.assertEqual(table, [[0, ["a"], ["b"]], [1, ["c"], ["d"]]])
        table[0][1][0] = "x"
        table[1][0] = 5
        table.append([3, ["e"], ["f"]])
        self.assertEqual(stock.table, ((0, ("a",), ("b",)), (1, ("c",), ("d",))))
        self.assertEqual(stock.borne, (0, 1))
        self.assertEqual(stock.ending_for(0, "one"), ("a",))

    def test_equal(self):
        stock = Stock("n", TABLE)
        self.assertIs(stock == Stock("n", [list(row) for row in TABLE]), True)
        self.assertIs(stock != Stock("n", TABLE), False)
        for other in (Stock("m", TABLE), Stock("n", TABLE[:2]), Stock("n", [(0, ("b",), ("a",)), *TABLE[1:]]),
                      *STRANGE, "n", TABLE, ("n", TABLE)):
            self.assertIs(stock == other, False)
            self.assertIs(stock != other, True)
            self.assertIs(other == stock, False)


if __name__ == "__main__":
    unittest.main()
