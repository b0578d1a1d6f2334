"""[74], [130]: texts of rows."""

import random

from allinputs.errors import BadFile
from allinputs.rowtexts import read_rows, rows_text
from tests.helper import Case


class RowTexts(Case):
    def test_plain_fields(self):
        self.assertEqual(read_rows("a,b\nc\n"), [["a", "b"], ["c"]])
        self.assertEqual(read_rows("a b, 'c' ,1;2|3\n"), [["a b", " 'c' ", "1;2|3"]])
        self.assertEqual(read_rows("a,b"), [["a", "b"]])
        self.assertEqual(read_rows(""), [])

    def test_empty_fields(self):
        self.assertEqual(read_rows("\n"), [[""]])
        self.assertEqual(read_rows("\n\n"), [[""], [""]])
        self.assertEqual(read_rows(","), [["", ""]])
        self.assertEqual(read_rows(",\n"), [["", ""]])
        self.assertEqual(read_rows("a,"), [["a", ""]])
        self.assertEqual(read_rows("a,\nb"), [["a", ""], ["b"]])
        self.assertEqual(read_rows("a\n\n,b"), [["a"], [""], ["", "b"]])
        self.assertEqual(read_rows('""'), [[""]])
        self.assertEqual(read_rows('"",""\n'), [["", ""]])

    def test_each_mark(self):
        self.assertEqual(read_rows("a;b,c|d", ";"), [["a", "b,c|d"]])
        self.assertEqual(read_rows("a;b,c|d", "|"), [["a;b,c", "d"]])
        self.assertEqual(read_rows(mark=",", text="a;b,c|d"), [["a;b", "c|d"]])
        self.assertEqual(rows_text([["a;b", "c|d", "e,f"]], ";"), "\"a;b\";c|d;e,f\n")
        self.assertEqual(rows_text([["a;b", "c|d", "e,f"]], mark="|"), "a;b|\"c|d\"|e,f\n")

    def test_quoted_fields(self):
        self.assertEqual(read_rows('"a""b","",""""\n'), [['a"b', "", '"']])
        self.assertEqual(read_rows('"a,b"\n"c\nd",e'), [["a,b"], ["c\nd", "e"]])
        self.assertEqual(read_rows('"\n\n"'), [["\n\n"]])

    def test_written(self):
        self.assertEqual(rows_text([]), "")
        self.assertEqual(rows_text([[""]]), "\n")
        self.assertEqual(rows_text([["", ""], ["a"]]), ",\na\n")
        self.assertEqual(rows_text([['a"b', "c\nd", "e,f", " g "]]), '"a""b","c\nd","e,f", g \n')
        self.assertEqual(rows_text((("a",), ("b",))), "a\nb\n")

    def test_wrong_places(self):
        for text, line, at in (
            ('a"b', 1, 1), ('a,b\nc "d"', 2, 2), ('"a"b', 1, 3), ('"a" ,b', 1, 3), ('"a', 1, 2), ('"', 1, 1), ('a,"b\nc', 2, 1),
            ('a\n"b\nc"d', 3, 2), ("a\tb", 1, 1), ('"a\tb"', 1, 2), ("a\n\r\n", 2, 0), ("\u00e4", 1, 0), ('"a""', 1, 4),
            ('"a""\n', 2, 0), ('x,""y', 1, 4), ('"\n\n', 3, 0), ('a;b\n"', 2, 1), ('"a"\tb', 1, 3), ('"a\u00e9', 1, 2),
        ):
            self.fails(BadFile, {"line": line, "at": at}, read_rows, text)
        self.fails(BadFile, {"line": 1, "at": 3}, read_rows, '"a",b', ";")
        self.fails(BadFile, {"line": 1, "at": 3}, read_rows, '"a";b')

    def test_what_is_written_is_read(self):
        chance = random.Random(7)
        for mark in (",", ";", "|"):
            for _ in range(200):
                rows = [["".join(chance.choice("ab\",;|\n ~") for _ in range(chance.randint(0, 4)))
                         for _ in range(chance.randint(1, 4))] for _ in range(chance.randint(0, 4))]
                self.assertEqual(read_rows(rows_text(rows, mark), mark), rows)
                self.assertEqual(read_rows(rows_text(rows, mark)[:-1] + "\n" if rows else "", mark), rows)

    def test_the_last_line_feed_may_lack(self):
        for text in ("a\n", "a,b\nc,d\n", '"a\n"\n', "a,\n", ",,\n"):
            self.assertEqual(read_rows(text[:-1]), read_rows(text))

    def test_wrong_arguments(self):
        for value in (None, 1, ["a"], True):
            self.bad(value, read_rows, value, "x")
        for value in (None, 1, "", "x", ",,", "\t", [","]):
            self.bad(value, read_rows, "\"", value)
            self.bad(value, rows_text, [["a"]], value)
        for value in (None, "a", 1, {"a": 1}):
            self.bad(value, rows_text, value, "x")
        for value in ([], None, "ab", ["a", 1], ["a\tb"], [None], ["\u00e4"], ["a", ["b"]]):
            self.bad(value, rows_text, [["a"], value, 5], "x")
