"""[48] to [57], [79] to [82], [136]: the desk."""

from allinputs.book import Book
from allinputs.desk import Desk
from allinputs.errors import (
    BadPromise, BadValue, Broken, NotAFormula, NotAName, NothingToRedo, NothingToUndo, NotMade, NotTold, OffGrid, Taken,
    TooHigh, TooMany, Unknown,
)
from allinputs.exchange import put_rows
from allinputs.filling import fill_cells
from allinputs.moving import copy_cells, move_cells
from allinputs.points import Point
from allinputs.promises import holds
from allinputs.ratios import Ratio
from allinputs.sorting import sort_rows
from allinputs.structure import (
    close_cells, delete_columns, delete_rows, insert_columns, insert_rows, open_cells,
)
from allinputs.working import last_worked
from tests.books import BookCase, all_texts, book_of
from tests.helper import NO_RATIOS, X

CELLS = {"A1": "1", "A2": "=A1+1", "A3": "=SUM(A1:A2)", "B1": "=A1*A1", "C1": "4", "C2": "2", "C3": "9", "Tax!A1": "=Sheet1!A2"}


def worked(desk):
    return last_worked(desk.current())


class DeskCase(BookCase):
    def desk(self, cells=None, promises=(), **more):
        desk = Desk(book_of(CELLS if cells is None else cells, **{"sheets": ("Tax",), **more}))
        for promise in promises:
            desk.keep(promise)
        return desk

    def as_it_was(self, desk, error, fields, call, *arguments):
        """A call raises an error, and the desk is as it was."""
        book, promises, told = desk.current(), desk.promises(), worked(desk)
        self.fails(error, fields, call, *arguments)
        self.assertTrue(desk.current() == book)
        self.assertEqual((desk.promises(), worked(desk)), (promises, told))


class Deeds(DeskCase):
    def test_each_word(self):
        for deed, call in (
            (("put", "A1", "=B9"), lambda book: book.put("A1", "=B9")),
            (("put", "A1", 5), lambda book: book.put("A1", 5)),
            (("put", "A1", Ratio(1, 2)), lambda book: book.put("A1", Ratio(1, 2))),
            (("put", "A1", True), lambda book: book.put("A1", True)),
            (("define", "Rate", "A1*2"), lambda book: book.define("rate", "A1*2")),
            (("undefine", "OLD"), lambda book: book.undefine("old")),
            (("add_sheet", "More"), lambda book: book.add_sheet("More")),
            (("rename_sheet", "tax", "Duty"), lambda book: book.rename_sheet("tax", "Duty")),
            (("drop_sheet", "Tax"), lambda book: book.drop_sheet("Tax")),
            (("insert_rows", "Sheet1", 2, 3), lambda book: insert_rows(book, "Sheet1", 2, 3)),
            (("insert_columns", "Sheet1", 1, 2), lambda book: insert_columns(book, "Sheet1", 1, 2)),
            (("delete_rows", "Sheet1", 2, 1), lambda book: delete_rows(book, "Sheet1", 2, 1)),
            (("delete_columns", "Sheet1", 2, 1), lambda book: delete_columns(book, "Sheet1", 2, 1)),
            (("open_cells", "A2:B3", True), lambda book: open_cells(book, "A2:B3")),
            (("open_cells", "A2:B3", False), lambda book: open_cells(book, "A2:B3", down=False)),
            (("close_cells", "A2:B2", True), lambda book: close_cells(book, "A2:B2")),
            (("close_cells", "A2:B2", False), lambda book: close_cells(book, "A2:B2", up=False)),
            (("move_cells", "A1:A2", "D5"), lambda book: move_cells(book, "A1:A2", "D5")),
            (("copy_cells", "A1:A3", "Tax!D5"), lambda book: copy_cells(book, "A1:A3", "Tax!D5")),
            (("fill_cells", "C1:C2", "C1:C9"), lambda book: fill_cells(book, "C1:C2", "C1:C9")),
            (("sort_rows", "C1:C3", [(1, True)]), lambda book: sort_rows(book, "C1:C3", [(1, True)])),
            (("put_rows", "B2", [["1", "=A1"], ["x"]]), lambda book: put_rows(book, "B2", [["1", "=A1"], ["x"]])),
        ):
            for told in (deed, list(deed)):
                desk = self.desk(names={"old": "A1"})
                book = desk.current()
                self.assertIsNone(desk.do(told))
                call(book)
                self.assertTrue(desk.current() == book, deed)
                self.assertEqual(worked(desk), last_worked(book), deed)
                desk = self.desk(names={"old": "A1"})
                desk.attempt([told])
                self.assertTrue(desk.current() == book, deed)

    def test_what_is_no_deed(self):
        desk = self.desk()
        for deed in (None, 1, "put", (), [], ("put",), ("put", "A1"), ("put", "A1", "1", "2"), ("puts", "A1", "1"), ("Put", "A1", "1"),
                     (1, "A1", "1"), (None,), ("value_of", "A1"), ("copied",), ("open_cells", "A1"), ("insert_rows", "Sheet1", 1), {},
                     ("undo",), ("sort_rows", "A1:A2"), ("define", "a"), (("put",), "A1", "1")):
            for call in (desk.do, lambda told: desk.attempt([("put", "A1", "1"), told, 5]), lambda told: desk.trial([told]),
                         lambda told: desk.changed_by([("put", "A1", "="), told], "?")):
                self.bad(deed, call, deed)
        for value in (None, 1, "put", {"put": 1}):
            self.bad(value, desk.attempt, value)
            self.bad(value, desk.trial, value)
            self.bad(value, desk.changed_by, value, None)
        self.fails(NothingToUndo, {}, desk.undo)

    def test_errors_of_the_functions(self):
        desk = self.desk(promises=["A2 at least 1 for A1 from 0 to 5"])
        for deed, error, fields in (
            (("put", "A0", "1"), NotAName, {"name": "A0"}), (("put", "A1", "=1+"), NotAFormula, {"at": 3}),
            (("put", "no!A1", "1"), Unknown, {"name": "no"}), (("put", "A1", None), BadValue, {"value": None}),
            (("undefine", "x"), Unknown, {"name": "x"}), (("drop_sheet", "x"), Unknown, {"name": "x"}),
            (("add_sheet", "TAX"), Taken, {"name": "TAX"}), (("insert_rows", "Sheet1", 0, 1), BadValue, {"value": 0}),
            (("open_cells", "A1", None), BadValue, {"value": None}), (("move_cells", "A1:B2", "ZZZ1"), OffGrid, {"row": 2, "column": 18279}),
            (("put_rows", "A1", [["=("]]), NotAFormula, {"at": 2}), (("fill_cells", "A1", "B1:B2"), BadValue, {"value": "B1:B2"}),
        ):
            self.as_it_was(desk, error, fields, desk.do, deed)
            self.as_it_was(desk, error, fields, desk.attempt, [("put", "A1", "7"), ("put", "A2", "=A1-9"), deed, ("undefine", "y")])
            self.as_it_was(desk, error, fields, desk.trial, [("put", "A2", "=A1-9"), deed])
            self.as_it_was(desk, error, fields, desk.changed_by, [("put", "A2", "=A1-9"), deed], "A1")

    def test_the_book_is_copied(self):
        book = book_of({"A1": "1"})
        desk = Desk(book)
        book.put("A1", "2")
        told = desk.current()
        self.assertEqual(told.text_of("A1"), "1")
        told.put("A1", "3")
        self.assertEqual(desk.current().text_of("A1"), "1")
        self.assertEqual(worked(Desk(book_of({"B1": "=A1", "A1": "1"}))), ("Sheet1!B1",))
        for value in (None, 1, "A1"):
            self.bad(value, Desk, value)
        self.assertEqual(Desk(book=Book()).promises(), ())


class Judging(DeskCase):
    def test_broken(self):
        desk = self.desk({"A1": "1", "A2": "=A1+1", "B2": "=IF(A1*A1=2,9,0)"}, ["$A$2 at least 1 for A1 from 0 to 5"])
        desk.do(("put", "A2", "=A1+2"))
        with self.assertRaises(Broken) as caught:
            desk.do(("put", "A2", "=A1-1"))
        self.assertEqual(caught.exception.promise, "Sheet1!A2 at least 1 for Sheet1!A1 from 0 to 5")
        self.assertLess(caught.exception.where.compare(2), 0)
        self.assertEqual(desk.current().text_of("A2"), "=A1+2")
        desk.keep("A2 never fails for A1")
        text = "Sheet1!A2 never fails for Sheet1!A1"
        self.as_it_was(desk, Broken, {"promise": text, "where": Ratio(-3)}, desk.do, ("put", "A2", "=IF(A1=-3,NA(),5)"))
        desk.release("A2 at least 1 for A1 from 0 to 5")
        self.as_it_was(desk, Broken, {"promise": text, "where": Point(X * X - 2, -2, -1)}, desk.do,
                       ("put", "A2", "=IF(A1*A1=2,NA(),5)"))
        desk.keep("B2 reaches 9 for A1 from 0 to 5")
        text = "Sheet1!B2 reaches 9 for Sheet1!A1 from 0 to 5"
        self.as_it_was(desk, Broken, {"promise": text, "where": None}, desk.do, ("put", "B2", "=IF(A1*A1=2,8,0)"))

    def test_judged_one_after_another(self):
        desk = self.desk({})
        for row in (3, 2, 4):
            desk.do(("put", f"A{row}", "1"))
        for row in (3, 2, 4):
            desk.keep(f"A{row} at most 5 for A1")
        with self.assertRaises(Broken) as caught:
            desk.attempt([("put", "A4", "9"), ("put", "A2", "8"), ("put", "A3", "1")])
        self.assertEqual(caught.exception.promise, "Sheet1!A2 at most 5 for Sheet1!A1")
        self.fails(NotTold, {}, desk.attempt, [("put", "A4", "9"), ("put", "A3", "=LEN(A1)")])
        with self.assertRaises(Broken):
            desk.attempt([("put", "A3", "9"), ("put", "A4", "=LEN(A1)")])

    def test_not_told_and_too_high_in_the_place_of_judging(self):
        desk = self.desk({"A2": "1", "A3": "5"}, ["A2 never fails for A1"])
        for formula, error, fields in (("=A1&1", NotTold, {}), ("=A1^61", TooHigh, {"most": 60}), ("=(9^64)^60", TooHigh, {"most": 3000})):
            deed = ("put", "A2", formula)
            self.as_it_was(desk, error, fields, desk.do, deed)
            self.as_it_was(desk, error, fields, desk.attempt, [("put", "A1", "7"), deed])
            self.as_it_was(desk, error, fields, desk.trial, [deed])
            desk.do(("put", "B7", formula))
            self.as_it_was(desk, error, fields, desk.keep, "B7 never fails for A1")

    def test_what_does_not_touch_a_promise(self):
        desk = self.desk({"A2": "=A1+1", "B2": "=A2+C2", "D2": "=SEQUENCE(A1)"},
                         ["B2 at least 1 for A1 from 0 to 5", "D4 never fails for A1 from 0 to 5"])
        for deed in (("put", "E5", "5"), ("put", "A1", "3"), ("put", "C2", "0"), ("define", "x", "A1"), ("put", "A1", "=E5"), ("add_sheet", "X")):
            desk.do(deed)
        for deed in (("put", "C2", "-1"), ("put", "A2", "=A1-1"), ("put", "D4", "=1/0"), ("put", "D2", "=IF(SEQUENCE(3)>1,1/A1)"),
                     ("put", "B2", "x")):
            with self.assertRaises(Broken):
                desk.do(deed)
        self.assertEqual(len(desk.promises()), 2)

    def test_a_promise_of_an_empty_cell(self):
        desk = self.desk({"B1": "=SEQUENCE(3)"}, ["B3 reaches 3 for A1", "C1 same as C2 for A1"])
        for deed in (("put", "B1", ""), ("put", "B1", "=SEQUENCE(2)"), ("put", "B2", "1"), ("put", "B3", "x"),
                     ("put", "C1", "x"), ("put", "B1", "=SEQUENCE(3,2)")):
            with self.assertRaises(Broken):
                desk.do(deed)
        desk.do(("put", "B3", "3"))


class Following(DeskCase):
    def follows(self, deed, promise, text, cells=None):
        desk = self.desk(cells, [promise])
        desk.do(deed)
        self.assertEqual(desk.promises(), (text,))
        self.assertTrue(holds(desk.current(), text))
        desk.undo()
        self.assertNotEqual(desk.promises(), ())

    def test_each_edit(self):
        promise = "A3 same as Tax!B1 for A2 from 0 to 1"
        cells = {"A3": "5", "Tax!B1": "5"}
        for deed, text in (
            (("insert_rows", "Sheet1", 3, 2), "Sheet1!A5 same as Tax!B1 for Sheet1!A2"),
            (("insert_rows", "tax", 1, 1), "Sheet1!A3 same as Tax!B2 for Sheet1!A2"),
            (("insert_columns", "Sheet1", 1, 1), "Sheet1!B3 same as Tax!B1 for Sheet1!B2"),
            (("delete_rows", "Sheet1", 1, 1), "Sheet1!A2 same as Tax!B1 for Sheet1!A1"),
            (("delete_columns", "Tax", 1, 1), "Sheet1!A3 same as Tax!A1 for Sheet1!A2"),
            (("open_cells", "A3:B3", True), "Sheet1!A4 same as Tax!B1 for Sheet1!A2"),
            (("open_cells", "A3:B3", False), "Sheet1!C3 same as Tax!B1 for Sheet1!A2"),
            (("close_cells", "A1", True), "Sheet1!A2 same as Tax!B1 for Sheet1!A1"),
            (("close_cells", "Tax!A1", False), "Sheet1!A3 same as Tax!A1 for Sheet1!A2"),
            (("move_cells", "A2:A3", "Tax!C5"), "Tax!C6 same as Tax!B1 for Tax!C5"),
            (("move_cells", "Tax!B1", "Z9"), "Sheet1!A3 same as Sheet1!Z9 for Sheet1!A2"),
            (("rename_sheet", "Tax", "Duty"), "Sheet1!A3 same as Duty!B1 for Sheet1!A2"),
            (("rename_sheet", "Sheet1", "sheet1"), "sheet1!A3 same as Tax!B1 for sheet1!A2"),
            (("add_sheet", "More"), "Sheet1!A3 same as Tax!B1 for Sheet1!A2"),
            (("copy_cells", "A2:A3", "C5"), "Sheet1!A3 same as Tax!B1 for Sheet1!A2"),
            (("sort_rows", "D1:D5", [(1, False)]), "Sheet1!A3 same as Tax!B1 for Sheet1!A2"),
        ):
            self.follows(deed, promise, text + " from 0 to 1", cells)

    def test_places_that_would_become_ref(self):
        promise = "A3 same as Tax!B1 for A2"
        text = "Sheet1!A3 same as Tax!B1 for Sheet1!A2"
        for deed in (
            ("delete_rows", "Sheet1", 2, 1), ("delete_rows", "Sheet1", 3, 5), ("delete_columns", "Tax", 1, 3), ("drop_sheet", "Tax"),
            ("close_cells", "A3:B9", True), ("close_cells", "A2", False), ("move_cells", "D1", "A2"), ("move_cells", "D1:D2", "Tax!B1"),
            ("insert_rows", "Sheet1", 2, 999999), ("insert_columns", "Tax", 1, 18277),
        ):
            desk = self.desk({"A1": "=1"}, [promise])
            if deed[0].startswith("insert"):
                self.assertEqual(desk.trial([deed]), [(text, None)])
            self.as_it_was(desk, Broken, {"promise": text, "where": None}, desk.do, deed)
            self.assertEqual(desk.trial([deed]), [(text, None)])

    def test_ahead_of_all_judging(self):
        desk = self.desk({"A1": "5", "A2": "5"}, ["A1 at most 5 for C1", "A2 at most 5 for C1"])
        deeds = [("put", "A1", "=C1&1"), ("delete_rows", "Sheet1", 2, 1)]
        self.as_it_was(desk, Broken, {"promise": "Sheet1!A2 at most 5 for Sheet1!C1", "where": None}, desk.attempt, deeds)
        self.as_it_was(desk, NotTold, {}, desk.trial, deeds)
        self.assertEqual(desk.trial([("put", "A1", "9"), ("delete_rows", "Sheet1", 2, 1)])[1],
                         ("Sheet1!A2 at most 5 for Sheet1!C1", None))

    def test_text_ahead_of_all_deeds(self):
        desk = self.desk({"A3": "5"}, ["A3 at most 5 for C1"])
        deeds = [("insert_rows", "Sheet1", 1, 1), ("rename_sheet", "Sheet1", "Top"), ("put", "Top!A4", "6")]
        with self.assertRaises(Broken) as caught:
            desk.attempt(deeds)
        self.assertEqual(caught.exception.promise, "Sheet1!A3 at most 5 for Sheet1!C1")
        self.assertEqual(desk.trial(deeds)[0][0], "Sheet1!A3 at most 5 for Sheet1!C1")
        desk.attempt(deeds[:2])
        self.assertEqual(desk.promises(), ("Top!A4 at most 5 for Top!C2",))

    def test_a_place_that_became_ref_stays_so(self):
        desk = self.desk({"A3": "5"}, ["A3 at most 5 for C9"])
        deeds = [("delete_rows", "Sheet1", 3, 1), ("insert_rows", "Sheet1", 3, 1), ("put", "A3", "5")]
        self.as_it_was(desk, Broken, {"promise": "Sheet1!A3 at most 5 for Sheet1!C9", "where": None}, desk.attempt, deeds)

    def test_dropped_sheets_ahead(self):
        desk = self.desk({"Tax!A1": "5"}, ["Tax!A1 at most 5 for Tax!B1"])
        desk.do(("drop_sheet", "Sheet1"))
        self.assertEqual(desk.promises(), ("Tax!A1 at most 5 for Tax!B1",))
        desk.do(("add_sheet", "Sheet1"))
        desk.do(("insert_rows", "Tax", 1, 1))
        self.assertEqual(desk.promises(), ("Tax!A2 at most 5 for Tax!B2",))


class AttemptsAndTrials(DeskCase):
    def test_attempts_of_several_deeds(self):
        desk = self.desk({"A1": "1", "A2": "=A1"}, ["A2 at most 5 for A1 from 0 to 5"])
        desk.attempt([("put", "A2", "=A1+9"), ("put", "B1", "=A2"), ("put", "A2", "=A1-1")])
        self.assertEqual(all_texts(desk.current()), {"A1": "1", "A2": "=A1-1", "B1": "=A2"})
        self.assertEqual(worked(desk), ("Sheet1!A2", "Sheet1!B1"))
        desk.undo()
        self.assertEqual(all_texts(desk.current()), {"A1": "1", "A2": "=A1"})
        self.fails(NothingToUndo, {}, Desk(Book()).undo)

    def test_attempts_of_none(self):
        desk = self.desk({"A1": "1", "A2": "=A1"})
        desk.do(("put", "A1", "2"))
        desk.undo()
        self.assertIsNone(desk.attempt([]))
        desk.attempt(())
        self.fails(NothingToUndo, {}, desk.undo)
        desk.redo()
        self.assertEqual(worked(desk), ("Sheet1!A2",))
        desk.attempt([])
        self.assertEqual(worked(desk), ("Sheet1!A2",))
        self.assertEqual(desk.trial([]), [])

    def test_trials(self):
        desk = self.desk({"A2": "=A1", "A3": "=A1*A1", "A4": "=ABS(A1)"},
                         ["A3 at least 0 for A1", "A2 at most 5 for A1 from 0 to 5", "A4 reaches 1 for A1", "A2 never fails for A1"])
        book = desk.current()
        told = desk.trial([("put", "A2", "=1/A1"), ("put", "A4", "=A1*A1+2")])
        self.assertEqual([pair[0] for pair in told], [
            "Sheet1!A2 at most 5 for Sheet1!A1 from 0 to 5", "Sheet1!A4 reaches 1 for Sheet1!A1", "Sheet1!A2 never fails for Sheet1!A1"])
        self.assertEqual(told[1][1], None)
        self.assertEqual(told[2][1], Ratio(0))
        self.assertIsInstance(told[0][1], Ratio)
        self.assertIs(type(told), list)
        self.assertIs(type(told[0]), tuple)
        self.assertEqual(desk.trial([("put", "A2", "=A1-1")]), [])
        self.assertTrue(desk.current() == book)
        for _ in range(4):
            desk.undo()
        self.fails(NothingToUndo, {}, desk.undo)
        self.assertEqual(desk.trial([("put", "A2", "=1/A1")]), [])

    def test_trials_do_nothing(self):
        desk = self.desk({"A1": "1"})
        desk.do(("put", "A1", "2"))
        desk.undo()
        desk.trial([("put", "A1", "7")])
        desk.changed_by([("put", "A1", "7")], "A1")
        desk.redo()
        self.assertEqual(desk.current().text_of("A1"), "2")


class Keeping(DeskCase):
    def test_keep_and_release(self):
        desk = self.desk()
        self.assertIsNone(desk.keep("A2 at least 1 for A1 from 0 to 5"))
        desk.keep("$B$1 at least 0 for a1")
        self.assertEqual(desk.promises(), ("Sheet1!A2 at least 1 for Sheet1!A1 from 0 to 5", "Sheet1!B1 at least 0 for Sheet1!A1"))
        self.assertIsNone(desk.release("A$2 at least +1.0 for sheet1!A1 from 0 to 10/2"))
        self.assertEqual(desk.promises(), ("Sheet1!B1 at least 0 for Sheet1!A1",))
        desk.do(("put", "A2", "=1/0"))

    def test_errors(self):
        desk = self.desk(promises=["A2 at least 1 for A1 from 0 to 5"])
        for call in (desk.keep, desk.release):
            for value in (None, 1, ["x"], True):
                self.bad(value, call, value)
            self.as_it_was(desk, BadPromise, {"promise": "A2 for A1"}, call, "A2 for A1")
            self.as_it_was(desk, BadPromise, {"promise": "no!A2 never fails for A1"}, call, "no!A2 never fails for A1")
        plain = "Sheet1!A2 at least 1 for Sheet1!A1 from 0 to 5"
        self.as_it_was(desk, Taken, {"name": plain}, desk.keep, "A2 at least 1.0 for $A$1 from 0 to 5")
        self.as_it_was(desk, NotMade, {"promise": "Sheet1!A2 at least 1 for Sheet1!A1"}, desk.release, "a2 at least 1 for A1")
        self.as_it_was(desk, Broken, {"promise": "Sheet1!B1 reaches -1 for Sheet1!A1", "where": None}, desk.keep, "B1 reaches -1 for A1")
        with self.assertRaises(Broken) as caught:
            desk.keep("A2 at least 1 for A1")
        self.assertEqual(caught.exception.promise, "Sheet1!A2 at least 1 for Sheet1!A1")
        self.assertLess(caught.exception.where.compare(0), 0)
        # One that is kept is not judged.
        desk.keep("A3 never fails for B7")
        self.as_it_was(desk, Taken, {"name": "Sheet1!A3 never fails for Sheet1!B7"}, desk.keep, "A3 never fails for B7")


class Undo(DeskCase):
    def test_deeds_attempts_and_promises(self):
        desk = self.desk({"A1": "1", "A2": "=A1"})
        desk.do(("put", "A1", "2"))
        desk.keep("A2 never fails for A1")
        desk.attempt([("put", "B1", "=A2"), ("put", "B2", "=B1")])
        desk.release("A2 never fails for A1")
        states = []
        for _ in range(4):
            states.append((all_texts(desk.current()), desk.promises(), worked(desk)))
            self.assertIsNone(desk.undo())
        self.assertEqual(states, [
            ({"A1": "2", "A2": "=A1", "B1": "=A2", "B2": "=B1"}, (), ("Sheet1!B2",)),
            ({"A1": "2", "A2": "=A1", "B1": "=A2", "B2": "=B1"}, ("Sheet1!A2 never fails for Sheet1!A1",), ("Sheet1!B2",)),
            ({"A1": "2", "A2": "=A1"}, ("Sheet1!A2 never fails for Sheet1!A1",), ("Sheet1!A2",)),
            ({"A1": "2", "A2": "=A1"}, (), ("Sheet1!A2",)),
        ])
        self.assertEqual((all_texts(desk.current()), desk.promises()), ({"A1": "1", "A2": "=A1"}, ()))
        self.fails(NothingToUndo, {}, desk.undo)
        for state in states[::-1]:
            self.assertIsNone(desk.redo())
            self.assertEqual((all_texts(desk.current()), desk.promises(), worked(desk)), state)
        self.fails(NothingToRedo, {}, desk.redo)

    def test_what_changed_nothing(self):
        desk = self.desk({"A1": "1", "A2": "=A1"})
        desk.do(("put", "A1", "5"))
        desk.do(("put", "A1", "5"))
        self.assertEqual(worked(desk), ())
        desk.undo()
        self.assertEqual((desk.current().text_of("A1"), worked(desk)), ("5", ("Sheet1!A2",)))
        desk.undo()
        self.assertEqual(desk.current().text_of("A1"), "1")
        desk.redo()
        desk.redo()
        self.assertEqual(worked(desk), ())
        self.fails(NothingToRedo, {}, desk.redo)

    def test_redo_behind_something_else(self):
        for call in (lambda desk: desk.do(("put", "B1", "1")), lambda desk: desk.attempt([("put", "B1", "1")]),
                     lambda desk: desk.keep("A1 never fails for B1"), lambda desk: desk.do(("put", "A1", "1"))):
            desk = self.desk({"A1": "1"})
            desk.do(("put", "A1", "2"))
            desk.undo()
            call(desk)
            self.fails(NothingToRedo, {}, desk.redo)
            desk.undo()
            desk.redo()
        desk = self.desk({"A1": "1"}, ["A1 never fails for B1"])
        desk.do(("put", "A1", "2"))
        desk.undo()
        desk.release("A1 never fails for B1")
        self.fails(NothingToRedo, {}, desk.redo)

    def test_redo_behind_what_was_not_done(self):
        desk = self.desk({"A1": "1"}, ["A1 at most 5 for B1"])
        desk.do(("put", "A1", "2"))
        desk.undo()
        for call in (lambda: desk.do(("put", "A1", "9")), lambda: desk.keep("A1 at most 0 for B1"), lambda: desk.release("A1 reaches 1 for B1"),
                     lambda: desk.attempt([("put", "A1", "=")])):
            with self.assertRaises(ValueError):
                call()
        desk.redo()
        self.assertEqual(desk.current().text_of("A1"), "2")

    def test_sixty_deeds_back_and_forth(self):
        desk = self.desk({"A1": "1", "B1": "=A1*2"}, ["B1 at least 0 for A1 from 0 to 9"])
        books = [desk.current()]
        for number in range(60):
            deed = [("put", "A1", number), ("insert_rows", "Sheet1", 1, 1), ("put", "C9", f"=A{number // 6 + 1}"),
                    ("delete_rows", "Sheet1", 90, 1), ("define", f"name_{number}", "A1"), ("copy_cells", "C9", "D9")][number % 6]
            desk.do(deed)
            books.append(desk.current())
        for book in books[-2::-1]:
            desk.undo()
            self.assertTrue(desk.current() == book)
            self.assertEqual(worked(desk), last_worked(book))
        self.assertEqual(desk.promises(), ("Sheet1!B1 at least 0 for Sheet1!A1 from 0 to 9",))
        for book in books[1:]:
            desk.redo()
            self.assertTrue(desk.current() == book)
            self.assertEqual(worked(desk), last_worked(book))
        self.assertEqual(desk.promises(), ("Sheet1!B11 at least 0 for Sheet1!A11 from 0 to 9",))


class ChangedBy(DeskCase):
    CELLS = {"A1": "1", "B1": "=A1*A1-1", "B2": "=B1+1", "B3": "5", "B4": "=A1&1", "B5": "x", "C1": "=IF(A1=0,B3,B1)", "D1": "=SEQUENCE(2)"}

    def changed(self, deeds, text, place="A1", low=None, high=None):
        desk = self.desk(self.CELLS, ["B3 at most 5 for A1"])
        book = desk.current()
        found = desk.changed_by(deeds, place, low, high)
        self.assertIs(type(found), tuple)
        self.assertEqual(" ".join(found), text)
        self.assertTrue(desk.current() == book)

    def test_edits_that_change_nothing_for_any_number(self):
        self.changed([], "")
        self.changed([("put", "B1", "=(A1-1)*(A1+1)")], "")
        self.changed([("put", "B1", "=IF(A1>3,A1^2-1,A1*A1-1)"), ("put", "A1", "99"), ("put", "Z1", "new")], "")
        self.changed([("put", "B1", "=7"), ("put", "B1", "=A1^2-1")], "")

    def test_edits_that_change_something(self):
        self.changed([("put", "B1", "=A1*A1")], "Sheet1!B1 Sheet1!C1 Sheet1!B2")
        self.changed([("put", "B1", "=IF(A1=2,9,A1*A1-1)")], "Sheet1!B1 Sheet1!C1 Sheet1!B2")
        self.changed([("put", "B1", "=IF(A1*A1=2,9,A1*A1-1)")], "Sheet1!B1 Sheet1!C1 Sheet1!B2")
        self.changed([("put", "B1", "=IF(A1=2,9,A1*A1-1)")], "", low=3, high=9)
        self.changed([("put", "B1", "=IF(A1=2,9,A1*A1-1)")], "Sheet1!B1 Sheet1!C1 Sheet1!B2", low=2, high=9)
        # A promise that would be broken does not matter.
        self.changed([("put", "B3", "7")], "Sheet1!C1 Sheet1!B3")
        self.changed([("put", "B5", "X")], "Sheet1!B5")
        self.changed([("put", "C1", "=B1")], "Sheet1!C1")

    def test_cells_that_hold_something_both_then_and_behind(self):
        self.changed([("put", "B3", "")], "Sheet1!C1")
        self.changed([("put", "D1", ""), ("put", "D2", "x")], "")
        self.changed([("put", "D2", "x")], "Sheet1!D1")
        self.changed([("add_sheet", "X"), ("rename_sheet", "Sheet1", "Top")], "")
        self.changed([("insert_rows", "Sheet1", 1, 1)], "Sheet1!B2 Sheet1!B3 Sheet1!B5")

    def test_cells_that_are_not_told(self):
        self.changed([("put", "B4", "5")], "")
        self.changed([("put", "B3", "=A1&\"\""), ("put", "B1", "=A1&\"\"")], "")
        self.changed([("put", "B1", "=A1^61")], "")

    def test_the_free_cell(self):
        self.changed([("put", "A1", "=9")], "")
        self.changed([("put", "B3", "6")], "", place="B3")
        self.changed([("put", "B1", "=B3")], "Sheet1!B1 Sheet1!C1 Sheet1!B2", place="B3")
        desk = self.desk({"A1": "1", "Tax!A1": "2", "Tax!B1": "=A1", "B1": "=A1"})
        self.assertEqual(desk.changed_by([("drop_sheet", "Sheet1")], "A1"), ("Tax!A1", "Tax!B1"))
        self.assertEqual(desk.changed_by(place="Tax!A1", deeds=[("drop_sheet", "Sheet1")]), ())
        self.assertEqual(desk.changed_by([("rename_sheet", "Tax", "tax"), ("put", "tax!B1", "=A1+1")], "tax!a1", high=2, low=1),
                         ("Tax!B1",))

    def test_errors_in_their_order(self):
        desk = self.desk(self.CELLS)
        deeds = [("put", "A1", "=")]
        for value in (None, 1, True):
            self.bad(value, desk.changed_by, deeds, value, 5, 1)
        for value in NO_RATIOS:
            self.bad(value, desk.changed_by, deeds, "?", value, 1)
            self.bad(value, desk.changed_by, deeds, "?", 1, value)
        self.bad(1, desk.changed_by, deeds, "?", 1, 1)
        self.fails(NotAName, {"name": "?"}, desk.changed_by, deeds, "?")
        self.fails(Unknown, {"name": "no"}, desk.changed_by, deeds, "no!A1")
        self.fails(NotAFormula, {"at": 1}, desk.changed_by, deeds, "A1")
        self.fails(Unknown, {"name": "Tax"}, desk.changed_by, [("rename_sheet", "tax", "Duty")], "Tax!A1")
        self.fails(TooMany, {"most": 1}, desk.changed_by, [("drop_sheet", "Tax"), ("drop_sheet", "Sheet1")], "A1")
