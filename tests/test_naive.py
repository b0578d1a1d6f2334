"""[40], [41], [45] to [48]: books that change by chance, beside what the words of the document tell of them."""

import random

from allinputs.book import Book
from allinputs.errors import BadValue, OffGrid, Taken, TooHigh, TooMany, Unknown
from allinputs.filling import fill_cells
from allinputs.moving import copy_cells, move_cells
from allinputs.sorting import sort_rows
from allinputs.spills import reach_at, spill_area, spilled_from
from allinputs.structure import close_cells, delete_columns, delete_rows, insert_columns, insert_rows, open_cells
from allinputs.values import same
from allinputs.webs import fed_by, hangs_on, rings
from allinputs.working import fresh_values, last_worked
from tests.books import BookCase
from tests.naive import Naive, worked_between

CELLS = [letter + str(row) for letter in "ABCD" for row in range(1, 6)]
NAMES = ["na.x", "nb.x", "nc.x"]
SHAPES = ["=%s", "=SUM(%s)", "=%s+1", "=SEQUENCE(2,2)+%s", "=IF(%s>1,%s,2)", "=TRANSPOSE(%s)", "=SORT(%s)", "=INDEX(%s,1)",
          "=COUNT(%s)*{1,2}", "=%s&\"x\"", "=SUM(%s,%s)", "=ROW(%s)", "=COLUMN(%s)", "=MMULT(%s,%s)", "=%s*%s", "=SEQUENCE(%s)",
          "=-%s", "=POWER(10,64)^50+%s", "=IFERROR(%s,0)", "=UNIQUE(%s)", "={1;2;3}"]


class Chances(BookCase):
    def reference(self):
        chance = self.chance
        sheet = "Tax!" if chance.random() < 0.15 else ""
        return chance.choice([
            sheet + chance.choice(CELLS), sheet + chance.choice(CELLS), sheet + chance.choice(CELLS) + ":" + chance.choice(CELLS),
            sheet + chance.choice(CELLS) + "#", sheet + chance.choice(["A:A", "B:C", "$D:D", "1:1", "2:3"]), chance.choice(NAMES)])

    def formula(self):
        text = self.chance.choice(SHAPES)
        while "%s" in text:
            text = text.replace("%s", self.reference(), 1)
        return text

    def content(self):
        return self.chance.choice(["", "", "3", "-1", "abc", "TRUE"] + [self.formula() for _ in range(6)])

    def change(self, book):
        """One call that can change the book, with its arguments."""
        chance = self.chance
        area = chance.choice(CELLS) + ":" + chance.choice(CELLS)
        sheet = chance.choice(["sheet1", "tax"])
        lines = (book, sheet, chance.randint(1, 5), chance.randint(1, 2))
        put = (book.put, (chance.choice(["", "", "Tax!"]) + chance.choice(CELLS), self.content()), {})
        return chance.choice([put] * 14 + [
            (book.define, (chance.choice(NAMES), self.formula()[1:]), {}), (book.define, (chance.choice(NAMES), "B2#"), {}),
            (book.undefine, (chance.choice(NAMES),), {}), (chance.choice([insert_rows, insert_columns]), lines, {}),
            (chance.choice([delete_rows, delete_columns]), lines, {}), (open_cells, (book, area), {"down": chance.random() < 0.5}),
            (close_cells, (book, area), {"up": chance.random() < 0.5}),
            (chance.choice([move_cells, copy_cells]), (book, area, chance.choice(["", "Tax!"]) + chance.choice(CELLS)), {}),
            (fill_cells, (book, "A1:B2", chance.choice(["A1:B4", "A1:D2"])), {}),
            (sort_rows, (book, "A1:C4", [(chance.randint(1, 3), chance.random() < 0.5)]), {}),
            (chance.choice([book.add_sheet, book.drop_sheet]), (chance.choice(["Tax", "More"]),), {}),
            (book.rename_sheet, (chance.choice(["Tax", "More"]), chance.choice(["Tax", "More", "Sheet1"])), {})])

    def place(self, book, cell):
        return f"{book.sheets()[cell[0]]}!{'ABCDEFGHIJKLMNOPQRSTUVWXYZ'[cell[2] - 1]}{cell[1]}"

    def places(self, book, cells):
        return tuple(self.place(book, cell) for cell in cells)

    def check_web(self, book, naive):
        for cell in naive.formulas:
            place = self.place(book, cell)
            self.assertEqual(hangs_on(book, place), self.places(book, sorted(naive.hangs[cell])), place)
            self.assertEqual(reach_at(book, place), naive.sizes[cell], place)
        for cell in self.chance.sample(CELLS, 5):
            place = book.sheets()[0] + "!" + cell
            own = (0, int(cell[1]), ord(cell[0]) - 64)
            told = [other for other in naive.formulas if own in naive.seen[other] or own in naive.hangs[other]]
            self.assertEqual(fed_by(book, place), self.places(book, sorted(told)))
        ringed = [cell for cell in naive.formulas if cell in naive.all_below(cell)]
        self.assertEqual(sorted(place for ring in rings(book) for place in ring), sorted(self.places(book, ringed)))

    def check_values(self, book, naive):
        """All values are those that are told if all is worked anew, in a book made anew."""
        fresh = fresh_values(book)
        other = book.copied()
        other.add_sheet("Anew")
        other.drop_sheet("Anew")
        for number, sheet in enumerate(book.sheets()):
            for cell in CELLS:
                place = f"{sheet}!{cell}"
                try:
                    value, area, source = book.value_of(place), spill_area(book, place), spilled_from(book, place)
                except TooHigh:
                    self.fails(TooHigh, {"most": 3000}, other.value_of, place)
                    self.assertNotIn(place, fresh)
                    continue
                self.assertTrue(same(value, other.value_of(place)), place)
                self.assertEqual((area, source), (spill_area(other, place), spilled_from(other, place)))
                if book.text_of(place):
                    self.assertTrue(same(value, fresh[place]), place)
                if source is not None:
                    # A formula spills within its reach alone.
                    owner = source.rpartition("!")[2]
                    reach = naive.reaches[(number, int(owner[1:]), ord(owner[0]) - 64)]
                    self.assertIn((number, int(cell[1]), ord(cell[0]) - 64), reach)

    def test_books_that_change_by_chance(self):
        for seed in range(250):
            self.chance = random.Random(seed)
            book = Book()
            if seed % 3:
                book.add_sheet("Tax")
            before = Naive(book)
            for _ in range(14):
                call, arguments, named = self.change(book)
                try:
                    call(*arguments, **named)
                except (Unknown, Taken, TooHigh, TooMany, OffGrid, BadValue):
                    self.assertEqual(Naive(book).texts, before.texts)
                    continue
                behind = Naive(book)
                told = self.places(book, worked_between(before, behind))
                self.assertEqual(last_worked(book), told, (seed, call, arguments[1:]))
                if self.chance.random() < 0.4:
                    self.check_web(book, behind)
                if self.chance.random() < 0.4:
                    self.check_values(book, behind)
                before = behind
