"""Formula texts, read from left to right with a stack of the brackets that are open."""

from allinputs.addresses import is_sheet_name
from allinputs.areas import check_address
from allinputs.checks import check_string
from allinputs.errors import BadValue, NotAFormula, TooMany
from allinputs.notations import begins_reference, begins_rows, read_reference, word_node
from allinputs.ordering import small_letters
from allinputs.relatives import begins_relative, is_relative_cell, read_relative
from allinputs.scanning import (
    behind_spaces, behind_word, read_array, read_decimal, read_kind, read_quoted, char_at,
)
from allinputs.trees import LEVELS, MOST_HEIGHT
from allinputs.words import is_digit, looks_like_reference, starts_word, truth_word

MOST_FORMULA_CHARACTERS = 2000

MOST_OPEN = 60


class Bracket:
    """What was read within a bracket that is still open, or within none.

    Parts are kept as pairs of a formula and its height; of those above the greatest height the height alone.
    """

    def __init__(self, word):
        # None for a bracket round a formula, otherwise the head of a call.
        self.word = word
        self.parts = []
        self.ahead = []
        self.operands = []
        self.signs = []

    def take(self, part):
        """An operand was read; the signs ahead of it belong to it alone."""
        while self.ahead:
            sign = self.ahead.pop()
            part = _joined(("minus" if sign == "-" else "plus",), [part])
        self.operands.append(part)

    def take_ahead(self, sign):
        """A sign ahead of an operand was read."""
        self.ahead.append(sign)

    def take_sign(self, sign):
        """An operator was read; those ahead of it that bind as tightly come first."""
        while self.signs and LEVELS[self.signs[-1]] >= LEVELS[sign]:
            self._join()
        self.signs.append(sign)

    def end_part(self):
        """The part that was read is complete."""
        while self.signs:
            self._join()
        self.parts.append(self.operands.pop() if self.operands else (("blank",), 1))

    def is_begun(self):
        """Whether anything was read of the part that is read now."""
        return len(self.operands) > 0 or len(self.ahead) > 0

    def told(self):
        """The pair of the formula in the bracket and its height."""
        if self.word is None:
            return self.parts[0]
        parts = [] if len(self.parts) == 1 and self.parts[0][0] == ("blank",) else self.parts
        formula = ("call", self.word.upper(), tuple([part for part, _ in parts]))
        return _of_height(formula, 1 + max([0] + [height for _, height in parts]))

    def _join(self):
        """The last two operands become one."""
        right = self.operands.pop()
        left = self.operands.pop()
        self.operands.append(_joined((self.signs.pop(),), [left, right]))


class Reading:
    """A formula text that is read; base is the cell from which the relative notation is seen, or None."""

    def __init__(self, text, base):
        self.text = text
        self.base = base
        self.at = 1
        self.brackets = [Bracket(None)]
        self.needs_operand = True

    def whole_text(self):
        """The pair of the formula and its height."""
        while True:
            self.at = behind_spaces(self.text, self.at)
            if self.at == len(self.text):
                break
            if self.needs_operand:
                self._read_operand(self.text[self.at])
            else:
                self._read_operator(self.text[self.at])
        if self.needs_operand or len(self.brackets) > 1:
            raise NotAFormula(self.at)
        self.brackets[0].end_part()
        return self.brackets[0].told()

    def _read_operand(self, sign):
        """What stands where a formula begins, or goes on behind an operator."""
        bracket = self.brackets[-1]
        if sign in ("-", "+"):
            bracket.take_ahead(sign)
            self.at = self.at + 1
        elif sign == "(":
            self._begin(None, self.at + 1)
        elif sign in (",", ")") and bracket.word is not None and not bracket.is_begun():
            self._end_argument(sign)
        elif starts_word(sign):
            self._read_word()
        elif is_digit(sign) and (self.base is not None or not begins_rows(self.text, self.at)):
            number, at = read_decimal(self.text, self.at)
            self._take(("number", number), at)
        elif is_digit(sign) or (sign == "$" and self.base is None):
            self._read_reference(self.at, None)
        else:
            self._read_marked(sign)

    def _read_marked(self, sign):
        """A written text, a fault or an array."""
        if sign == "\"":
            text, at = read_quoted(self.text, self.at)
            self._take(("text", text), at)
        elif sign == "#":
            kind, at = read_kind(self.text, self.at)
            self._take(("fault", kind), at)
        elif sign == "{":
            rows, at = read_array(self.text, self.at)
            self._take(("array", rows), at)
        else:
            raise NotAFormula(self.at)

    def _read_word(self):
        """What begins with a word: a head, a sheet and a reference, a reference, a truth or a name."""
        end = behind_word(self.text, self.at)
        word, sign = self.text[self.at:end], char_at(self.text, end)
        if sign == "(":
            self._begin(word, end + 1)
        elif sign == "!" and is_sheet_name(word):
            self._read_reference(end + 1, word)
        elif self._begins_reference(end):
            self._read_reference(self.at, None)
        elif truth_word(word) is not None:
            self._take(("truth", truth_word(word)), end)
        elif self.base is None and word_node(word) is not None:
            self._take(word_node(word), end)
        elif self.base is not None and is_relative_cell(word):
            self._read_reference(self.at, None)
        elif looks_like_reference(word):
            raise NotAFormula(end)
        else:
            self._take(("name", small_letters(word)), end)

    def _begins_reference(self, end):
        """Whether the word that ends at a place can be nothing but the beginning of a reference."""
        if self.base is None:
            return begins_reference(self.text, self.at, end)
        return begins_relative(self.text, self.at, end)

    def _read_reference(self, start, sheet):
        """A reference on a sheet, or on none."""
        if self.base is None:
            node, at = read_reference(self.text, start, sheet)
        else:
            node, at = read_relative(self.text, start, sheet, self.base)
        self._take(node, at)

    def _read_operator(self, sign):
        """What stands behind a formula."""
        two = self.text[self.at:self.at + 2]
        bracket = self.brackets[-1]
        if two in LEVELS or sign in LEVELS:
            told = two if two in LEVELS else sign
            bracket.take_sign(told)
            self.at = self.at + len(told)
            self.needs_operand = True
        elif sign == ")" and len(self.brackets) > 1 and bracket.word is None:
            self._close()
        elif sign in (",", ")") and bracket.word is not None:
            self._end_argument(sign)
        else:
            raise NotAFormula(self.at)

    def _end_argument(self, sign):
        """An argument, maybe an empty one, is complete."""
        if sign == ")":
            self._close()
            return
        self.brackets[-1].end_part()
        self.at = self.at + 1
        self.needs_operand = True

    def _begin(self, word, at):
        """A bracket begins, maybe that of a call."""
        self.brackets.append(Bracket(word))
        self.at = at
        self.needs_operand = True

    def _close(self):
        """The last bracket ends."""
        bracket = self.brackets.pop()
        bracket.end_part()
        self._take_part(bracket.told(), self.at + 1)

    def _take(self, node, at):
        """An operand without parts was read."""
        self._take_part((node, 1), at)

    def _take_part(self, part, at):
        """An operand was read, as the pair of a formula and its height."""
        self.brackets[-1].take(part)
        self.at = at
        self.needs_operand = False


def read_formula(text):
    """The formula of a formula text."""
    _check_text(text)
    return _read(text, None)


def read_relative_formula(text, base):
    """The formula of a formula text in the relative notation, seen from an Address."""
    _check_text(text)
    check_address(base)
    return _read(text, base)


def _read(text, base):
    """The formula of a text; base is None for the notation by letters and digits."""
    _check_brackets(text)
    if not text.startswith("="):
        raise NotAFormula(0)
    formula, height = Reading(text, base).whole_text()
    if height > MOST_HEIGHT:
        raise TooMany(MOST_HEIGHT)
    return formula


def _check_text(text):
    """A string of at most 2,000 characters."""
    check_string(text)
    if len(text) > MOST_FORMULA_CHARACTERS:
        raise BadValue(text)


def _check_brackets(text):
    """A text in which at no place too many more brackets are opened than closed, those between quotes left out."""
    many = 0
    is_quoted = False
    for sign in text:
        if sign == "\"":
            is_quoted = not is_quoted
        elif not is_quoted and sign in ("(", "{"):
            many = many + 1
        elif not is_quoted and sign in (")", "}"):
            many = many - 1
        if many > MOST_OPEN:
            raise TooMany(MOST_OPEN)


def _joined(head, parts):
    """The pair of a formula that begins with a head and has some parts, told as such pairs, and of its height."""
    formula = head + tuple([part for part, _ in parts])
    return _of_height(formula, 1 + max([height for _, height in parts]))


def _of_height(formula, height):
    """The pair of a formula and its height; of one that is too high the height alone."""
    if height > MOST_HEIGHT:
        return None, MOST_HEIGHT + 1
    return formula, height
