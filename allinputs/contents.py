"""Contents of cells: what texts stand for, and the texts that stand for contents."""

from allinputs.numerals import number_text, read_number, wrong_place
from allinputs.parser import read_formula
from allinputs.printer import tree_text
from allinputs.turning import truth_of
from allinputs.values import Fault


def content_for(text):
    """What a text stands for: a Ratio, a text, a truth, a formula, or None for nothing."""
    if text == "":
        return None
    if text.startswith("="):
        return read_formula(text)
    if text.startswith("'"):
        return text[1:]
    if wrong_place(text) is None:
        return read_number(text)
    truth = truth_of(text)
    return text if isinstance(truth, Fault) else truth


def text_of_content(content):
    """The text of a Ratio, a text, a truth or a formula as a content."""
    if isinstance(content, bool):
        return "TRUE" if content else "FALSE"
    if isinstance(content, tuple):
        return tree_text(content)
    if not isinstance(content, str):
        return number_text(content)
    return content if _stands_for_itself(content) else "'" + content


def _stands_for_itself(text):
    """Whether a text, by itself, stands for this text."""
    if text == "" or text[0] in ("=", "'") or wrong_place(text) is None:
        return False
    return isinstance(truth_of(text), Fault)
