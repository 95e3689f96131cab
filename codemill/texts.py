"""Codes written as texts, and read back."""

from codemill.codes import MOST_ROWS, arg_sort, check_code, first_bad_place, is_op, is_row
from codemill.errors import BadText

# No number of a row has more figures than 10 ** 9.
MOST_FIGURES = 10

VALUE_WORDS = {"none": None, "true": True, "false": False}


def value_text(value):
    """The word that writes a value of push."""
    # 1 and 0 equal truths, so these are asked for by `is`.
    if value is None:
        return "none"
    if value is True:
        return "true"
    if value is False:
        return "false"
    if isinstance(value, str):
        return f"'{value}'"
    return str(value)


def row_text(row):
    """The line that writes the row, without its line feed."""
    op, arg, line = row
    sort = arg_sort(op)
    if sort == "none":
        return f"{line} {op}"
    if sort == "value":
        return f"{line} {op} {value_text(arg)}"
    return f"{line} {op} {arg}"


def code_text(code):
    """The text that writes the code; BadCode."""
    check_code(code)
    return "".join([row_text(row) + "\n" for row in code])


def guessed_number(word):
    """The number that the word may write, None if it surely writes none of a row."""
    figures = word.removeprefix("-")
    # Python refuses to read numbers of some thousands of figures, so long ones don't come to it.
    if len(figures) <= MOST_FIGURES and figures.isascii() and figures.isdigit():
        return int(word)
    return None


def guessed_arg(op, word):
    """The one arg of the op that the word may write; no arg that fits, if it surely writes none."""
    sort = arg_sort(op)
    if sort == "name":
        return word
    if sort == "value" and word in VALUE_WORDS:
        return VALUE_WORDS[word]
    if sort == "value" and word.startswith("'"):
        return word[1:-1]
    return guessed_number(word)


def guessed_row(words):
    """The one row that the words of a line may write, None if they surely write none."""
    if len(words) not in (2, 3) or not is_op(words[1]):
        return None
    op = words[1]
    line = guessed_number(words[0])
    if len(words) == 2:
        return (op, None, line)
    return (op, guessed_arg(op, words[2]), line)


def read_row(written):
    """The row that the line writes, None if it writes none."""
    row = guessed_row(written.split(" "))
    # A guess lets too much by, such as needless noughts; what is written otherwise than the row is none.
    if is_row(row) and row_text(row) == written:
        return row
    return None


def written_lines(text):
    """The lines of the text, without their line feeds; BadText of what has none, or too many."""
    if not isinstance(text, str) or not text.endswith("\n") or text.count("\n") > MOST_ROWS:
        raise BadText(None)
    return text[:-1].split("\n")


def read_code(text):
    """The code that the text writes; BadText."""
    rows = [read_row(written) for written in written_lines(text)]
    # A line that writes no row has to be told ahead of marks that stand in lines above it.
    if None in rows:
        raise BadText(rows.index(None))
    at = first_bad_place(rows)
    if at is not None:
        raise BadText(at)
    return rows
