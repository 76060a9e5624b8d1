"""Programs as texts."""

from sortforge.errors import BadText

MOST_FIGURES = 3


def written(program):
    """The text of the program."""
    return " ".join(f"{i}:{j}" for i, j in program)


def read(text):
    """The program that is written so; any other text is refused with BadText."""
    if text == "":
        return ()
    return tuple([_compare_of(part) for part in text.split(" ")])


def _compare_of(part):
    ahead, _, behind = part.partition(":")
    if not _is_place(ahead) or not _is_place(behind):
        raise BadText("a compare is two numbers with a colon between")
    compare = (int(ahead), int(behind))
    if compare[0] >= compare[1]:
        raise BadText("the first number of a compare is less than the second")
    return compare


def _is_place(word):
    # To Python signs of other scripts are figures, too.
    if not word.isascii() or not word.isdigit() or len(word) > MOST_FIGURES:
        return False
    return word == "0" or not word.startswith("0")
