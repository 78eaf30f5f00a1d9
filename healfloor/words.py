"""Numbers and names as texts: what writing and reading have in common."""

# Words that open brackets in a rule's text, so that none of them can be a name.
BRACKET_WORDS = ("all", "any", "at", "by", "then")
MOST_LETTERS = 8


def is_name(text):
    """Whether the text is a name: one to eight letters a to z, none of the words that open brackets."""
    if not 1 <= len(text) <= MOST_LETTERS or text in BRACKET_WORDS:
        return False
    return all(["a" <= sign <= "z" for sign in text])


def is_number(text, figures):
    """Whether the text is a whole number of at most so many figures, written in the one way there is."""
    digits = text[1:] if text.startswith("-") else text
    if not 1 <= len(digits) <= figures:
        return False
    # Asked by hand: isdigit takes figures of other scripts, too.
    if not all(["0" <= sign <= "9" for sign in digits]):
        return False
    return text == "0" or digits[0] != "0"


def read_numbers(text, many, figures):
    """So many numbers of at most so many figures, parted by commas, as a tuple; None where the text is none such."""
    words = text.split(",")
    if len(words) != many or not all([is_number(word, figures) for word in words]):
        return None
    return tuple([int(word) for word in words])


def show_numbers(numbers):
    """The numbers by their figures, parted by commas."""
    return ",".join([show_number(number) for number in numbers])


def show_number(number):
    """The number by its figures, however many."""
    if number < 0:
        return "-" + show_number(-number)
    # Piece by piece: Python's own str refuses numbers of some thousand figures.
    piece = 10 ** 64
    behind = ""
    while number >= piece:
        behind = str(number % piece).zfill(64) + behind
        number = number // piece
    return str(number) + behind
