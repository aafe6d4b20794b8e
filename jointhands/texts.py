"""The lines of text that write the rows of programs."""

MOST_FIGURES = 60

# For each word but tell, whether each of the numbers behind it may be below 0.
MAY_BE_NEGATIVE = {
    "put": (False,),
    "number": (True,),
    "add": (False, False),
    "less": (False, False),
    "times": (False, False),
    "scale": (True, False),
}


def read_row(line):
    """The row that a line writes, None if it is not of the form."""
    word, *texts = line.split(" ")
    if word == "tell":
        negative = (False,) * max(2, len(texts))
    else:
        negative = MAY_BE_NEGATIVE.get(word, ())
    if not negative or len(texts) != len(negative):
        return None
    numbers = [read_number(text, may_be) for text, may_be in zip(texts, negative)]
    if None in numbers:
        return None
    if word == "tell":
        return (word, numbers[0], tuple(numbers[1:]))
    return (word, *numbers)


def read_number(text, may_be_negative):
    """The number that a text writes, None if it is not of the form."""
    figures = text[1:] if may_be_negative and text.startswith("-") else text
    # Other signs than 0 to 9 count as digits, too, where they are not ASCII.
    if not 1 <= len(figures) <= MOST_FIGURES or not figures.isascii() or not figures.isdigit():
        return None
    if figures.startswith("0") and text != "0":
        return None
    return int(text)


def write_row(row):
    """The line that writes a row."""
    numbers = [row[1], *row[2]] if row[0] == "tell" else row[1:]
    words = [str(number) for number in numbers]
    return " ".join([row[0], *words])
