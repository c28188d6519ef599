"""What an integer is, how one is written and read as text, and what a name is."""


def is_int(value):
    """Whether any value is an integer: an int that is not a bool."""
    return isinstance(value, int) and not isinstance(value, bool)


def is_short(value):
    """Whether any value is an integer of at most 40 figures."""
    return is_int(value) and abs(value) < 10 ** 40


def written(number):
    """The text of an integer of any size."""
    if number < 0:
        return f"-{written(-number)}"
    # Python's own str refuses integers of more than 4,300 figures, so a long
    # one is cut in two until each part is short.
    power, figures = 10 ** 64, 64
    if number < power:
        return str(number)
    while power * power <= number:
        power, figures = power * power, figures * 2
    high, low = written(number // power), written(number % power)
    return f"{high}{low.zfill(figures)}"


def integer_in(word, most):
    """The integer whose text is this string, None if there is none with at most so many figures."""
    figures = word[1:] if word.startswith("-") else word
    if len(figures) > most or not figures.isascii() or not figures.isdigit():
        return None
    if figures[0] == "0" and word != "0":
        return None
    return int(word)


def is_from_to(value, low, high):
    """Whether any value is an integer from low to high."""
    return is_int(value) and low <= value <= high


def is_name(value):
    """Whether any value is a string of 1 to 8 letters from a to z."""
    if not isinstance(value, str) or not 1 <= len(value) <= 8:
        return False
    return value.isascii() and value.isalpha() and value.islower()


def ascending(numbers):
    """The ascending tuple of integers, each once."""
    # Beside a class with an order, what is sorted must plainly be integers.
    kept = {number: True for number in numbers}
    return tuple(sorted([int(number) for number in kept]))
