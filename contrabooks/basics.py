"""What the modules share about integers and their texts."""


def is_integer(value):
    """Whether any value is an integer: an int that is no bool."""
    return isinstance(value, int) and not isinstance(value, bool)


def is_number(value):
    """Whether any value is a number: an integer from 0 on."""
    return is_integer(value) and value >= 0


def is_amount(value):
    """Whether any value is an amount: an integer from 1 on."""
    return is_number(value) and value > 0


def read_number(text):
    """The number with a text of decimal digits without leading zeros, or None if it is no such text."""
    # isdigit alone would also take the digits of other scripts.
    if not (text.isascii() and text.isdigit()):
        return None
    if text.startswith("0") and text != "0":
        return None
    return int(text)
