"""Numbers as `str` writes them."""

DIGITS = "0123456789"


def read_number(text, most):
    """The integer of at least 0 with a text that has at most so many digits; `None` if it is no such text."""
    if not 1 <= len(text) <= most or not all([letter in DIGITS for letter in text]):
        return None
    return None if text[0] == "0" and text != "0" else int(text)
