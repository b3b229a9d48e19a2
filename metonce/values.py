"""What any value is asked ahead of all else, so that nothing of it is read that may not be there."""


def is_tuple_of(value, length):
    """Tells whether any value is a tuple with so many items."""
    return isinstance(value, tuple) and len(value) == length


def is_number(value, limit):
    """Tells whether any value is an integer from 0 to less than the limit."""
    # A bool is an int to Python, but no integer to the document.
    return isinstance(value, int) and not isinstance(value, bool) and 0 <= value < limit
