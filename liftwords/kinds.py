"""Questions about values of any kind, for the modules that refuse the wrong ones."""


def is_whole(value):
    """Whether a value is an integer."""
    # To Python True and False are integers; to the document they are not.
    return isinstance(value, int) and not isinstance(value, bool)


def is_between(value, least, most):
    """Whether a value is an integer from least to most."""
    # Asked of each letter and each deed: not by is_whole, which would take twice as long.
    return isinstance(value, int) and not isinstance(value, bool) and least <= value <= most


def is_listing(value):
    """Whether a value is a list or tuple."""
    return isinstance(value, (list, tuple))
