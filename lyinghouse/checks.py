"""Checks of arguments that several modules make: each raises the error that the argument calls for."""

from lyinghouse.errors import BadName, BadNumber, BadRoot
from lyinghouse.kinds import is_block, is_integer, is_name


def check_name(name):
    """Raises BadName for what is no name."""
    if not is_name(name):
        raise BadName(name)


def check_number(value, low, high):
    """Raises BadNumber for what is no integer from low to high."""
    if not is_integer(value, low, high):
        raise BadNumber(value)


def check_root(root):
    """Raises BadRoot for what is no root of a map or of a file."""
    if not (root is None or is_block(root)):
        raise BadRoot(root)
