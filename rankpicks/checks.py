"""What counts as a whole number, as a name, and as a list of names."""


def is_whole(value):
    """Return whether a value is a whole number."""
    # To Python a Boolean is an integer, too; here it is not.
    return isinstance(value, int) and not isinstance(value, bool)


def is_name(value):
    """Return whether a value is a string of 1 to 8 small letters."""
    if not isinstance(value, str) or not 1 <= len(value) <= 8:
        return False
    return all(["a" <= letter <= "z" for letter in value])


def are_names(value):
    """Return whether a value is a list of different names."""
    if not isinstance(value, list) or not all([is_name(item) for item in value]):
        return False
    return len(set(value)) == len(value)


def are_name_pairs(value):
    """Return whether a value is a list of tuples of two items, the first ones different names."""
    if not isinstance(value, list):
        return False
    if not all([isinstance(item, tuple) and len(item) == 2 for item in value]):
        return False
    return are_names([item[0] for item in value])
