"""Choosing one thing of each of several lists."""


def all_choices(lists):
    """All tuples of one thing of each list, in order."""
    choices = [()]
    for things in lists:
        choices = [(*choice, thing) for choice in choices for thing in things]
    return choices
