"""Stands: all that a book knows at one turn."""


def first_stand():
    """The stand with now 0 and nothing else."""
    return (0, (), (), (), (), (), (), (), ())
