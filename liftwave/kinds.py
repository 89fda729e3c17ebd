"""What kind a thing is, for the questions that are asked of anything."""


def is_number(thing):
    # Python counts True and False among the ints; the document does not.
    return isinstance(thing, int) and not isinstance(thing, bool)
