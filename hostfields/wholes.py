"""What counts as a whole number. Other modules ask here, so that truths are kept out everywhere alike."""


def is_whole(thing):
    return isinstance(thing, int) and not isinstance(thing, bool)


def is_from(thing, least):
    return is_whole(thing) and least <= thing


def is_between(thing, least, most):
    return is_from(thing, least) and thing <= most
