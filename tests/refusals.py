"""How tests look at what is refused."""


def refused(case, error, call):
    """The exception that a call raises; it has just this class."""
    with case.assertRaises(error) as caught:
        call()
    case.assertIs(type(caught.exception), error)
    return caught.exception
