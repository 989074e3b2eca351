"""Papers: what the package tells, with all that is needed to look at it."""


class Paper:
    """The base of all papers; each paper tells itself what its attributes are and when it is equal."""
