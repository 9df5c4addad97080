"""The errors of the program: one class for each kind of failure."""


class ManydoorsError(ValueError):
    """What all errors of this program have in common."""


class BadSetup(ManydoorsError):
    """Something is not the setup of an inn."""


class BadDeed(ManydoorsError):
    """Something is not a deed of the inn."""


class BadStay(ManydoorsError):
    """Stays cannot be housed beside the rooms that are given."""


class BadHistory(ManydoorsError):
    """Something is not a history of the inn."""


class BadText(ManydoorsError):
    """A text is not of the form in which it should be written."""


class BadLine(ManydoorsError):
    """A line cannot be done at the desk."""
