"""What the papers of the package have in common."""


class Verdict:
    """The base of papers that tell yes or no: each paper below it tells by `bool` which."""
