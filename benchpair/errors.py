"""The errors that tell what was refused."""


class BenchError(ValueError):
    """What every refusal of this program is."""


class BadThings(BenchError):
    """What was handed in as things is no list of triples of lengths."""


class BadOrder(BenchError):
    """What was handed in as an order is no list of all counts, each once."""


class BadTime(BenchError):
    """What was handed in as a time is no whole number."""


class BadText(BenchError):
    """What was handed in as a text is not things as they are written."""
