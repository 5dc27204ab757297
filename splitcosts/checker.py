"""The checker: which claims are shown by which papers."""

from splitcosts.claims import is_claim
from splitcosts.papers import is_paper


def accepts(claim, paper):
    """Tell whether CLAIM is a claim for the checker and PAPER one for it, whatever both are."""
    return is_claim(claim) and is_paper(claim, paper)
