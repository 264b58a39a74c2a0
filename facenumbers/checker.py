"""The checker of claims: what it accepts is so, whoever wrote the paper."""

from facenumbers.numberclaims import NUMBER_FORMS, NUMBER_PAPERS
from facenumbers.polytopeclaims import POLYTOPE_FORMS, POLYTOPE_PAPERS


def accepts(claim, paper):
    """Whether the claim is one, and the paper one of its papers that are accepted."""
    if not isinstance(claim, tuple) or len(claim) == 0 or not isinstance(claim[0], str):
        return False
    word = claim[0]
    if word in NUMBER_FORMS:
        has_form = NUMBER_FORMS[word]
        shows = NUMBER_PAPERS[word]
    elif word in POLYTOPE_FORMS:
        has_form = POLYTOPE_FORMS[word]
        shows = POLYTOPE_PAPERS[word]
    else:
        return False
    # Only what stands behind the word as it must is looked at together with the paper.
    return has_form(claim[1:]) and shows(claim[1:], paper)
