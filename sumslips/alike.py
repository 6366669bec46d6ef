"""Alike: what sheets and kinds have in common that go together."""

from sumslips.errors import NotAlike


def check_alike(one, other):
    """Refuses sheets or kinds that differ in their base or number of rows."""
    if one.base != other.base or one.rows != other.rows:
        raise NotAlike("the bases or the numbers of rows differ")
