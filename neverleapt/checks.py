"""The errors for arguments that many functions have."""

from neverleapt.errors import NoShare, NoWay
from neverleapt.kinds import is_share, is_way


def check_share(thing):
    """Raise NoShare for what is no share."""
    if not is_share(thing):
        raise NoShare()


def check_way(thing):
    """Raise NoWay for what is no way."""
    if not is_way(thing):
        raise NoWay()
