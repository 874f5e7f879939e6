"""The pools of a plan at work: a dict from their names to Accounts, which are never changed."""

from sharedpipe.accounts import Account
from sharedpipe.errors import NoCredit, Overdrawn, Unknown
from sharedpipe.kinds import is_name


def opened_pools(plan):
    """Return the pools of a plan, names ascending, with all credit left."""
    pools = {}
    for name in sorted(plan.shared() + plan.streams()):
        credit, rule, _ = plan[name]
        pools[name] = Account(credit, rule)
    return pools


def account_of(pools, name):
    """Return the Account of a pool, any value; raise Unknown."""
    if not is_name(name) or name not in pools:
        raise Unknown(name)
    return pools[name]


def comes(plan, name):
    """Return whether letters pass a pool when they come."""
    return plan[name][2] == "come"


def after_frames(plan, pools, stream, size, many):
    """Return the pools behind many frames of size letters each; raise NoCredit for the first that lacks credit."""
    behind = dict(pools)
    for name in plan.over(stream):
        if comes(plan, name):
            behind[name] = flowed(pools, name, size, many)
        else:
            behind[name] = drawn(pools, name, size * many)
    return behind


def after_flows(plan, pools, stream, size, many):
    """Return the pools behind many frames that are read at once; raise NoCredit for the first that lacks credit."""
    behind = dict(pools)
    for name in plan.over(stream):
        behind[name] = flowed(pools, name, size, many)
    return behind


def after_readings(plan, pools, stream, amounts):
    """Return the pools behind readings, a list of tuples (size, many)."""
    behind = dict(pools)
    for name in plan.over(stream):
        if not comes(plan, name):
            behind[name] = passed(pools[name], amounts)
    return behind


def drawn(pools, name, many):
    """Return the Account of a pool behind so many letters that were sent and have not passed."""
    account = pools[name].copied()
    if account.left < many:
        raise NoCredit(name)
    account -= many
    return account


def flowed(pools, name, size, many):
    """Return the Account of a pool behind many times size letters that were sent and passed at once."""
    account = pools[name].copied()
    try:
        account.flows(size, many)
    except Overdrawn:
        raise NoCredit(name) from None
    return account


def passed(account, amounts):
    """Return the Account behind amounts that passed, a list of tuples (size, many)."""
    behind = account.copied()
    for size, many in amounts:
        behind.passes(size, many)
    return behind
