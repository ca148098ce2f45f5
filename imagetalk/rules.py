"""The methods that are done by rule."""

from imagetalk.blockrules import ARITY_RULES, BLOCK_RULES
from imagetalk.datarules import DATA_RULES
from imagetalk.objectrules import OBJECT_RULES, PERFORM_RULES


def rule_of(name, selector):
    """What does the method of a class by rule, None if nothing, and whether it returns the answer."""
    key = (name, selector)
    for action in (OBJECT_RULES.get(key), DATA_RULES.get(key), ARITY_RULES.get(key)):
        if action is not None:
            return (action, True)
    action = BLOCK_RULES.get(key)
    if action is None:
        action = PERFORM_RULES.get(key)
    return (action, False)
