"""What is done by rule in Integer, String and Array."""

from imagetalk.objectrules import is_integer, is_instance, same
from imagetalk.things import Refused, Stopped

# An integer of so many bits has at most two hundred digits.
SURELY_SHORT = 664


def number_of(value):
    """The value, which has to be an integer."""
    if not is_integer(value):
        raise Refused("BadKind")
    return value


def bounded(number):
    """The integer, if it has not too many digits."""
    if number.bit_length() > SURELY_SHORT:
        fifty = 10 ** 50
        if abs(number) >= fifty * fifty * fifty * fifty:
            raise Stopped("digits")
    return number


def plus(run, receiver, other):
    """Integer `+`."""
    return bounded(receiver + number_of(other))


def minus(run, receiver, other):
    """Integer `-`."""
    return bounded(receiver - number_of(other))


def times(run, receiver, other):
    """Integer `*`."""
    return bounded(receiver * number_of(other))


def divisor(value):
    """The value, which has to be an integer by which can be divided."""
    if number_of(value) == 0:
        raise Refused("ZeroDivide")
    return value


def divided(run, receiver, other):
    """Integer `//`."""
    return receiver // divisor(other)


def left_over(run, receiver, other):
    """Integer, two backslashes: what is left."""
    return receiver % divisor(other)


def below(run, receiver, other):
    """Integer `<`."""
    return receiver < number_of(other)


def above(run, receiver, other):
    """Integer `>`."""
    return receiver > number_of(other)


def not_above(run, receiver, other):
    """Integer `<=`."""
    return receiver <= number_of(other)


def not_below(run, receiver, other):
    """Integer `>=`."""
    return receiver >= number_of(other)


def equal(run, receiver, other):
    """Integer `=`."""
    return same(run, receiver, other)


def text_in(value):
    """The signs of a String or Symbol."""
    if not is_instance(value, "String") and not is_instance(value, "Symbol"):
        raise Refused("BadKind")
    return value.data


def size(run, receiver):
    """String and Array `size`."""
    return len(receiver.data)


def index_in(receiver, place):
    """The index of a place of a String or an Array."""
    if not is_integer(place):
        raise Refused("BadKind")
    if not 1 <= place <= len(receiver.data):
        raise Refused("BadIndex")
    return place - 1


def sign_at(run, receiver, place):
    """String `at:`."""
    return run.new_text(receiver.data[index_in(receiver, place)])


def put_together(run, receiver, other):
    """String `,`."""
    return run.new_text(receiver.data + text_in(other))


def text_equal(run, receiver, other):
    """String `=`."""
    if receiver.is_a("Symbol"):
        return same(run, receiver, other)
    return is_instance(other, "String") and receiver.data == other.data


def text_below(run, receiver, other):
    """String `<`."""
    return receiver.data < text_in(other)


def as_symbol(run, receiver):
    """String `asSymbol`."""
    return run.new_symbol(receiver.data)


def as_string(run, receiver):
    """String `asString`."""
    return run.new_text(receiver.data) if receiver.is_a("Symbol") else receiver


def turned(run, receiver):
    """String `reversed`."""
    return run.new_text(receiver.data[::-1])


def item_at(run, receiver, place):
    """Array `at:`."""
    return receiver.data[index_in(receiver, place)]


def put_item(run, receiver, place, value):
    """Array `at:put:`."""
    receiver.data[index_in(receiver, place)] = value
    return value


DATA_RULES = {
    ("Integer", "+"): plus,
    ("Integer", "-"): minus,
    ("Integer", "*"): times,
    ("Integer", "//"): divided,
    ("Integer", "\\\\"): left_over,
    ("Integer", "<"): below,
    ("Integer", ">"): above,
    ("Integer", "<="): not_above,
    ("Integer", ">="): not_below,
    ("Integer", "="): equal,
    ("String", "size"): size,
    ("String", "at:"): sign_at,
    ("String", ","): put_together,
    ("String", "="): text_equal,
    ("String", "<"): text_below,
    ("String", "asSymbol"): as_symbol,
    ("String", "asString"): as_string,
    ("String", "reversed"): turned,
    ("Array", "size"): size,
    ("Array", "at:"): item_at,
    ("Array", "at:put:"): put_item,
}
