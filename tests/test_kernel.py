"""Points 10, 14 and 15: the kernel's classes and which methods they have."""

import unittest

from imagetalk.classes import lookup, method_of, methods_of
from imagetalk.kernel import kernel_texts
from imagetalk.trees import read_method

EMPTY = ((), "")

# As point 15 writes them, a row for each.
TEXTS = r"""
== Object
~= other ^ (self = other) not
isNil ^ self == nil
notNil ^ (self == nil) not
yourself ^ self
error: t ^ Error new signal: t
doesNotUnderstand: m ^ (NotUnderstood new message: m receiver: self) signal
mustBeBoolean ^ BadKind new signal
cannotReturn: v ^ CannotReturn new signal
ifTrue: b ^ self mustBeBoolean
ifFalse: b ^ self mustBeBoolean
ifTrue: b ifFalse: c ^ self mustBeBoolean
ifFalse: b ifTrue: c ^ self mustBeBoolean
and: b ^ self mustBeBoolean
or: b ^ self mustBeBoolean
== Boolean
not ^ self == false
== True
ifTrue: b ^ b value
ifFalse: b ^ nil
ifTrue: b ifFalse: c ^ b value
ifFalse: b ifTrue: c ^ c value
and: b ^ b value
or: b ^ true
== False
ifTrue: b ^ nil
ifFalse: b ^ b value
ifTrue: b ifFalse: c ^ c value
ifFalse: b ifTrue: c ^ b value
and: b ^ false
or: b ^ b value
== Integer
negated ^ 0 - self
abs ^ self < 0 ifTrue: [self negated] ifFalse: [self]
max: n ^ self < n ifTrue: [n] ifFalse: [self]
min: n ^ self < n ifTrue: [self] ifFalse: [n]
even ^ self \\ 2 = 0
timesRepeat: b | i | i := 1. [i <= self] whileTrue: [b value. i := i + 1]
to: n do: b | i | i := self. [i <= n] whileTrue: [b value: i. i := i + 1]
== String
isEmpty ^ self size = 0
do: b 1 to: self size do: [:i | b value: (self at: i)]
== Array
isEmpty ^ self size = 0
do: b 1 to: self size do: [:i | b value: (self at: i)]
collect: b | r | r := Array new: self size. 1 to: self size do: [:i | r at: i put: (b value: (self at: i))]. ^ r
inject: x into: b | r | r := x. self do: [:e | r := b value: r value: e]. ^ r
indexOf: x 1 to: self size do: [:i | (self at: i) = x ifTrue: [^ i]]. ^ 0
== Block
whileTrue: b ^ [self value] whileTrue: [b value]
whileFalse: b ^ [self value] whileFalse: [b value]
== Message
selector ^ selector
arguments ^ arguments
== Exception
text ^ text
signal: t text := t. ^ self signal
return ^ self return: nil
resume ^ self resume: nil
== NotUnderstood
message ^ message
receiver ^ receiver
message: m receiver: r message := m. receiver := r
== Exception class
signal ^ self new signal
signal: t ^ self new signal: t
"""

# As point 14 tells them.
BY_RULE = {
    "Object": "== ~~ = class printString isKindOf: respondsTo: perform: perform:with: copy become:",
    "Class": "name parent",
    "Integer": "+ - * // \\\\ < > <= >= =",
    "String": "size at: , = < asSymbol asString reversed",
    "Array": "size at: at:put:",
    "Block": "numArgs value value: value:value: valueWithArguments: ensure: ifCurtailed: on:do: fork",
    "Exception": "signal return: retry resume: pass",
    "Semaphore": "wait signal",
    "Process": "terminate",
    "Object class": "new",
    "Array class": "new:",
    "Transcript class": "show:",
    "Processor class": "yield me",
}


def rows():
    """The rows as (class, source)."""
    owner = None
    found = []
    for row in TEXTS.strip().split("\n"):
        if row.startswith("== "):
            owner = row[3:]
        else:
            found.append((owner, row))
    return found


class KernelTest(unittest.TestCase):
    def test_the_texts_row_by_row(self):
        found = kernel_texts()
        for told, expected in zip(found, rows()):
            self.assertEqual(told, expected)
        self.assertEqual(len(found), 54)
        self.assertEqual(found, rows())

    def test_the_list_is_new(self):
        kernel_texts().clear()
        self.assertEqual(kernel_texts(), rows())
        self.assertTrue(all(type(row) is tuple for row in kernel_texts()))

    def test_the_methods_with_a_source(self):
        for owner, source in rows():
            tree = read_method(source)
            self.assertEqual(method_of(EMPTY, owner, tree[1]), tree)
            self.assertEqual(lookup(EMPTY, owner, tree[1]), owner)

    def test_the_methods_by_rule(self):
        for owner, selectors in BY_RULE.items():
            for selector in selectors.split():
                self.assertEqual(lookup(EMPTY, owner, selector), owner, selector)
                self.assertIsNone(method_of(EMPTY, owner, selector))

    def test_there_are_no_others(self):
        own = {}
        for owner, selectors in BY_RULE.items():
            own.setdefault(owner, set()).update(selectors.split())
        for owner, source in rows():
            own.setdefault(owner, set()).add(read_method(source)[1])
        lines = {"Object": ["Object"], "Symbol": ["Symbol", "String", "Object"], "True": ["True", "Boolean", "Object"],
                 "False": ["False", "Boolean", "Object"], "Metaclass": ["Metaclass", "Class", "Object"],
                 "NotUnderstood": ["NotUnderstood", "Error", "Exception", "Object"],
                 "BadKind": ["BadKind", "Error", "Exception", "Object"],
                 "Object class": ["Object class", "Class", "Object"],
                 "Error class": ["Error class", "Exception class", "Object class", "Class", "Object"]}
        for name in ("Integer", "Array", "Block", "Message", "Transcript", "Process", "Semaphore", "Processor",
                     "UndefinedObject", "Class"):
            lines[name] = [name, "Object"]
        for name in ("Array", "Transcript", "Processor", "Integer", "Block", "Process", "Semaphore"):
            lines[name + " class"] = [name + " class", "Object class", "Class", "Object"]
        for name, line in lines.items():
            expected = sorted(set().union(*[own.get(above, set()) for above in line]))
            self.assertEqual(methods_of(EMPTY, name), expected, name)


if __name__ == "__main__":
    unittest.main()
