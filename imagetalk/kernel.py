"""The classes of the kernel, and their methods: those done by rule and those with a source."""

# Each class with its parent and its own fields.
CLASSES = (
    ("Object", None, ()),
    ("Class", "Object", ()),
    ("Metaclass", "Class", ()),
    ("UndefinedObject", "Object", ()),
    ("Boolean", "Object", ()),
    ("True", "Boolean", ()),
    ("False", "Boolean", ()),
    ("Integer", "Object", ()),
    ("String", "Object", ()),
    ("Symbol", "String", ()),
    ("Array", "Object", ()),
    ("Block", "Object", ()),
    ("Message", "Object", ("selector", "arguments")),
    ("Exception", "Object", ("text",)),
    ("Error", "Exception", ()),
    ("NotUnderstood", "Error", ("message", "receiver")),
    ("ZeroDivide", "Error", ()),
    ("WrongArguments", "Error", ()),
    ("CannotReturn", "Error", ()),
    ("CannotResume", "Error", ()),
    ("BadIndex", "Error", ()),
    ("BadKind", "Error", ()),
    ("Transcript", "Object", ()),
    ("Process", "Object", ()),
    ("Semaphore", "Object", ()),
    ("Processor", "Object", ()),
)

# The kernel's classes that a program's classes can have as parents.
PARENTS = ("Object", "Exception", "Error")

# The selectors that are done in place, so that no program has methods for them.
IN_PLACE = ("ifTrue:", "ifFalse:", "ifTrue:ifFalse:", "ifFalse:ifTrue:", "and:", "or:", "whileTrue:", "whileFalse:")

# The selectors that are done by rule, for each class.
BY_RULE = (
    ("Object", ("==", "~~", "=", "class", "printString", "isKindOf:", "respondsTo:", "perform:", "perform:with:",
                "copy", "become:")),
    ("Class", ("name", "parent")),
    ("Integer", ("+", "-", "*", "//", "\\\\", "<", ">", "<=", ">=", "=")),
    ("String", ("size", "at:", ",", "=", "<", "asSymbol", "asString", "reversed")),
    ("Array", ("size", "at:", "at:put:")),
    ("Block", ("numArgs", "value", "value:", "value:value:", "valueWithArguments:", "ensure:", "ifCurtailed:",
               "on:do:", "fork")),
    ("Exception", ("signal", "return:", "retry", "resume:", "pass")),
    ("Semaphore", ("wait", "signal")),
    ("Process", ("terminate",)),
    ("Object class", ("new",)),
    ("Array class", ("new:",)),
    ("Transcript class", ("show:",)),
    ("Processor class", ("yield", "me")),
)

# The methods with a source: class, selector, source.
TEXTS = (
    ("Object", "~=", "~= other ^ (self = other) not"),
    ("Object", "isNil", "isNil ^ self == nil"),
    ("Object", "notNil", "notNil ^ (self == nil) not"),
    ("Object", "yourself", "yourself ^ self"),
    ("Object", "error:", "error: t ^ Error new signal: t"),
    ("Object", "doesNotUnderstand:", "doesNotUnderstand: m ^ (NotUnderstood new message: m receiver: self) signal"),
    ("Object", "mustBeBoolean", "mustBeBoolean ^ BadKind new signal"),
    ("Object", "cannotReturn:", "cannotReturn: v ^ CannotReturn new signal"),
    ("Object", "ifTrue:", "ifTrue: b ^ self mustBeBoolean"),
    ("Object", "ifFalse:", "ifFalse: b ^ self mustBeBoolean"),
    ("Object", "ifTrue:ifFalse:", "ifTrue: b ifFalse: c ^ self mustBeBoolean"),
    ("Object", "ifFalse:ifTrue:", "ifFalse: b ifTrue: c ^ self mustBeBoolean"),
    ("Object", "and:", "and: b ^ self mustBeBoolean"),
    ("Object", "or:", "or: b ^ self mustBeBoolean"),
    ("Boolean", "not", "not ^ self == false"),
    ("True", "ifTrue:", "ifTrue: b ^ b value"),
    ("True", "ifFalse:", "ifFalse: b ^ nil"),
    ("True", "ifTrue:ifFalse:", "ifTrue: b ifFalse: c ^ b value"),
    ("True", "ifFalse:ifTrue:", "ifFalse: b ifTrue: c ^ c value"),
    ("True", "and:", "and: b ^ b value"),
    ("True", "or:", "or: b ^ true"),
    ("False", "ifTrue:", "ifTrue: b ^ nil"),
    ("False", "ifFalse:", "ifFalse: b ^ b value"),
    ("False", "ifTrue:ifFalse:", "ifTrue: b ifFalse: c ^ c value"),
    ("False", "ifFalse:ifTrue:", "ifFalse: b ifTrue: c ^ b value"),
    ("False", "and:", "and: b ^ false"),
    ("False", "or:", "or: b ^ b value"),
    ("Integer", "negated", "negated ^ 0 - self"),
    ("Integer", "abs", "abs ^ self < 0 ifTrue: [self negated] ifFalse: [self]"),
    ("Integer", "max:", "max: n ^ self < n ifTrue: [n] ifFalse: [self]"),
    ("Integer", "min:", "min: n ^ self < n ifTrue: [self] ifFalse: [n]"),
    ("Integer", "even", "even ^ self \\\\ 2 = 0"),
    ("Integer", "timesRepeat:", "timesRepeat: b | i | i := 1. [i <= self] whileTrue: [b value. i := i + 1]"),
    ("Integer", "to:do:", "to: n do: b | i | i := self. [i <= n] whileTrue: [b value: i. i := i + 1]"),
    ("String", "isEmpty", "isEmpty ^ self size = 0"),
    ("String", "do:", "do: b 1 to: self size do: [:i | b value: (self at: i)]"),
    ("Array", "isEmpty", "isEmpty ^ self size = 0"),
    ("Array", "do:", "do: b 1 to: self size do: [:i | b value: (self at: i)]"),
    ("Array", "collect:",
     "collect: b | r | r := Array new: self size. "
     "1 to: self size do: [:i | r at: i put: (b value: (self at: i))]. ^ r"),
    ("Array", "inject:into:", "inject: x into: b | r | r := x. self do: [:e | r := b value: r value: e]. ^ r"),
    ("Array", "indexOf:", "indexOf: x 1 to: self size do: [:i | (self at: i) = x ifTrue: [^ i]]. ^ 0"),
    ("Block", "whileTrue:", "whileTrue: b ^ [self value] whileTrue: [b value]"),
    ("Block", "whileFalse:", "whileFalse: b ^ [self value] whileFalse: [b value]"),
    ("Message", "selector", "selector ^ selector"),
    ("Message", "arguments", "arguments ^ arguments"),
    ("Exception", "text", "text ^ text"),
    ("Exception", "signal:", "signal: t text := t. ^ self signal"),
    ("Exception", "return", "return ^ self return: nil"),
    ("Exception", "resume", "resume ^ self resume: nil"),
    ("NotUnderstood", "message", "message ^ message"),
    ("NotUnderstood", "receiver", "receiver ^ receiver"),
    ("NotUnderstood", "message:receiver:", "message: m receiver: r message := m. receiver := r"),
    ("Exception class", "signal", "signal ^ self new signal"),
    ("Exception class", "signal:", "signal: t ^ self new signal: t"),
)


def kernel_texts():
    """The kernel's methods with a source, each as (class, source)."""
    return [(owner, source) for owner, _, source in TEXTS]


def kernel_selectors(name):
    """The selectors of the methods that a class of the kernel has itself, those done by rule first."""
    found = []
    for owner, selectors in BY_RULE:
        if owner == name:
            found.extend(list(selectors))
    for owner, selector, _ in TEXTS:
        if owner == name:
            found.append(selector)
    return found


def kernel_source(name, selector):
    """The source of a method that a class of the kernel has itself, None if it has none with a source."""
    for owner, found, source in TEXTS:
        if owner == name and found == selector:
            return source
    return None
