"""The classes of the kernel, and their methods: those done by rule and those with a source."""

# Each class with its parent.
PARENT_OF = {
    "Object": None,
    "Class": "Object",
    "Metaclass": "Class",
    "UndefinedObject": "Object",
    "Boolean": "Object",
    "True": "Boolean",
    "False": "Boolean",
    "Integer": "Object",
    "String": "Object",
    "Symbol": "String",
    "Array": "Object",
    "Block": "Object",
    "Message": "Object",
    "Exception": "Object",
    "Error": "Exception",
    "NotUnderstood": "Error",
    "ZeroDivide": "Error",
    "WrongArguments": "Error",
    "CannotReturn": "Error",
    "CannotResume": "Error",
    "BadIndex": "Error",
    "BadKind": "Error",
    "Transcript": "Object",
    "Process": "Object",
    "Semaphore": "Object",
    "Processor": "Object",
}

# The own fields of the classes that have some.
FIELDS_OF = {
    "Message": ("selector", "arguments"),
    "Exception": ("text",),
    "NotUnderstood": ("message", "receiver"),
}

# The kernel's classes that a program's classes can have as parents.
PARENTS = ("Object", "Exception", "Error")

# The selectors that are done in place, so that no program has methods for them.
IN_PLACE = {"ifTrue:": True, "ifFalse:": True, "ifTrue:ifFalse:": True, "ifFalse:ifTrue:": True, "and:": True,
            "or:": True, "whileTrue:": True, "whileFalse:": True}

# The selectors that are done by rule, for each class.
BY_RULE = {
    "Object": ("==", "~~", "=", "class", "printString", "isKindOf:", "respondsTo:", "perform:", "perform:with:",
               "copy", "become:"),
    "Class": ("name", "parent"),
    "Integer": ("+", "-", "*", "//", "\\\\", "<", ">", "<=", ">=", "="),
    "String": ("size", "at:", ",", "=", "<", "asSymbol", "asString", "reversed"),
    "Array": ("size", "at:", "at:put:"),
    "Block": ("numArgs", "value", "value:", "value:value:", "valueWithArguments:", "ensure:", "ifCurtailed:",
              "on:do:", "fork"),
    "Exception": ("signal", "return:", "retry", "resume:", "pass"),
    "Semaphore": ("wait", "signal"),
    "Process": ("terminate",),
    "Object class": ("new",),
    "Array class": ("new:",),
    "Transcript class": ("show:",),
    "Processor class": ("yield", "me"),
}

# The methods with a source, of each class as (selector, source).
TEXTS = {
    "Object": (
        ("~=", "~= other ^ (self = other) not"),
        ("isNil", "isNil ^ self == nil"),
        ("notNil", "notNil ^ (self == nil) not"),
        ("yourself", "yourself ^ self"),
        ("error:", "error: t ^ Error new signal: t"),
        ("doesNotUnderstand:", "doesNotUnderstand: m ^ (NotUnderstood new message: m receiver: self) signal"),
        ("mustBeBoolean", "mustBeBoolean ^ BadKind new signal"),
        ("cannotReturn:", "cannotReturn: v ^ CannotReturn new signal"),
        ("ifTrue:", "ifTrue: b ^ self mustBeBoolean"),
        ("ifFalse:", "ifFalse: b ^ self mustBeBoolean"),
        ("ifTrue:ifFalse:", "ifTrue: b ifFalse: c ^ self mustBeBoolean"),
        ("ifFalse:ifTrue:", "ifFalse: b ifTrue: c ^ self mustBeBoolean"),
        ("and:", "and: b ^ self mustBeBoolean"),
        ("or:", "or: b ^ self mustBeBoolean"),
    ),
    "Boolean": (
        ("not", "not ^ self == false"),
    ),
    "True": (
        ("ifTrue:", "ifTrue: b ^ b value"),
        ("ifFalse:", "ifFalse: b ^ nil"),
        ("ifTrue:ifFalse:", "ifTrue: b ifFalse: c ^ b value"),
        ("ifFalse:ifTrue:", "ifFalse: b ifTrue: c ^ c value"),
        ("and:", "and: b ^ b value"),
        ("or:", "or: b ^ true"),
    ),
    "False": (
        ("ifTrue:", "ifTrue: b ^ nil"),
        ("ifFalse:", "ifFalse: b ^ b value"),
        ("ifTrue:ifFalse:", "ifTrue: b ifFalse: c ^ c value"),
        ("ifFalse:ifTrue:", "ifFalse: b ifTrue: c ^ b value"),
        ("and:", "and: b ^ false"),
        ("or:", "or: b ^ b value"),
    ),
    "Integer": (
        ("negated", "negated ^ 0 - self"),
        ("abs", "abs ^ self < 0 ifTrue: [self negated] ifFalse: [self]"),
        ("max:", "max: n ^ self < n ifTrue: [n] ifFalse: [self]"),
        ("min:", "min: n ^ self < n ifTrue: [self] ifFalse: [n]"),
        ("even", "even ^ self \\\\ 2 = 0"),
        ("timesRepeat:", "timesRepeat: b | i | i := 1. [i <= self] whileTrue: [b value. i := i + 1]"),
        ("to:do:", "to: n do: b | i | i := self. [i <= n] whileTrue: [b value: i. i := i + 1]"),
    ),
    "String": (
        ("isEmpty", "isEmpty ^ self size = 0"),
        ("do:", "do: b 1 to: self size do: [:i | b value: (self at: i)]"),
    ),
    "Array": (
        ("isEmpty", "isEmpty ^ self size = 0"),
        ("do:", "do: b 1 to: self size do: [:i | b value: (self at: i)]"),
        ("collect:",
         "collect: b | r | r := Array new: self size. "
         "1 to: self size do: [:i | r at: i put: (b value: (self at: i))]. ^ r"),
        ("inject:into:", "inject: x into: b | r | r := x. self do: [:e | r := b value: r value: e]. ^ r"),
        ("indexOf:", "indexOf: x 1 to: self size do: [:i | (self at: i) = x ifTrue: [^ i]]. ^ 0"),
    ),
    "Block": (
        ("whileTrue:", "whileTrue: b ^ [self value] whileTrue: [b value]"),
        ("whileFalse:", "whileFalse: b ^ [self value] whileFalse: [b value]"),
    ),
    "Message": (
        ("selector", "selector ^ selector"),
        ("arguments", "arguments ^ arguments"),
    ),
    "Exception": (
        ("text", "text ^ text"),
        ("signal:", "signal: t text := t. ^ self signal"),
        ("return", "return ^ self return: nil"),
        ("resume", "resume ^ self resume: nil"),
    ),
    "NotUnderstood": (
        ("message", "message ^ message"),
        ("receiver", "receiver ^ receiver"),
        ("message:receiver:", "message: m receiver: r message := m. receiver := r"),
    ),
    "Exception class": (
        ("signal", "signal ^ self new signal"),
        ("signal:", "signal: t ^ self new signal: t"),
    ),
}


def kernel_texts():
    """The kernel's methods with a source, each as (class, source)."""
    return [(owner, source) for owner, rows in TEXTS.items() for _, source in rows]


def kernel_selectors(name):
    """The selectors of the methods that a class of the kernel has itself, those done by rule first."""
    return list(BY_RULE.get(name, ())) + [selector for selector, _ in TEXTS.get(name, ())]


def kernel_source(name, selector):
    """The source of a method that a class of the kernel has itself, None if it has none with a source."""
    for found, source in TEXTS.get(name, ()):
        if found == selector:
            return source
    return None
