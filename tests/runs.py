"""Programs that are run, with what is known of them: the walk and the machine are asked about the same ones."""

# Expressions and what is told of their values; behind `!` what signals the refusal of the last message.
VALUES = r"""
3 == 3 => true
3 == 4 => false
3 == true => false
true == true => true
true == false => false
nil == false => false
nil == nil => true
'a' == 'a' => false
#a == #a => true
#a == 'a' => false
Object == Object => true
Object == Object class => false
(3 ~~ 3) => false
'a' ~~ 'a' => true
nil ~~ 0 => true
#(1) = #(1) => false
nil = nil => true
Object new = Object new => false
3 class => Integer
nil class => UndefinedObject
true class => True
false class => False
'a' class => String
#a class => Symbol
#(1) class => Array
[] class => Block
Object class => Object class
Object class class => Metaclass
Metaclass class => Metaclass class
Metaclass class class => Metaclass
Semaphore new class => Semaphore
[] fork class => Process
3 printString => '3'
-3 printString => '-3'
'it''s' printString => '''it''''s'''
#(1 'a' #b nil) printString => '#(1 ''a'' #b nil)'
Object printString => 'Object'
Object new printString => 'an Object'
3 isKindOf: Integer => true
3 isKindOf: Object => true
3 isKindOf: String => false
3 isKindOf: 3 => false
#a isKindOf: String => true
Error isKindOf: Class => true
Error isKindOf: Error => false
Error class isKindOf: Metaclass => true
3 respondsTo: #foo => false
3 respondsTo: #+ => true
3 respondsTo: #even => true
3 respondsTo: #'a b' => false
Error respondsTo: #new => true
Error respondsTo: #text => false
3 respondsTo: 'even' ! BadKind
3 respondsTo: nil ! BadKind
3 perform: #even => false
3 perform: #+ with: 4 => 7
3 perform: #max: with: 4 => 4
3 perform: 'even' ! BadKind
3 perform: 7 ! BadKind
3 perform: 7 with: 8 ! BadKind
3 perform: #+ ! WrongArguments
3 perform: #max: ! WrongArguments
3 perform: #even with: 4 ! WrongArguments
3 perform: #at:put: with: 4 ! WrongArguments
3 perform: #'a b' with: 4 ! WrongArguments
3 perform: #'at: put:' with: 4 ! WrongArguments
3 perform: #perform: with: #even => false
3 copy => 3
nil copy => nil
#a copy == #a => true
'a' copy => 'a'
Error copy == Error => true
#(1 2) copy => #(1 2)
[3] copy value => 3
Object name => 'Object'
Object class name => 'Object class'
Object parent => nil
Error parent => Exception
Error class parent => Exception class
Object class parent => Class
Metaclass parent => Class
Metaclass class parent => Class class
3 + 4 => 7
3 - 4 => -1
3 * -4 => -12
7 // 2 => 3
-7 // 2 => -4
7 // -2 => -4
-7 // -2 => 3
7 \\ 2 => 1
-7 \\ 2 => 1
7 \\ -2 => -1
-7 \\ -2 => -1
3 < 4 => true
4 < 4 => false
4 > 3 => true
4 > 4 => false
4 <= 4 => true
5 <= 4 => false
4 >= 4 => true
3 >= 4 => false
3 = 3 => true
3 = 4 => false
3 = '3' => false
3 = nil => false
3 + nil ! BadKind
3 - true ! BadKind
3 * 'a' ! BadKind
3 // nil ! BadKind
3 // 0 ! ZeroDivide
3 \\ 0 ! ZeroDivide
3 \\ Object ! BadKind
3 < nil ! BadKind
3 > 'a' ! BadKind
3 <= true ! BadKind
3 >= #a ! BadKind
'abc' size => 3
#abc size => 3
'' size => 0
'abc' at: 2 => 'b'
#abc at: 3 => 'c'
'abc' at: 0 ! BadIndex
'abc' at: 4 ! BadIndex
'abc' at: nil ! BadKind
'abc' at: true ! BadKind
'ab' , 'cd' => 'abcd'
#ab , #cd => 'abcd'
'ab' , nil ! BadKind
'ab' , #(1) ! BadKind
'a' = 'a' => true
'a' = 'b' => false
'a' = #a => false
#a = 'a' => false
#a = #a => true
'a' = nil => false
'a' < 'b' => true
'b' < 'a' => false
'a' < 'a' => false
'B' < 'a' => true
'a' < #ab => true
'a' < 3 ! BadKind
'a b' asSymbol => #'a b'
'foo' asSymbol == #foo => true
#foo asSymbol == #foo => true
#foo asString => 'foo'
'foo' asString => 'foo'
'abc' reversed => 'cba'
#abc reversed => 'cba'
#() size => 0
#(7 8) at: 1 => 7
#(7 8) at: 2 => 8
#(7 8) at: 3 ! BadIndex
#(7 8) at: -1 ! BadIndex
#(7 8) at: '1' ! BadKind
#(7 8) at: 2 put: #x => #x
#(7 8) at: 0 put: 1 ! BadIndex
#(7 8) at: nil put: 1 ! BadKind
[] numArgs => 0
[:a :b | a] numArgs => 2
[] value => nil
[3. 4] value => 4
[:x | x + 1] value: 4 => 5
[:x :y | x - y] value: 4 value: 1 => 3
[:x] value: 4 => nil
[:x | x] value ! WrongArguments
[3] value: 4 ! WrongArguments
[:x | x] value: 4 value: 5 ! WrongArguments
[:x :y :z | z] valueWithArguments: #(1 2 3) => 3
[3] valueWithArguments: #() => 3
[3] valueWithArguments: 3 ! BadKind
[3] valueWithArguments: #(1) ! WrongArguments
[:x | x] valueWithArguments: #() ! WrongArguments
[3] ensure: [4] => 3
[3] ensure: 4 ! BadKind
[:x | x] ensure: 4 ! BadKind
[:x | x] ensure: [4] ! WrongArguments
[3] ensure: [:x | x] ! WrongArguments
[3] ifCurtailed: [4] => 3
[3] ifCurtailed: nil ! BadKind
[:x | x] ifCurtailed: [4] ! WrongArguments
[3] ifCurtailed: [:x | x] ! WrongArguments
[3] on: Error do: [4] => 3
[3] on: Error class do: [4] => 3
[3] on: 4 do: [5] ! BadKind
[3] on: Error do: 5 ! BadKind
[3] on: Error do: [:x :y | x] ! BadKind
[:x | x] on: 4 do: [5] ! BadKind
[:x | x] on: Error do: [5] ! WrongArguments
[1 // 0] on: ZeroDivide do: [4] => 4
[1 // 0. 5] on: ZeroDivide do: [:e] => nil
[:x | x] fork ! WrongArguments
[3] fork => a Process
Exception new signal => nil
Exception signal => nil
Exception new return: 3 ! BadKind
Exception new retry ! BadKind
Exception new resume: 3 ! BadKind
Error new resume: 3 ! BadKind
Exception new pass ! BadKind
[Error signal] on: Error do: [:e | e resume: 3] ! CannotResume
Object new => an Object
Exception new => an Exception
Error new => an Error
Message new => a Message
Semaphore new => a Semaphore
String new => ''
Array new => #()
Array new: 2 => #(nil nil)
Array new: 0 => #()
(Array new: 200) size => 200
Array new: 201 ! BadIndex
Array new: -1 ! BadIndex
Array new: nil ! BadKind
Array new: true ! BadKind
Class new ! BadKind
Metaclass new ! BadKind
UndefinedObject new ! BadKind
Boolean new ! BadKind
True new ! BadKind
False new ! BadKind
Integer new ! BadKind
Symbol new ! BadKind
Block new ! BadKind
Process new ! BadKind
Transcript new ! BadKind
Processor new ! BadKind
Transcript show: 3 => Transcript
Processor yield => Processor
Processor me => a Process
Processor me == Processor me => true
Semaphore new signal; wait => a Semaphore
3 ~= 4 => true
3 ~= 3 => false
nil isNil => true
3 isNil => false
nil notNil => false
3 notNil => true
3 yourself => 3
true not => false
false not => true
true and: [3] => 3
false and: [3] => false
true or: [3] => true
false or: [3] => 3
true ifTrue: [3] => 3
true ifTrue: [] => nil
false ifTrue: [3] => nil
true ifFalse: [3] => nil
false ifFalse: [3] => 3
true ifTrue: [3] ifFalse: [4] => 3
false ifTrue: [3] ifFalse: [4] => 4
true ifFalse: [3] ifTrue: [4] => 4
false ifFalse: [3] ifTrue: [4] => 3
3 negated => -3
-3 abs => 3
3 abs => 3
3 max: 4 => 4
4 max: 3 => 4
3 min: 4 => 3
4 min: 3 => 3
4 even => true
3 even => false
'' isEmpty => true
'a' isEmpty => false
#() isEmpty => true
#(1 2 3) collect: [:e | e * e] => #(1 4 9)
#(1 2 3) inject: 10 into: [:a :e | a + e] => 16
#(5 6 7) indexOf: 6 => 2
#(5 6 7) indexOf: 8 => 0
#(5 #a 'b') indexOf: 'b' => 3
[false] whileTrue: [3] => nil
[true] whileFalse: [3] => nil
[Error signal: 'x'] on: Error do: [:e | e text] => 'x'
[Error new signal: 'x'] on: Error do: [:e | e text] => 'x'
[Error signal] on: Error do: [:e | e text] => nil
[Error signal] on: Error do: [:e | e return] => nil
[Exception signal. 3] on: Exception do: [:e | e resume] => 3
[3 error: 'x'] on: Error do: [:e | e text] => 'x'
[3 foo: 4 bar: 5] on: Error do: [:e | e message selector] => #foo:bar:
[3 foo: 4 bar: 5] on: Error do: [:e | e message arguments] => #(4 5)
[3 foo: 4 bar: 5] on: NotUnderstood do: [:e | e receiver] => 3
[3 mustBeBoolean] on: BadKind do: [:e | e class] => BadKind
[[] cannotReturn: 3] on: CannotReturn do: [:e | e class] => CannotReturn
"""


def rows_of(sign):
    """The rows of VALUES with this sign."""
    rows = []
    for line in VALUES.strip().split("\n"):
        expression, found, told = line.rpartition(f" {sign} ")
        if found:
            rows.append((expression, told))
    return rows


WAY = ("Way", "Object", (), (), ("one [^ 1] ensure: [[^ 2] ensure: [Transcript show: 'a']]",
                                 "two ^ [[^ 1] ensure: [[Error new signal] on: Error do: [:e | e return: 5]]] value"), ())

# The examples of the document: classes, main, outcome, trace.
EXAMPLES = (
    ((("Box", "Object", ("n",), (), ("n ^ n", "add: k n := n + k. ^ self", "set: k n := k"), ("of: k ^ self new set: k",)),),
     "| b | b := Box of: 2. ^ [b add: 3. 1 // 0] on: ZeroDivide do: [:e | e return: b n]",
     ("value", "5", "", 10),
     [(1, "Box class", "of:"), (2, "Box class", "new"), (2, "Box", "set:"), (1, "Block", "on:do:"), (3, "Box", "add:"),
      (4, "Integer", "+"), (3, "Integer", "//"), (3, "ZeroDivide", "signal"), (4, "Box", "n"), (4, "ZeroDivide", "return:")]),
    ((), "^ [[3 + Exception new signal] on: Exception do: [:e | e pass + 10]] on: Exception do: [:e | e resume: 5]",
     ("value", "15", "", 7),
     [(1, "Block", "on:do:"), (3, "Block", "on:do:"), (5, "Exception class", "new"), (5, "Exception", "signal"),
      (6, "Exception", "pass"), (7, "Exception", "resume:"), (6, "Integer", "+")]),
    ((), "| n | n := 0. ^ [[n := n + 1. n < 3 ifTrue: [1 // 0]. n] ensure: [Transcript show: n]] on: ZeroDivide do: [:e | e retry]",
     ("value", "3", "123", 19),
     [(1, "Block", "on:do:")]
     + [(3, "Block", "ensure:"), (5, "Integer", "+"), (5, "Integer", "<"), (5, "Integer", "//"), (5, "ZeroDivide", "signal"),
        (6, "ZeroDivide", "retry"), (5, "Transcript class", "show:")] * 2
     + [(3, "Block", "ensure:"), (5, "Integer", "+"), (5, "Integer", "<"), (5, "Transcript class", "show:")]),
    ((), "^ [Error new signal: 'a'] on: Error do: [:e | [e signal: 'b'] on: Error do: [:f | f return: f text]]",
     ("value", "'b'", "", 9),
     [(1, "Block", "on:do:"), (3, "Error class", "new"), (3, "Error", "signal:"), (4, "Error", "signal"), (5, "Block", "on:do:"),
      (7, "Error", "signal:"), (8, "Error", "signal"), (9, "Error", "text"), (9, "Error", "return:")]),
    ((WAY,), "| w | w := Way new. Transcript show: w one. ^ w two", ("value", "1", "a2", 13),
     [(1, "Way class", "new"), (1, "Way", "one"), (2, "Block", "ensure:"), (4, "Block", "ensure:"), (6, "Transcript class", "show:"),
      (1, "Transcript class", "show:"), (1, "Way", "two"), (2, "Block", "value"), (3, "Block", "ensure:"), (5, "Block", "on:do:"),
      (7, "Error class", "new"), (7, "Error", "signal"), (8, "Error", "return:")]),
    ((), "| s p | s := Semaphore new. p := [[s wait] ensure: [Transcript show: 'x']] fork. Processor yield. p terminate. "
         "Transcript show: 'y'. ^ p",
     ("value", "a Process", "xy", 8),
     [(1, "Semaphore class", "new"), (1, "Block", "fork"), (1, "Processor class", "yield"), (1, "Block", "ensure:"),
      (3, "Semaphore", "wait"), (1, "Process", "terminate"), (2, "Transcript class", "show:"), (1, "Transcript class", "show:")]),
    ((), "[[1 foo] ensure: [Error new signal]] on: Error do: [:e | 5]", ("error", "Error", "", 9),
     [(1, "Block", "on:do:"), (3, "Block", "ensure:"), (5, "Integer", "foo"), (5, "Integer", "doesNotUnderstand:"),
      (6, "NotUnderstood class", "new"), (6, "NotUnderstood", "message:receiver:"), (6, "NotUnderstood", "signal"),
      (5, "Error class", "new"), (5, "Error", "signal")]),
    ((("M", "Object", (), (), ("m [^ 1] ensure: [^ 2]",), ()),), "^ M new m", ("value", "2", "", 3),
     [(1, "M class", "new"), (1, "M", "m"), (2, "Block", "ensure:")]),
)
