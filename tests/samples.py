"""Programs that several tests look at."""

BOX = ((("Box", "Object", ("n",), (), ("n ^ n", "add: k n := n + k. ^ self", "set: k n := k"),
         ("of: k ^ self new set: k",)),),
       "| b | b := Box of: 2. ^ [b add: 3. 1 // 0] on: ZeroDivide do: [:e | e return: b n]")

# Animal has below it Dog and, below that, Puppy; Trouble is an Error.
ZOO = ((("Animal", "Object", ("name", "age"), ("made",), ("name ^ name", "age: a age := a", "= other ^ age = other age"),
         ("made ^ made", "new made := made + 1. ^ super new")),
        ("Dog", "Animal", ("tail",), ("packs", "size"), ("name ^ super name , tail", "wag ^ Cage new"), ("packs ^ packs + made",)),
        ("Puppy", "Dog", (), (), ("wag ^ tail isNil", "printString ^ 'p'"), ()),
        ("Trouble", "Error", ("level",), (), ("text ^ text , level", "signal ^ super signal"), ()),
        ("Cage", "Object", ("dogs",), (), ("put: d dogs := d", "dogs ^ dogs"), ())),
       "^ Puppy new wag")

# What is no program, whatever stands in it.
NO_PROGRAMS = (None, True, 7, "", "^ 1", b"", [], {}, (), ((),), ((), "", ""), [(), ""], (("x",), "", ()), object)
NO_CLASSES = (None, True, 7, "", "ab", [], {}, [BOX[0][0]], tuple([BOX[0][0]] * 13))


def one(name="Box", parent="Object", fields=(), class_fields=(), methods=(), class_methods=()):
    """A definition."""
    return (name, parent, fields, class_fields, methods, class_methods)


def deep(start, count=45):
    """A source that begins with this and has too many trees within one another."""
    return start + " foo" * count
