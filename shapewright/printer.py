"""Printing trees as texts."""

from shapewright.lexicon import INFIX, OPERATORS

CLOSED = (
    "svar", "sname", "pany", "punit", "pvar", "pint", "ptuple", "int", "unit", "var", "con", "tuple", "let",
    "struct", "mpath", "apply", "mlet", "sig", "gname",
)
# A rule behind one of these would be taken for a rule of it.
TAKING_RULES = ("fn", "case", "handle")


def print_program(program):
    return "\n".join([print_declaration(declaration) for declaration in program])


def print_shape(shape):
    tag = shape[0]
    if tag == "svar":
        return tick_text(shape[1])
    if tag == "sname":
        return print_named_shape(shape[1], shape[2])
    if tag == "stuple":
        return " * ".join([operand_text(part, print_shape) for part in shape[1]])
    return f"{operand_text(shape[1], print_shape)} -> {operand_text(shape[2], print_shape)}"


def print_named_shape(path, shapes):
    if not shapes:
        return path_text(path)
    if len(shapes) == 1:
        return f"{operand_text(shapes[0], print_shape)} {path_text(path)}"
    return f"{list_text([print_shape(shape) for shape in shapes])} {path_text(path)}"


def print_pattern(pattern):
    tag = pattern[0]
    if tag == "pcon":
        return print_constructor_pattern(pattern[1], pattern[2])
    if tag == "ptuple":
        return list_text([print_pattern(part) for part in pattern[1]])
    if tag == "pas":
        return f"{name_text(pattern[1])} as {operand_text(pattern[2], print_pattern)}"
    if tag == "phas":
        return f"{operand_text(pattern[1], print_pattern)} : {print_shape(pattern[2])}"
    if tag == "pvar":
        return name_text(pattern[1])
    if tag == "pint":
        return integer_text(pattern[1])
    return "_" if tag == "pany" else "()"


def print_constructor_pattern(path, argument):
    if argument is None:
        return path_text(path)
    if path == ("Cons",) and argument[0] == "ptuple" and len(argument[1]) == 2:
        return infix_text("::", argument[1], print_pattern)
    return f"{path_text(path)} {operand_text(argument, print_pattern)}"


def print_expression(expression):
    tag = expression[0]
    if tag in ("var", "con"):
        return path_text(expression[1])
    if tag == "int":
        return integer_text(expression[1])
    if tag == "unit":
        return "()"
    if tag == "tuple":
        return list_text([print_expression(part) for part in expression[1]])
    if tag == "app":
        return print_call(expression[1], expression[2])
    if tag == "let":
        return f"let {declarations_text(expression[1])} in {print_expression(expression[2])} end"
    return print_open_expression(expression)


def print_open_expression(expression):
    """The text of an expression that begins or ends with a word or an ascription."""
    tag = expression[0]
    if tag == "fn":
        return f"fn {rules_text(expression[1])}"
    if tag == "case":
        return f"case {inner_text(expression[1])} of {rules_text(expression[2])}"
    operand = operand_text(expression[1], print_expression)
    if tag == "raise":
        return f"raise {operand}"
    if tag == "handle":
        return f"{operand} handle {rules_text(expression[2])}"
    return f"{operand} : {print_shape(expression[2])}"


def print_call(function, argument):
    if argument[0] == "tuple" and len(argument[1]) == 2:
        if function == ("con", ("Cons",)):
            return infix_text("::", argument[1], print_expression)
        if function[0] == "var" and len(function[1]) == 1 and function[1][0] in INFIX:
            return infix_text(function[1][0], argument[1], print_expression)
    return f"{operand_text(function, print_expression)} {operand_text(argument, print_expression)}"


def print_declaration(declaration):
    tag = declaration[0]
    if tag == "val":
        return f"val {print_pattern(declaration[1])} = {print_expression(declaration[2])}"
    if tag == "rec":
        return "rec " + " and ".join([binding_text(binding) for binding in declaration[1]])
    if tag == "module":
        return f"module {declaration[1]} = {print_module(declaration[2])}"
    if tag == "functor":
        head = f"functor {declaration[1]} ({declaration[2]} : {print_signature(declaration[3])})"
        return f"{head} = {print_module(declaration[4])}"
    if tag == "open":
        return f"open {path_text(declaration[1])}"
    if tag == "signature":
        return f"signature {declaration[1]} = {print_signature(declaration[2])}"
    return shape_declaration_text(declaration)


def shape_declaration_text(declaration):
    """The text of a declaration that may also be a spec."""
    tag = declaration[0]
    if tag == "alias":
        head = f"alias {parameters_text(declaration[1])}{declaration[2]}"
        return f"{head} = {print_shape(declaration[3])}"
    if tag == "variant":
        return "variant " + " and ".join([element_text(element) for element in declaration[1]])
    return f"exception {constructor_text(declaration[1:])}"


def print_module(module):
    tag = module[0]
    if tag == "struct":
        return bracket_text("struct", [print_declaration(part) for part in module[1]])
    if tag == "mpath":
        return path_text(module[1])
    if tag == "apply":
        return f"{path_text(module[1])} ({print_module(module[2])})"
    if tag == "mlet":
        return f"let {declarations_text(module[1])} in {print_module(module[2])} end"
    sign = ":" if tag == "sees" else ":>"
    return f"{operand_text(module[1], print_module)} {sign} {operand_text(module[2], print_signature)}"


def print_signature(signature):
    tag = signature[0]
    if tag == "sig":
        return bracket_text("sig", [print_spec(spec) for spec in signature[1]])
    if tag == "gname":
        return signature[1]
    head = f"{operand_text(signature[1], print_signature)} where {parameters_text(signature[3])}"
    return f"{head}{path_text(signature[2])} = {print_shape(signature[4])}"


def print_spec(spec):
    tag = spec[0]
    if tag == "val":
        return f"val {name_text(spec[1])} : {scheme_text(spec[2])}"
    if tag == "shape":
        return f"shape {parameters_text(spec[1])}{spec[2]}"
    if tag == "module":
        return f"module {spec[1]} : {print_signature(spec[2])}"
    if tag == "include":
        return f"include {operand_text(spec[1], print_signature)}"
    return shape_declaration_text(spec)


def is_closed(tree):
    return tree[0] in CLOSED or (tree[0] == "pcon" and tree[2] is None)


def operand_text(tree, prints):
    return prints(tree) if is_closed(tree) else f"({prints(tree)})"


def infix_text(sign, operands, prints):
    return f"{operand_text(operands[0], prints)} {sign} {operand_text(operands[1], prints)}"


def list_text(texts):
    return "(" + ", ".join(texts) + ")"


def bracket_text(word, texts):
    return " ".join([word, *texts, "end"])


def declarations_text(declarations):
    return " ".join([print_declaration(declaration) for declaration in declarations])


def inner_text(expression):
    """The text of an expression that rules may follow."""
    text = print_expression(expression)
    return f"({text})" if expression[0] in TAKING_RULES else text


def rules_text(rules):
    return " | ".join([f"{print_pattern(pattern)} => {inner_text(body)}" for pattern, body in rules])


def binding_text(binding):
    name, annotation, rules = binding
    head = name_text(name) if annotation is None else f"{name_text(name)} : {scheme_text(annotation)}"
    return f"{head} = fn {rules_text(rules)}"


def element_text(element):
    names, name, constructors = element
    shown = " | ".join([constructor_text(constructor) for constructor in constructors])
    return f"{parameters_text(names)}{name} = {shown}"


def constructor_text(constructor):
    name, shape = constructor
    return name if shape is None else f"{name} of {print_shape(shape)}"


def scheme_text(scheme):
    names, shape = scheme
    if not names:
        return print_shape(shape)
    ticks = " ".join([tick_text(name) for name in names])
    return f"all {ticks} . {print_shape(shape)}"


def parameters_text(names):
    """The text of parameters with the space behind it, empty without parameters."""
    if not names:
        return ""
    ticks = [tick_text(name) for name in names]
    return f"{ticks[0]} " if len(ticks) == 1 else f"{list_text(ticks)} "


def tick_text(name):
    return "'" + name


def name_text(name):
    return f"( {name} )" if name in OPERATORS else name


def path_text(path):
    return ".".join([*path[:-1], name_text(path[-1])])


def integer_text(number):
    return f"~{-number}" if number < 0 else str(number)
