"""Reading declarations, modules, signatures and programs."""

from shapewright.expression_reader import LOCAL_SIGNS, take_local
from shapewright.pattern_reader import take_name
from shapewright.shape_reader import take_alias, take_capital_path, take_exception, take_parameters, take_scheme
from shapewright.shape_reader import take_shape, take_shape_path, take_variant

DECLARATION_SIGNS = ("val", "rec", "alias", "exception", "open", "variant", "module", "functor")
SPEC_SIGNS = ("val", "shape", "alias", "variant", "exception", "module", "include")


def take_program(cursor):
    declarations = []
    while cursor.sign() == "signature" or cursor.sign() in DECLARATION_SIGNS:
        if cursor.sign() == "signature":
            declarations.append(take_signature_declaration(cursor))
        else:
            declarations.append(take_declaration(cursor))
    return tuple(declarations)


def take_signature_declaration(cursor):
    cursor.expect("signature")
    name = cursor.expect("CAPITAL")
    cursor.expect("=")
    return ("signature", name, take_signature(cursor))


def take_declaration(cursor):
    sign = cursor.sign()
    if sign in LOCAL_SIGNS:
        return take_local(cursor)
    if sign == "variant":
        return take_variant(cursor)
    if sign == "functor":
        return take_functor(cursor)
    if cursor.passes("open"):
        return ("open", take_capital_path(cursor))
    cursor.expect("module")
    name = cursor.expect("CAPITAL")
    cursor.expect("=")
    return ("module", name, take_module(cursor))


def take_functor(cursor):
    cursor.expect("functor")
    name = cursor.expect("CAPITAL")
    cursor.expect("(")
    parameter = cursor.expect("CAPITAL")
    cursor.expect(":")
    signature = take_signature(cursor)
    cursor.expect(")")
    cursor.expect("=")
    return ("functor", name, parameter, signature, take_module(cursor))


def take_declarations(cursor):
    declarations = []
    while cursor.sign() in DECLARATION_SIGNS:
        declarations.append(take_declaration(cursor))
    return declarations


def take_module(cursor):
    module = take_plain_module(cursor)
    while cursor.sign() in (":", ":>"):
        tag = "sees" if cursor.take() == ":" else "seals"
        module = (tag, module, take_signature(cursor))
    return module


def take_plain_module(cursor):
    sign = cursor.sign()
    if sign == "CAPITAL":
        return take_named_module(cursor)
    if sign == "struct":
        cursor.take()
        declarations = take_declarations(cursor)
        cursor.expect("end")
        return ("struct", tuple(declarations))
    if sign == "let":
        return take_module_let(cursor)
    cursor.expect("(")
    module = take_module(cursor)
    cursor.expect(")")
    return module


def take_named_module(cursor):
    path = take_capital_path(cursor)
    if not cursor.passes("("):
        return ("mpath", path)
    argument = take_module(cursor)
    cursor.expect(")")
    return ("apply", path, argument)


def take_module_let(cursor):
    cursor.expect("let")
    declarations = [take_declaration(cursor)]
    declarations.extend(take_declarations(cursor))
    cursor.expect("in")
    module = take_module(cursor)
    cursor.expect("end")
    return ("mlet", tuple(declarations), module)


def take_signature(cursor):
    signature = take_plain_signature(cursor)
    while cursor.passes("where"):
        names = take_parameters(cursor)
        path = take_shape_path(cursor)
        cursor.expect("=")
        signature = ("where", signature, path, names, take_shape(cursor))
    return signature


def take_plain_signature(cursor):
    sign = cursor.sign()
    if sign == "CAPITAL":
        return ("gname", cursor.take())
    if sign == "sig":
        return take_specs(cursor)
    cursor.expect("(")
    signature = take_signature(cursor)
    cursor.expect(")")
    return signature


def take_specs(cursor):
    cursor.expect("sig")
    specs = []
    while cursor.sign() in SPEC_SIGNS:
        specs.append(take_spec(cursor))
    cursor.expect("end")
    return ("sig", tuple(specs))


def take_spec(cursor):
    sign = cursor.sign()
    if sign == "alias":
        return take_alias(cursor)
    if sign == "variant":
        return take_variant(cursor)
    if sign == "exception":
        return take_exception(cursor)
    cursor.take()
    if sign == "include":
        return ("include", take_signature(cursor))
    if sign == "shape":
        names = take_parameters(cursor)
        return ("shape", names, cursor.expect("SMALL"))
    name = take_name(cursor) if sign == "val" else cursor.expect("CAPITAL")
    cursor.expect(":")
    if sign == "val":
        return ("val", name, take_scheme(cursor))
    return ("module", name, take_signature(cursor))
