"""Elaborating modules and lists of declarations: levels, entries, plain trees and derivations.

Module expressions and declarations settle weak variables of the context and make stamps. So each function here
returns the context as it is afterwards; entries that it adds for what stands inside are cut off again.
"""

from shapewright.context import extended, free_variables, lookup, settle
from shapewright.errors import BadModule
from shapewright.infer import infer_declaration
from shapewright.levels import realize, stamps_of, tidy
from shapewright.lower import lower_declaration, opened, record, referred, thinned, wrap
from shapewright.matching import match_level
from shapewright.sigs import elaborate_signature, new_stamps


def module(context, mexp):
    """The level of a module expression, the context afterwards, and the plain tree."""
    level, after, plain, _ = elaborate_module(context, mexp)
    return level, after, plain


def declare_all(context, decs):
    """The entries of the declarations, the context extended by them, the lowered declarations and the derivations."""
    count = len(context[0])
    lowered = []
    derivations = []
    for declaration in decs:
        context, more, made = elaborate_declaration(context, declaration)
        lowered.extend(more)
        derivations.extend(made)
    return context[0][count:], context, tuple(lowered), tuple(derivations)


def cut(context, length):
    """The context without the entries behind its first ones."""
    return context[0][:length], context[1]


def settled_context(context, settled):
    return (settle(context[0], settled), context[1]) if settled else context


def elaborate_module(context, mexp):
    """The level, the context afterwards, the plain tree and the derivations of a module expression."""
    action = MODULES[mexp[0]]
    return action(context, mexp)


def elaborate_struct(context, mexp):
    entries, after, lowered, derivations = declare_all(context, mexp[1])
    level = tidy(entries)
    return level, cut(after, len(context[0])), wrap(lowered, record(level)), derivations


def module_level(context, path):
    entry = lookup(context[0], "module", path)
    if entry is None:
        raise BadModule("module", path)
    return entry[2]


def elaborate_mpath(context, mexp):
    return module_level(context, mexp[1]), context, referred("mod", mexp[1]), ()


def elaborate_sees(context, mexp):
    want, realization, context, plain, derivations = elaborate_ascribed(context, mexp)
    return realize(want[1], realization), context, plain, derivations


def elaborate_seals(context, mexp):
    want, _, context, plain, derivations = elaborate_ascribed(context, mexp)
    renaming, arities = new_stamps(context[1], want[0])
    return realize(want[1], renaming), (context[0], arities), plain, derivations


def elaborate_ascribed(context, mexp):
    """What `sees` and `seals` have in common: the wanted signature, its realization by the module, the context, the
    thinned plain tree and the derivations."""
    level, context, plain, derivations = elaborate_module(context, mexp[1])
    want, arities = elaborate_signature(context, mexp[2])
    context = (context[0], arities)
    realization, settled, thin = match_level(context, level, want)
    return want, realization, settled_context(context, settled), thinned(plain, thin), derivations


def functor_entry(context, path):
    entry = lookup(context[0], "functor", path)
    if entry is None:
        raise BadModule("functor", path)
    return entry


def elaborate_apply(context, mexp):
    _, path, argument = mexp
    parameter = functor_entry(context, path)[2]
    level, context, plain, derivations = elaborate_module(context, argument)
    realization, settled, thin = match_level(context, level, parameter)
    context = settled_context(context, settled)
    # The argument may have settled weak variables in the functor's result.
    entry = functor_entry(context, path)
    renaming, arities = new_stamps(context[1], entry[3])
    result = realize(entry[4], {**realization, **renaming})
    return result, (context[0], arities), ("app", referred("fun", path), thinned(plain, thin)), derivations


def elaborate_mlet(context, mexp):
    _, inner, lowered, derivations = declare_all(context, mexp[1])
    level, after, plain, more = elaborate_module(inner, mexp[2])
    return level, cut(after, len(context[0])), wrap(lowered, plain), (*derivations, *more)


MODULES = {
    "struct": elaborate_struct, "mpath": elaborate_mpath, "sees": elaborate_sees, "seals": elaborate_seals,
    "apply": elaborate_apply, "mlet": elaborate_mlet,
}


def elaborate_declaration(context, declaration):
    """The context extended by a declaration, the lowered declarations and the derivations."""
    tag = declaration[0]
    if tag == "module":
        level, context, plain, derivations = elaborate_module(context, declaration[2])
        name = declaration[1]
        return extended(context, [("module", name, level)]), [("let", f"mod {name}", plain)], derivations
    if tag == "functor":
        return elaborate_functor(context, declaration)
    if tag == "open":
        level = module_level(context, declaration[1])
        return extended(context, level), opened(declaration[1], level), ()
    if tag == "signature":
        abstract, arities = elaborate_signature(context, declaration[2])
        return extended((context[0], arities), [("signature", declaration[1], abstract)]), [], ()
    entries, arities, settled, derivation = infer_declaration(context, declaration)
    after = settled_context((context[0], arities), settled)
    return extended(after, entries), lower_declaration(context, declaration), (derivation,)


def elaborate_functor(context, declaration):
    _, name, parameter_name, sexp, body = declaration
    parameter, arities = elaborate_signature(context, sexp)
    inner = extended((context[0], arities), [("module", parameter_name, parameter[1])])
    level, after, plain, derivations = elaborate_module(inner, body)
    after = cut(after, len(context[0]))
    check_body(name, context, after, level)
    made = tuple([stamp for stamp in stamps_of(level) if stamp >= len(arities)])
    entry = ("functor", name, parameter, made, level)
    lowered = [("let", f"fun {name}", ("fn", f"mod {parameter_name}", plain))]
    return extended(after, [entry]), lowered, derivations


def check_body(name, before, after, level):
    """Raises BadModule if the body of a functor leaves one of its stamps in the context, or a weak variable in its
    level that the context does not have."""
    inner = len(before[1])
    if after[0] != before[0] and any([stamp >= inner for stamp in stamps_of(after[0])]):
        raise BadModule("escape", (name,))
    fixed = free_variables(after[0])
    if any([number not in fixed for number in free_variables(level)]):
        raise BadModule("weak", (name,))
