"""Keys, which tell the requests apart between which an answer's variants were chosen."""

from hopkeep.fields import is_field_name, list_elements
from hopkeep.variants import WANT_FIELDS, read_preferences


def varied_names(response):
    """The names of the request fields on which the choice depends, None if they are not known."""
    text = response.joined("varies")
    if text is None:
        return []
    names = list_elements(text)
    if any([not is_field_name(name) for name in names]):
        return None
    return sorted(set(names))


def key_of(names, request):
    """The key of a request for these fields: pairs (name, normal form)."""
    return tuple([(name, normal_form(name, request.joined(name))) for name in names])


def normal_form(name, text):
    """What counts of the joined value of a request field, which may be None."""
    if name in WANT_FIELDS:
        return tuple(sorted(read_preferences(text)))
    if text is None:
        return None
    return ",".join(list_elements(text))
