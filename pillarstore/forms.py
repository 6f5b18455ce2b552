"""What is asked of forms beside their cells: the places that they name, and forms over fewer cells."""


def places_of(forms):
    """The places that forms name, rising, each once."""
    return sorted({place for form in forms for place in named_by(form)})


def named_by(form):
    """The places as a form names them."""
    word = form[0]
    if word == "cell":
        return [form[1]]
    if word == "value":
        return []
    return named_by(form[-2]) + named_by(form[-1])


def over(form, places):
    """A form that tells, of the cells at places alone, what the form tells of all."""
    word = form[0]
    if word == "cell":
        return word, places.index(form[1])
    if word == "value":
        return form
    return form[:-2] + tuple([over(part, places) for part in form[-2:]])
