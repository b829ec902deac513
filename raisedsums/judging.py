"""Whether a sum of one degree is made by raising: of which sums, or which row of products shows that it is not."""

from raisedsums.errors import NoPart, TooMany, Unlike
from raisedsums.lowering import lowered
from raisedsums.parity import is_whole
from raisedsums.raising import raised
from raisedsums.sums import can_be_judged, degrees, number_of_products, products_of_degree, sum_of


def products_counted(n, d):
    return number_of_products(n, d)


def ones_counted(number):
    told = 0
    while number:
        number = number & (number - 1)
        told += 1
    return told


def bounded(n, d):
    if not can_be_judged(n, d):
        raise TooMany("sums are judged of small degrees with at most two hundred products")
    return d


def degree_asked(d):
    if not is_whole(d) or d < 0:
        raise NoPart("a degree is a whole number from 0 on")
    return d


def one_degree(n, some):
    # The sum without products has no degree; None is told for it.
    told = degrees(some)
    if len(told) > 1:
        raise Unlike("the products have unlike degrees")
    return bounded(n, told[0]) if told else None


def parts_enough(d):
    # A part that is no power of 2 is exchanged for rows of lesser parts, so
    # what it raises is raised by powers of 2, too. By more than half nothing is made.
    told = []
    k = 1
    while 2 * k <= d:
        told.append(k)
        k = 2 * k
    return told


def raised_products(n, d):
    told = []
    for k in parts_enough(d):
        told.extend([(k, product) for product in products_of_degree(n, d - k)])
    return told


def places_of(products):
    told = {}
    for place, product in enumerate(products):
        told[product] = place
    return told


def as_number(places, some):
    # A binary 1 at the place of each product: so sums are added by ^, and the last product leads.
    told = 0
    for product in some:
        told = told | (1 << places[product])
    return told


def lessened(leads, number):
    # Adds sums that lead with the same product until none does; used tells of which sources they were made.
    used = 0
    while number and number.bit_length() in leads:
        two = leads[number.bit_length()]
        number = number ^ two[0]
        used = used ^ two[1]
    return (number, used)


def all_leads(n, d, places):
    # By each length that leads: the number, and its sources as binary ones.
    leads = {}
    sources = []
    for k, product in raised_products(n, d):
        left = lessened(leads, as_number(places, raised((product,), k)))
        if left[0]:
            leads[left[0].bit_length()] = (left[0], left[1] | (1 << len(sources)))
            sources.append((k, product))
    return (leads, sources)


def pairs_of(n, sources, used):
    products = {}
    for number, source in enumerate(sources):
        if used >> number & 1:
            products.setdefault(source[0], []).append(source[1])
    return tuple([(k, sum_of(n, products[k])) for k in sorted(products)])


def row_against(leads, length):
    # Begins with a product that leads nothing. From there on each sum that would
    # meet the row oddly is met once more, in the product that it leads with.
    row = 1 << (length - 1)
    for longer in sorted(leads):
        if ones_counted(row & leads[longer][0]) % 2 == 1:
            row = row | (1 << (longer - 1))
    return row


def judged(n, some):
    d = one_degree(n, some)
    if d is None:
        return ("raised", n, some, ())
    products = products_of_degree(n, d)
    places = places_of(products)
    found = all_leads(n, d, places)
    left = lessened(found[0], as_number(places, some))
    if left[0] == 0:
        return ("raised", n, some, pairs_of(n, found[1], left[1]))
    row = row_against(found[0], left[0].bit_length())
    return ("not", n, some, tuple([product for product in products if row >> places[product] & 1]))


def is_even(n, row):
    d = one_degree(n, row)
    if d is None:
        return True
    return all([lowered(row, k) == () for k in range(1, d // 2 + 1)])


def standing(n, d):
    products = products_of_degree(n, bounded(n, degree_asked(d)))
    leads = all_leads(n, d, places_of(products))[0]
    return [product for place, product in enumerate(products) if place + 1 not in leads]


def rows_counted(n, d):
    return len(standing(n, d))


def is_sure(n, d):
    return ones_counted(degree_asked(d) + n) > n
