"""The ranges of whole numbers and the forms of rows."""

LAST_JOB = 999999
LAST_CLASS = 36
LAST_INITIATOR = 16
MOST_TESTS = 8
MOST_CLASSES_IN_LIST = 8
LONGEST_NAME = 8


def is_cap(n):
    return 1 <= n <= 500


def is_k(n):
    return 1 <= n <= 1000


def is_a(n):
    return 1 <= n <= 1000000


def is_job_number(n):
    return 1 <= n <= LAST_JOB


def is_class(n):
    return 1 <= n <= LAST_CLASS


def is_priority(n):
    return 0 <= n <= 15


def is_yes_or_no(n):
    return 0 <= n <= 1


def is_code(n):
    return 0 <= n <= 4095


def is_ticks(n):
    return 1 <= n <= 1000000


def is_limit(n):
    return 0 <= n <= 16


def is_initiator(n):
    return 1 <= n <= LAST_INITIATOR


def is_letter(byte):
    return 65 <= byte <= 90


def is_digit(byte):
    return 48 <= byte <= 57


def is_name(row):
    if not 1 <= len(row) <= LONGEST_NAME:
        return False
    if not is_letter(row[0]):
        return False
    for byte in row:
        if not is_letter(byte) and not is_digit(byte):
            return False
    return True


def is_class_list(row):
    if not 1 <= len(row) <= MOST_CLASSES_IN_LIST:
        return False
    for class_of in row:
        if not is_class(class_of):
            return False
    return len(set(row)) == len(row)


def is_row_of_tests(row):
    return len(row) % 3 == 0 and len(row) // 3 <= MOST_TESTS


def split_tests(row):
    return [(row[place], row[place + 1], row[place + 2]) for place in range(0, len(row), 3)]


def is_test(job, kind, n):
    return is_job_number(job) and 0 <= kind <= 3 and is_code(n)


def counted(row):
    return [len(row)] + row
