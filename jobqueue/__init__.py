"""A queue of jobs and the initiators that pick them."""
