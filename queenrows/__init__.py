"""Queens set one in each row so that none takes another, on boards of any size."""
