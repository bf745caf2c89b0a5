"""Veiledgates: programs run on covered bits by one who has no key."""
