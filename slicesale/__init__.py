"""A book auctioned in like slices."""
