"""Pages ranked by walks, told exactly in fractions."""
