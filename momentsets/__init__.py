"""Sets of moments, kept in eight registers."""
