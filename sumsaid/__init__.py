"""Functions that are written from sayings about whole numbers."""
