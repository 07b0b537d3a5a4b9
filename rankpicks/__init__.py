"""What ranks of ranks say: import from the modules of this package."""
