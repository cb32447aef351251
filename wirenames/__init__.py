"""Names claimed on a wire by all hands, with no house that gives them out."""
