"""Systems that are kept while they are changed."""
