"""Folk: address books poured together, and which cards are one person's."""
