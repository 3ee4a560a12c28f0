package lazy

import (
	"maps"
	"slices"
)

// cache keeps so many values at most, each by its key.
type cache[K comparable, V any] struct {
	most   int
	values map[K]V
	keys   []K // the oldest one first
}

func newCache[K comparable, V any](most int) *cache[K, V] {
	return &cache[K, V]{most: most, values: map[K]V{}}
}

func (c *cache[K, V]) len() int { return len(c.values) }

func (c *cache[K, V]) get(k K) (V, bool) {
	v, ok := c.values[k]
	return v, ok
}

// put adds a value with a new key, in place of the oldest one if there are too many.
func (c *cache[K, V]) put(k K, v V) {
	if len(c.keys) == c.most {
		delete(c.values, c.keys[0])
		c.keys = slices.Delete(c.keys, 0, 1)
	}
	c.values[k] = v
	c.keys = append(c.keys, k)
}

func (c *cache[K, V]) clone() *cache[K, V] {
	return &cache[K, V]{most: c.most, values: maps.Clone(c.values), keys: slices.Clone(c.keys)}
}
