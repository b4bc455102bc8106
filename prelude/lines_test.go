package prelude_test

// lines are those of the chapter, without their line feeds.
func lines() []string {
	return []string{
		`Object["$$prim"] = function (o, a, b) {`,
		`  if (typeof o[a] === "function") {`,
		`    let r = o[a]();`,
		`    if (r === null || typeof r !== "object" && typeof r !== "function") { return r; }`,
		`  }`,
		`  if (typeof o[b] === "function") {`,
		`    let r = o[b]();`,
		`    if (r === null || typeof r !== "object" && typeof r !== "function") { return r; }`,
		`  }`,
		`  throw new TypeError("no primitive");`,
		`};`,
		`const prim = Object["$$prim"];`,
		`Object["$$string"] = function (x) {`,
		`  if (typeof x === "function" || typeof x === "object" && x !== null) { x = prim(x, "toString", "valueOf"); }`,
		`  return "" + x;`,
		`};`,
		`Object["$$number"] = function (x) {`,
		`  if (typeof x === "function" || typeof x === "object" && x !== null) { x = prim(x, "valueOf", "toString"); }`,
		`  return +x;`,
		`};`,
		`Object["$$values"] = function* () {`,
		`  let i = 0;`,
		`  while (i < this.length) { yield this[i]; i += 1; }`,
		`};`,
		`Object["$$texts"] = function* () {`,
		`  let i = 0;`,
		`  while (i < this.length) { yield this[i]; i += 1; }`,
		`};`,
		`Object["$$message"] = function () { return this.name + ": " + this.message; };`,
	}
}
