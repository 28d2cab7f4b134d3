/- Maps that a call makes, as functions from keys to elements that are known as they lie. -/
import Derived.Test.YtphkpokoeaagfaaGreatDoorIt
import Derived.Maps.OwnSet
import Derived.RegionTactic
namespace Go.Proofs.YtphkpokoeaagfaaGreatDoor
open Go.ChangeShapes Go.WideShapes Go.ChangeAt Go.RowKit Go.Maps
set_option linter.unusedVariables false
set_option linter.unusedSectionVars false
set_option maxRecDepth 100000

/-- An element as it lies. -/
def rawE (v : Value) : Option (DataW Value × List MemPlace) := some (.held v, [])
section
variable {κ β : Type} [DecidableEq κ] {kt et T : TypeId} {kv : κ → Value} {enc : β → Value}
/-- What a map's datum says at a key. -/
def Says (enc : β → Value) (D : DataW Value) (l : Lit) : Option β → Prop
  | some v => Maps.has D l = true ∧ ∀ z, D.atKey l z = .held (enc v)
  | none => Maps.has D l = false ∧ ∀ z, D.atKey l z = z
/-- Block b is a map of at most n entries that holds just what f says. -/
def MapAt (kt : TypeId) (kv : κ → Value) (enc : β → Value) (w : World) (b n : Nat) (f : κ → Option β) : Prop :=
  ∃ D : DataW Value, w.ownsMap Tryz.prog kt rawE b n D ∧ (∀ k l, keyOf Tryz.prog kt (kv k) = some l → Says enc D l (f k)) ∧ ∀ l, Maps.has D l = true → ∃ k, keyOf Tryz.prog kt (kv k) = some l
theorem MapAt.made (w : World) : MapAt kt kv enc (w.alloc (.map #[] 0)) w.heap.size 0 (fun _ => none) :=
  ⟨_, World.ownsMap_made w Tryz.prog kt rawE, fun k l _ => ⟨rfl, fun z => rfl⟩, fun l h => by cases h⟩
theorem MapAt.lt {w : World} {b n : Nat} {f : κ → Option β} (h : MapAt kt kv enc w b n f) : b < w.heap.size := by obtain ⟨D, h, _⟩ := h; exact h.lt
theorem MapAt.mono {w : World} {b n m : Nat} {f : κ → Option β} (h : MapAt kt kv enc w b n f) (hm : n ≤ m) : MapAt kt kv enc w b m f := by
  obtain ⟨D, h, r⟩ := h; exact ⟨D, h.mono hm, r⟩
theorem MapAt.block {w w' : World} {b n : Nat} {f : κ → Option β} (h : MapAt kt kv enc w b n f) (hb : w'.heap[b]? = w.heap[b]?) : MapAt kt kv enc w' b n f := by
  obtain ⟨D, ⟨es, clock, h1, r1⟩, r⟩ := h
  exact ⟨D, ⟨es, clock, hb.trans h1, r1⟩, r⟩
theorem MapAt.call {w w' : World} {b n : Nat} {f : κ → Option β} (h : MapAt kt kv enc w b n f) (hb : Below w.heap.size w w') : MapAt kt kv enc w' b n f := h.block (hb.block b h.lt)
theorem MapAt.alloc {w : World} {b n : Nat} {f : κ → Option β} (h : MapAt kt kv enc w b n f) (o : Obj) : MapAt kt kv enc (w.alloc o) b n f := h.call ((Below.refl _ _).alloc (Nat.le_refl _) o)
theorem MapAt.drew {w : World} {b n : Nat} {f : κ → Option β} (h : MapAt kt kv enc w b n f) : MapAt kt kv enc w.drew b n f := h
theorem MapAt.ext {w : World} {b n : Nat} {f g : κ → Option β} (h : MapAt kt kv enc w b n f) (e : ∀ k, f k = g k) : MapAt kt kv enc w b n g := by rw [← funext e]; exact h
theorem MapAt.other {w w' : World} {b c n : Nat} {f : κ → Option β} (h : MapAt kt kv enc w b n f) (hg : w.grownBy w' (some c)) (hne : b ≠ c) : MapAt kt kv enc w' b n f :=
  h.block (hg.block b h.lt (fun e => hne (Option.some.inj e)))

/-- What a look-up gives. -/
def pickE (enc : β → Value) (z : Value) : Option β → Value
  | some v => enc v
  | none => z
theorem MapAt.look {w : World} {b n : Nat} {f : κ → Option β} (h : MapAt kt kv enc w b n f) (K : Keyed Tryz.prog kt) (ht : Tryz.prog.underlying T = some (.map kt et)) {z : Value} (hz : (zeroValue et).run Tryz.prog w = .ok z w)
    {k : κ} {l : Lit} (hkey : keyOf Tryz.prog kt (kv k) = some l) : (Instr.lookup T (.map (some b)) (kv k) false).run Tryz.prog w = .ok (pickE enc z (f k)) w := by
  obtain ⟨D, h1, h2, _⟩ := h
  obtain ⟨v, ps, hr, hv⟩ := h1.lookup K ht hz (zd := .held z) (zp := []) rfl hkey
  rw [hr]
  have e : DataW.held v = D.atKey l (.held z) := by
    have := Option.some.inj hv
    exact congrArg Prod.fst this
  have hs := h2 k l hkey
  cases hf : f k with
  | some u => rw [hf] at hs; rw [hs.2] at e; injection e with e; subst e; rfl
  | none => rw [hf] at hs; rw [hs.2] at e; injection e with e; subst e; rfl
theorem MapAt.lookOk {w : World} {b n : Nat} {f : κ → Option β} (h : MapAt kt kv enc w b n f) (K : Keyed Tryz.prog kt) (ht : Tryz.prog.underlying T = some (.map kt et)) {z : Value} (hz : (zeroValue et).run Tryz.prog w = .ok z w)
    {k : κ} {l : Lit} (hkey : keyOf Tryz.prog kt (kv k) = some l) : (Instr.lookup T (.map (some b)) (kv k) true).run Tryz.prog w = .ok (.tuple #[pickE enc z (f k), .bool (f k).isSome]) w := by
  obtain ⟨D, h1, h2, _⟩ := h
  obtain ⟨v, ps, hr, hv⟩ := h1.look_ok K ht hz (zd := .held z) (zp := []) rfl hkey
  rw [hr]
  have e : DataW.held v = D.atKey l (.held z) := by
    have := Option.some.inj hv
    exact congrArg Prod.fst this
  have hs := h2 k l hkey
  cases hf : f k with
  | some u => rw [hf] at hs; rw [hs.2] at e; injection e with e; subst e; rw [hs.1]; rfl
  | none => rw [hf] at hs; rw [hs.2] at e; injection e with e; subst e; rw [hs.1]; rfl
theorem MapAt.put {w : World} {b n : Nat} {f : κ → Option β} (h : MapAt kt kv enc w b n f) (K : Keyed Tryz.prog kt) (hinj : ∀ a b : κ, kv a = kv b → a = b) (ht : Tryz.prog.underlying T = some (.map kt et)) (hn : n < maxLen)
    {k : κ} {l : Lit} (hkey : keyOf Tryz.prog kt (kv k) = some l) (v : β) : ∃ w', (Instr.mapUpdate T (.map (some b)) (kv k) (enc v)).run Tryz.prog w = .ok () w' ∧ MapAt kt kv enc w' b (n + 1) (fun k' => if k' = k then some v else f k') ∧ w.grownBy w' (some b) := by
  obtain ⟨D, h1, h2, h3⟩ := h
  obtain ⟨w', hr, ho, hg⟩ := h1.update K ht hn hkey (val := enc v) (d := .held (enc v)) (ps := []) rfl
  refine ⟨w', hr, ⟨_, ho, fun k' l' hk' => ?_, fun l' hl' => ?_⟩, hg⟩
  · show Says enc _ l' (if k' = k then _ else f k')
    by_cases he : k' = k
    · subst he
      have : l' = l := Option.some.inj (hk'.symm.trans hkey)
      subst this
      rw [if_pos rfl]
      exact ⟨has_put_same h1.isMap (K.key hkey) _, fun z => atKey_put_same h1.isMap (K.key hkey) _ z⟩
    · rw [if_neg he]
      have hne : l' ≠ l := fun e => he (hinj _ _ (K.inj hk' (by rw [e]; exact hkey)))
      have := h2 k' l' hk'
      cases hf : f k' with
      | some u => rw [hf] at this; exact ⟨by rw [has_put_other hne]; exact this.1, fun z => by rw [atKey_put_other hne]; exact this.2 z⟩
      | none => rw [hf] at this; exact ⟨by rw [has_put_other hne]; exact this.1, fun z => by rw [atKey_put_other hne]; exact this.2 z⟩
  · by_cases he : l' = l
    · exact ⟨k, by rw [he]; exact hkey⟩
    · rw [has_put_other he] at hl'; exact h3 l' hl'
theorem MapAt.del {w : World} {b n : Nat} {f : κ → Option β} (h : MapAt kt kv enc w b n f) (K : Keyed Tryz.prog kt) (hinj : ∀ a b : κ, kv a = kv b → a = b) (ht : Tryz.prog.underlying T = some (.map kt et))
    {k : κ} {l : Lit} (hkey : keyOf Tryz.prog kt (kv k) = some l) (ty : TypeId) : ∃ w', (Builtin.delete_ #[T, kt] ty #[.map (some b), kv k]).run Tryz.prog w = .ok (.tuple #[]) w' ∧ MapAt kt kv enc w' b n (fun k' => if k' = k then none else f k') ∧ w.grownBy w' (some b) := by
  obtain ⟨D, h1, h2, h3⟩ := h
  obtain ⟨w', hr, ho, hg⟩ := h1.drop K ht hkey ty
  refine ⟨w', hr, ⟨_, ho, fun k' l' hk' => ?_, fun l' hl' => ?_⟩, hg.grown⟩
  · show Says enc _ l' (if k' = k then _ else f k')
    by_cases he : k' = k
    · subst he
      have : l' = l := Option.some.inj (hk'.symm.trans hkey)
      subst this
      rw [if_pos rfl]
      exact ⟨has_del_same, fun z => atKey_del_same z⟩
    · rw [if_neg he]
      have hne : l' ≠ l := fun e => he (hinj _ _ (K.inj hk' (by rw [e]; exact hkey)))
      have := h2 k' l' hk'
      cases hf : f k' with
      | some u => rw [hf] at this; exact ⟨by rw [has_del_other hne]; exact this.1, fun z => by rw [atKey_del_other hne]; exact this.2 z⟩
      | none => rw [hf] at this; exact ⟨by rw [has_del_other hne]; exact this.1, fun z => by rw [atKey_del_other hne]; exact this.2 z⟩
  · by_cases he : l' = l
    · rw [he, has_del_same] at hl'; cases hl'
    · rw [has_del_other he] at hl'; exact h3 l' hl'

/-! ### at the operation -/
variable {ops : Array Oper} {rest : List Oper} {o : Oper} {a : Act} {Q : Exit → Act → World → Prop}
theorem wpl_look {w : World} (hg : o.guard = none) (m x : Operand) (T : TypeId) (hop : o.op = Op.lookup T m x false) (K : Keyed Tryz.prog kt) (ht : Tryz.prog.underlying T = some (.map kt et)) (z : Value) (hz : (zeroValue et).run Tryz.prog w = .ok z w)
    (b : Nat) {n : Nat} {f : κ → Option β} (hm : a.eval m = .map (some b)) (h : MapAt kt kv enc w b n f) (k : κ) (hx : a.eval x = kv k) {l : Lit} (hkey : keyOf Tryz.prog kt (kv k) = some l)
    (hK : wpList Tryz.prog ops Q rest (a.put o.dst (pickE enc z (f k))) w) : wpList Tryz.prog ops Q (o :: rest) a w := by
  refine wpList_plain hg fun K' hK' => ?_
  unfold Oper.wp
  simp [execOp, hop, hm, hx, h.look K ht hz hkey, Result.andThen]
  exact hK' _ _ hK
theorem wpl_lookOk {w : World} (hg : o.guard = none) (m x : Operand) (T : TypeId) (hop : o.op = Op.lookup T m x true) (K : Keyed Tryz.prog kt) (ht : Tryz.prog.underlying T = some (.map kt et)) (z : Value) (hz : (zeroValue et).run Tryz.prog w = .ok z w)
    (b : Nat) {n : Nat} {f : κ → Option β} (hm : a.eval m = .map (some b)) (h : MapAt kt kv enc w b n f) (k : κ) (hx : a.eval x = kv k) {l : Lit} (hkey : keyOf Tryz.prog kt (kv k) = some l)
    (hK : wpList Tryz.prog ops Q rest (a.put o.dst (.tuple #[pickE enc z (f k), .bool (f k).isSome])) w) : wpList Tryz.prog ops Q (o :: rest) a w := by
  refine wpList_plain hg fun K' hK' => ?_
  unfold Oper.wp
  simp [execOp, hop, hm, hx, h.lookOk K ht hz hkey, Result.andThen]
  exact hK' _ _ hK
theorem wpl_put {w : World} (hg : o.guard = none) (m x y : Operand) (T : TypeId) (hop : o.op = Op.mapUpdate T m x y) (K : Keyed Tryz.prog kt) (hinj : ∀ a b : κ, kv a = kv b → a = b) (ht : Tryz.prog.underlying T = some (.map kt et))
    (b : Nat) {n : Nat} {f : κ → Option β} (hm : a.eval m = .map (some b)) (h : MapAt kt kv enc w b n f) (hn : n < maxLen) (k : κ) (v : β) (hx : a.eval x = kv k) (hy : a.eval y = enc v) {l : Lit} (hkey : keyOf Tryz.prog kt (kv k) = some l)
    (hK : ∀ w', MapAt kt kv enc w' b (n + 1) (fun k' => if k' = k then some v else f k') → w.grownBy w' (some b) → wpList Tryz.prog ops Q rest (a.put o.dst undef) w') : wpList Tryz.prog ops Q (o :: rest) a w := by
  refine wpList_plain hg fun K' hK' => ?_
  obtain ⟨w', hr, h1, h2⟩ := h.put K hinj ht hn hkey v
  unfold Oper.wp
  simp [execOp, hop, hm, hx, hy, hr, Result.andThen]
  exact hK' _ _ (hK w' h1 h2)
theorem wpl_del {w : World} (hg : o.guard = none) (m x : Operand) (T : TypeId) (hop : o.op = Op.call { callee := Callee.builtin Builtin.delete, args := #[m, x], argTypes := #[T, kt] }) (K : Keyed Tryz.prog kt) (hinj : ∀ a b : κ, kv a = kv b → a = b) (ht : Tryz.prog.underlying T = some (.map kt et))
    (b : Nat) {n : Nat} {f : κ → Option β} (hm : a.eval m = .map (some b)) (h : MapAt kt kv enc w b n f) (k : κ) (hx : a.eval x = kv k) {l : Lit} (hkey : keyOf Tryz.prog kt (kv k) = some l)
    (hK : ∀ w', MapAt kt kv enc w' b n (fun k' => if k' = k then none else f k') → w.grownBy w' (some b) → wpList Tryz.prog ops Q rest (a.put o.dst (.tuple #[])) w') : wpList Tryz.prog ops Q (o :: rest) a w := by
  refine wpList_plain hg fun K' hK' => ?_
  obtain ⟨w', hr, h1, h2⟩ := h.del K hinj ht hkey o.type
  unfold Oper.wp
  simp [execOp, hop, resolve, invoke, builtin, hm, hx, hr, Result.andThen]
  exact hK' _ _ (hK w' h1 h2)
theorem wp_put {K0 : Act → World → Prop} {w : World} (m x y : Operand) (T : TypeId) (hop : o.op = Op.mapUpdate T m x y) (K : Keyed Tryz.prog kt) (hinj : ∀ a b : κ, kv a = kv b → a = b) (ht : Tryz.prog.underlying T = some (.map kt et))
    (b : Nat) {n : Nat} {f : κ → Option β} (hm : a.eval m = .map (some b)) (h : MapAt kt kv enc w b n f) (hn : n < maxLen) (k : κ) (v : β) (hx : a.eval x = kv k) (hy : a.eval y = enc v) {l : Lit} (hkey : keyOf Tryz.prog kt (kv k) = some l)
    (hK : ∀ w', MapAt kt kv enc w' b (n + 1) (fun k' => if k' = k then some v else f k') → w.grownBy w' (some b) → K0 (a.put o.dst undef) w') : o.wp Tryz.prog a w K0 Q := by
  obtain ⟨w', hr, h1, h2⟩ := h.put K hinj ht hn hkey v
  unfold Oper.wp
  simp [execOp, hop, hm, hx, hy, hr, Result.andThen]
  exact hK w' h1 h2
theorem step_put {K0 : Act → World → Prop} {E : Prop} {w : World} (hg : o.guard = none) (m x y : Operand) (T : TypeId) (hop : o.op = Op.mapUpdate T m x y) (K : Keyed Tryz.prog kt) (hinj : ∀ a b : κ, kv a = kv b → a = b) (ht : Tryz.prog.underlying T = some (.map kt et))
    (b : Nat) {n : Nat} {f : κ → Option β} (hm : a.eval m = .map (some b)) (h : MapAt kt kv enc w b n f) (hn : n < maxLen) (k : κ) (v : β) (hx : a.eval x = kv k) (hy : a.eval y = enc v) {l : Lit} (hkey : keyOf Tryz.prog kt (kv k) = some l)
    (hK : ∀ w', MapAt kt kv enc w' b (n + 1) (fun k' => if k' = k then some v else f k') → w.grownBy w' (some b) → K0 (a.put o.dst undef) w') :
    if Region.wanted o (yielded ops a.tmps) = true then Oper.wp Tryz.prog o a w K0 Q else E := by
  have hw : Region.wanted o (yielded ops a.tmps) = true := by simp [Region.wanted, hg]
  rw [if_pos hw]
  exact wp_put m x y T hop K hinj ht b hm h hn k v hx hy hkey hK
end

/-! ### the key types -/
theorem k3 : Keyed Tryz.prog 3 := int_keyed Tryz.underlying3
def vInt (a : Int) : Value := .int .i64 a
theorem vInt_inj (a b : Int) (h : vInt a = vInt b) : a = b := by unfold vInt at h; injection h
theorem key_int {a : Int} (h : (Lit.int .i64 a).wf = true) : keyOf Tryz.prog 3 (vInt a) = some (.int .i64 a) := keyOf_int_mk Tryz.underlying3 h
end Go.Proofs.YtphkpokoeaagfaaGreatDoor
