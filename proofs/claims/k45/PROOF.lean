import PyProof.Rows.All
import PyProof.ExcArgs
import PyProof.FitsBits
import Wide.All
import OpenK.AllK
import Wide.FinOn
import Lean
import PyProof.EqAt
import PyProof.EqKinds
import PyProof.TupleCall
import PyProof.NeData
import PyProof.ZipIter
import PyProof.EnumMake
import KE.BitLaws
import KE.IntBitsLaws
import KE.KIntText
import KE.IntTextLaws
import PyProof.ExcClass3
import PyProof.ExcInit
import PyProof.InstStoreFacts
import PyProof.DictWalks
import KE.KDictList
import PyProof.Rows.SumAny
import PyProof.StrBlockI
import PyProof.SliceStr2
import KE.KRevIter
import PyProof.Rows.GenSrcRange
import PyProof.ListRange
import PyProof.AutoSeq1
import PyProof.ReprHeadsTuple
import PyProof.StrBlock2
import PySem.Challenge.RW_sieve_k45_deeds_at_a_table
set_option Elab.async false
set_option linter.all false
set_option maxRecDepth 100000
-- CHANGE: your row's module here, as the last of these rows
namespace L2
open PySem PySem.Spec PyProof.Rows
abbrev Key := Sum Int Str
def keyIs : Key → Value → Bool
  | .inl k, v => Value.isInt k v
  | .inr x, v => Value.isStrOf x v
def keyH (w : World) : Key → Int
  | .inl k => hashInt k
  | .inr x => hashStr w x
theorem keyIs_shape : ∀ {k : Key} {v : Value}, keyIs k v = true → (∃ i t, k = Sum.inl i ∧ v = Value.int i t) ∨ (∃ x t, k = Sum.inr x ∧ v = Value.str x t)
  | .inl i, v, h => by
    obtain ⟨t, e⟩ := Value.isInt_shape (k := i) (v := v) h
    exact .inl ⟨i, t, rfl, e⟩
  | .inr x, v, h => by
    obtain ⟨t, e⟩ := Value.isStrOf_shape (x := x) (v := v) h
    exact .inr ⟨x, t, rfl, e⟩
theorem keyIs_int (i : Int) (t : Tok) : keyIs (.inl i) (.int i t) = true := by simp [keyIs, Value.isInt]
theorem keyIs_str (x : Str) (t : Tok) : keyIs (.inr x) (.str x t) = true := by simp [keyIs, Value.isStrOf]
theorem key_ll (a b : Int) : decide ((Sum.inl a : Key) = Sum.inl b) = (a == b) := by
  by_cases e : a = b
  · subst e; simp
  · have h : ¬ (Sum.inl a : Key) = Sum.inl b := fun q => e (Sum.inl.inj q)
    rw [decide_eq_false h]
    exact (beq_eq_false_iff_ne.mpr e).symm
theorem key_rr (a b : Str) : decide ((Sum.inr a : Key) = Sum.inr b) = decide (a = b) := by
  by_cases e : a = b
  · subst e; simp
  · have h : ¬ (Sum.inr a : Key) = Sum.inr b := fun q => e (Sum.inr.inj q)
    rw [decide_eq_false h, decide_eq_false e]
theorem key_lr (a : Int) (b : Str) : decide ((Sum.inl a : Key) = Sum.inr b) = false := decide_eq_false (fun q => nomatch q)
theorem key_rl (a : Str) (b : Int) : decide ((Sum.inr a : Key) = Sum.inl b) = false := decide_eq_false (fun q => nomatch q)
def mixKind (prog : Program) (w : World) : PySem.KeyKind prog w Key where
  is := keyIs
  hash := keyH w
  inj := fun v a b ha hb => by
    rcases keyIs_shape ha with ⟨i, t, rfl, rfl⟩ | ⟨x, t, rfl, rfl⟩
    · rcases keyIs_shape hb with ⟨j, u, rfl, e⟩ | ⟨y, u, rfl, e⟩
      · injection e with e1 _; rw [e1]
      · exact nomatch e
    · rcases keyIs_shape hb with ⟨j, u, rfl, e⟩ | ⟨y, u, rfl, e⟩
      · exact nomatch e
      · injection e with e1 _; rw [e1]
  byValue := fun k v h => by
    rcases keyIs_shape h with ⟨i, t, rfl, rfl⟩ | ⟨x, t, rfl, rfl⟩ <;> rfl
  pyHash := fun hv h => by
    rcases keyIs_shape hv with ⟨i, t, rfl, rfl⟩ | ⟨x, t, rfl, rfl⟩
    · exact wpAny_pyHash_int h
    · exact wpAny_pyHash_str h
  eqBool := fun hu hv h => by
    rcases keyIs_shape hu with ⟨i, t, rfl, rfl⟩ | ⟨x, t, rfl, rfl⟩
    · rcases keyIs_shape hv with ⟨j, u, rfl, rfl⟩ | ⟨y, u, rfl, rfl⟩
      · rw [key_ll] at h; exact wpAny_eqBool_int h
      · rw [key_lr] at h; exact SeqAt.EqAt.int_str i t y u _ _ _ _ h
    · rcases keyIs_shape hv with ⟨j, u, rfl, rfl⟩ | ⟨y, u, rfl, rfl⟩
      · rw [key_rl] at h; exact SeqAt.EqAt.str_int x t j u _ _ _ _ h
      · rw [key_rr] at h; exact wpAny_eqBool_str h
  «strs» := fun k x t v h => by
    rcases keyIs_shape h with ⟨i, u, rfl, e⟩ | ⟨y, u, rfl, e⟩
    · exact nomatch e
    · injection e with e1 _
      subst e1
      cases v <;> rfl
theorem mixKind_int (prog : Program) (w : World) (i : Int) (t : Tok) : (mixKind prog w).is (.inl i) (.int i t) = true := keyIs_int i t
theorem mixKind_str (prog : Program) (w : World) (x : Str) (t : Tok) : (mixKind prog w).is (.inr x) (.str x t) = true := keyIs_str x t
end L2
namespace L2
open PySem PySem.Spec PyProof.Rows
inductive V where
  | non | bl (b : Bool) | int (i : Int) | str (x : Str) | byt (b : Array UInt8) | flt (b : UInt64) | ref (a : Addr) | ty (n : String)
  deriving DecidableEq
def RelV : V → Value → Prop
  | .non, u => u = Value.none
  | .bl b, u => u = Value.bool b
  | .int i, u => ∃ t, u = Value.int i t
  | .str x, u => ∃ t, u = Value.str x t
  | .byt b, u => ∃ t, u = Value.bytes b t
  | .flt b, u => ∃ t, u = Value.float b t
  | .ref a, u => u = Value.ref a
  | .ty n, u => u = Value.type n
abbrev Vals : List V → List Value → Prop := Paired RelV
theorem Vals.length {xs : List V} {us : List Value} (r : Vals xs us) : xs.length = us.length := Paired.length r
theorem Vals.get : ∀ {xs : List V} {us : List Value} {i : Nat} {x : V}, Vals xs us → xs[i]? = some x → ∃ u, us[i]? = some u ∧ RelV x u
  | _, _, _, _, .nil, e => by simp at e
  | _, _, 0, _, .cons r _, e => by simp at e; subst e; exact ⟨_, rfl, r⟩
  | _, _, i + 1, x, .cons _ t, e => by
    obtain ⟨u, h1, h2⟩ := Vals.get (i := i) (x := x) t (by simpa using e)
    exact ⟨u, by simpa using h1, h2⟩
theorem Vals.set {x : V} {u : Value} (r : RelV x u) : ∀ {xs : List V} {us : List Value} (i : Nat), Vals xs us → Vals (xs.set i x) (us.set i u)
  | _, _, _, .nil => .nil
  | _, _, 0, .cons _ t => .cons r t
  | _, _, i + 1, .cons q t => .cons q (Vals.set r i t)
theorem Vals.append : ∀ {xs ys : List V} {us ws : List Value}, Vals xs us → Vals ys ws → Vals (xs ++ ys) (us ++ ws)
  | _, _, _, _, .nil, s => s
  | _, _, _, _, .cons r t, s => .cons r (Vals.append t s)
theorem Vals.take : ∀ {xs : List V} {us : List Value} (n : Nat), Vals xs us → Vals (xs.take n) (us.take n)
  | _, _, 0, _ => .nil
  | _, _, _ + 1, .nil => .nil
  | _, _, n + 1, .cons r t => .cons r (Vals.take n t)
theorem Vals.drop : ∀ {xs : List V} {us : List Value} (n : Nat), Vals xs us → Vals (xs.drop n) (us.drop n)
  | _, _, 0, r => r
  | _, _, _ + 1, .nil => .nil
  | _, _, n + 1, .cons _ t => Vals.drop n t
def RelO : Option V → Option Value → Prop
  | some v, some u => RelV v u
  | none, none => True
  | _, _ => False
def KV {κ : Type} : List (κ × V) → List (κ × Value) → Prop := Paired fun (p : κ × V) (q : κ × Value) => p.1 = q.1 ∧ RelV p.2 q.2
def kV : Key → V
  | .inl i => .int i
  | .inr x => .str x
inductive HO where
  | lst (xs : List V)
  | tup (xs : List V)
  | dK (kvs : List (Key × V)) | dT (kvs : List (List Key × V))
  | set (S : Int → Bool) (n : Nat)
  | ins (C dx : Addr) (fs : List (Str × V))
  | own (x : Addr)
  | xd (fs : List (Str × V))
  | met (f x : Addr)
  | rng (lo hi : Int)
  | frz (o : Obj) (u : HO)
  | tbl (ps : Array Value)
  | ext (φ : Heap → Prop)
abbrev Hp := Addr → Option HO
def upd (H : Hp) (a : Addr) (o : HO) : Hp := fun b => if b = a then some o else H b
theorem upd_same {H : Hp} {a : Addr} {o : HO} : upd H a o a = some o := by unfold upd; rw [if_pos rfl]
theorem upd_ne {H : Hp} {a b : Addr} {o : HO} (h : b ≠ a) : upd H a o b = H b := by unfold upd; rw [if_neg h]
theorem upd_upd {H : Hp} {a : Addr} {o u : HO} : upd (upd H a o) a u = upd H a u := by
  funext b; unfold upd; split <;> rfl
theorem ne_of {H : Hp} {a b : Addr} {o u : HO} (h : H a = some o) (h' : H b = some u) (d : o ≠ u) : a ≠ b := by
  intro e; subst e; rw [h] at h'; exact d (Option.some.inj h')
theorem ne_of_none {H : Hp} {a b : Addr} {o : HO} (h : H a = some o) (h' : H b = none) : a ≠ b := by
  intro e; subst e; rw [h] at h'; cases h'
section
variable (P : Program) (w : World)
def ObjOk (H : Hp) (h : Heap) (a : Addr) : HO → Prop
  | .lst xs => xs.length ≤ sizeLine ∧ ∃ (its : List Value) (n : Nat), Vals xs its ∧ h.get? a = some { cls := .type "list", data := .seq its.toArray n }
  | .tup xs => xs.length ≤ sizeLine ∧ ∃ its : List Value, Vals xs its ∧ IsTup h a its.toArray
  | .dK kvs => kvs.length ≤ sizeLine ∧ (a == sysModules) = false ∧ ∃ vs, KV kvs vs ∧ h.DictOf (mixKind P w) a vs
  | .dT kvs => kvs.length ≤ sizeLine ∧ (a == sysModules) = false ∧ ∃ xs : List (List Key × Addr × Value),
      Paired (fun (p : List Key × V) (q : List Key × Addr × Value) => p.1 = q.1 ∧ H q.2.1 = some (.tup (p.1.map kV)) ∧ RelV p.2 q.2.2) kvs xs ∧
      ∃ o es ep, h.get? a = some o ∧ o.ExactDict ∧ o.data = .dict es ep ∧ es.toList = xs.map (entryOfKey (tupleKind (mixKind P w))) ∧ (xs.map (·.1)).Nodup
  | .set S n => h.SetOf (intKind P w) a S n
  | .ins C dx fs => H dx = some (.own a) ∧ fs.length ≤ 1000 ∧ dx ≠ a ∧ h.get? a = some (PySem.W.instObj C dx) ∧
      ∃ mA, h.Ns1 dx mA ∧ (∀ f, RelO (fs.lookup f) (mA f)) ∧ PySem.Within mA (fs.map (·.1))
  | .own _ => ∃ o, h.get? a = some o
  | .xd fs => ∃ mA, h.Ns1 a mA ∧ ∀ f, RelO (fs.lookup f) (mA f)
  | .rng lo hi => ∃ t u v, h.get? a = some { cls := .type "range", data := .fields #[.int lo t, .int hi u, .int 1 v] }
  | .frz o u => h.get? a = some o ∧ ObjOk H h a u
  | .tbl ps => h.get? a = some { cls := .none, data := .fields ps }
  | .met f x => h.get? a = some (PySem.W.methodObj (.ref f) (.ref x))
  | .ext φ => φ h ∧ (∃ o, h.get? a = some o) ∧ ∀ h1 h2 : Heap, φ h1 → (∀ o, h1.get? a = some o → h2.get? a = some o) → φ h2
def HOk (H : Hp) (h : Heap) : Prop := ∀ a o, H a = some o → ObjOk P w H h a o
end
section
variable {P : Program} {w : World} {H H' : Hp} {h h' : Heap} {a : Addr} {o : HO}
theorem ObjOk.lt (x : ObjOk P w H h a o) : a < h.objs.size := by
  cases o with
  | lst xs => obtain ⟨_, _, _, _, e⟩ := x; exact Heap.lt_size e
  | tup xs => obtain ⟨_, _, _, p⟩ := x; exact p.lt
  | dK kvs => obtain ⟨_, _, _, _, o, _, _, e, _⟩ := x; exact Heap.lt_size e
  | dT kvs => obtain ⟨_, _, _, _, o, _, _, e, _⟩ := x; exact Heap.lt_size e
  | set S n => obtain ⟨o, _, _, _, e, _⟩ := x; exact Heap.lt_size e
  | ins C dx fs => obtain ⟨_, _, _, e, _⟩ := x; exact Heap.lt_size e
  | own y => obtain ⟨_, e⟩ := x; exact Heap.lt_size e
  | xd fs => obtain ⟨_, ⟨_, _, _, e, _⟩, _⟩ := x; exact Heap.lt_size e
  | rng lo hi => obtain ⟨_, _, _, e⟩ := x; exact Heap.lt_size e
  | frz ob u => obtain ⟨e, _⟩ := x; exact Heap.lt_size e
  | tbl ps => exact Heap.lt_size (show h.get? a = some _ from x)
  | met f y => exact Heap.lt_size (show h.get? a = some _ from x)
  | ext φ => obtain ⟨_, ⟨_, e⟩, _⟩ := x; exact Heap.lt_size e
theorem Paired.mapP {α β : Type} {F G : α → β → Prop} : ∀ {l₁ : List α} {l₂ : List β}, Paired F l₁ l₂ → (∀ a b, F a b → G a b) → Paired G l₁ l₂
  | _, _, .nil, _ => .nil
  | _, _, .cons r t, f => .cons (f _ _ r) (Paired.mapP t f)
theorem ObjOk.stay (x : ObjOk P w H h a o) (k : ∀ b u, (b = a ∨ H b = some (.own a)) → h.get? b = some u → h'.get? b = some u)
    (ho : ∀ b, H b = some (.own a) → H' b = some (.own a)) (ht : ∀ b xs, H b = some (.tup xs) → H' b = some (.tup xs)) : ObjOk P w H' h' a o := by
  induction o with
  | lst xs => obtain ⟨z, its, n, r, e⟩ := x; exact ⟨z, its, n, r, k _ _ (.inl rfl) e⟩
  | tup xs => obtain ⟨z, its, r, ob, e, c⟩ := x; exact ⟨z, its, r, ob, k _ _ (.inl rfl) e, c⟩
  | dK kvs => obtain ⟨z, y, vs, r, ob, es, ep, e, c⟩ := x; exact ⟨z, y, vs, r, ob, es, ep, k _ _ (.inl rfl) e, c⟩
  | dT kvs =>
    obtain ⟨z, y, xs, r, ob, es, ep, e, c⟩ := x
    exact ⟨z, y, xs, Paired.mapP r fun p q z => ⟨z.1, ht _ _ z.2.1, z.2.2⟩, ob, es, ep, k _ _ (.inl rfl) e, c⟩
  | set S n => obtain ⟨ob, es, ep, t, e, c⟩ := x; exact ⟨ob, es, ep, t, k _ _ (.inl rfl) e, c⟩
  | ins C dx fs =>
    obtain ⟨d, z, ne, e, mA, ⟨od, es, ep, e2, c⟩, r⟩ := x
    exact ⟨ho _ d, z, ne, k _ _ (.inl rfl) e, mA, ⟨od, es, ep, k _ _ (.inr d) e2, c⟩, r⟩
  | own y => obtain ⟨ob, e⟩ := x; exact ⟨ob, k _ _ (.inl rfl) e⟩
  | xd fs => obtain ⟨mA, ⟨od, es, ep, e, c⟩, r⟩ := x; exact ⟨mA, ⟨od, es, ep, k _ _ (.inl rfl) e, c⟩, r⟩
  | rng lo hi => obtain ⟨t, u, v, e⟩ := x; exact ⟨t, u, v, k _ _ (.inl rfl) e⟩
  | frz ob u ih => obtain ⟨e, q⟩ := x; exact ⟨k _ _ (.inl rfl) e, ih q⟩
  | tbl ps =>
    have e : h.get? a = some { cls := .none, data := .fields ps } := x
    show h'.get? a = some { cls := .none, data := .fields ps }
    exact k a _ (.inl rfl) e
  | met f y =>
    have e : h.get? a = some (PySem.W.methodObj (.ref f) (.ref y)) := x
    show h'.get? a = some (PySem.W.methodObj (.ref f) (.ref y))
    exact k a _ (.inl rfl) e
  | ext φ => obtain ⟨p, ⟨o, e⟩, st⟩ := x; exact ⟨st _ _ p fun o q => k _ _ (.inl rfl) q, ⟨o, k _ _ (.inl rfl) e⟩, st⟩
theorem HOk.lt (x : HOk P w H h) (e : H a = some o) : a < h.objs.size := (x a o e).lt
theorem HOk.fresh (x : HOk P w H h) (e : h.objs.size ≤ a) : H a = none := by
  cases q : H a with
  | none => rfl
  | some u => exact absurd (Nat.lt_of_lt_of_le (x.lt q) e) (Nat.lt_irrefl _)
theorem HOk.kept (x : HOk P w H h) (k : ∀ b u, h.get? b = some u → h'.get? b = some u) : HOk P w H h' := fun a o e =>
  (x a o e).stay (fun b u _ q => k b u q) (fun _ q => q) fun _ _ q => q
theorem HOk.laid (x : HOk P w H h) (k : ∀ b u, h.get? b = some u → h'.get? b = some u) (hp : h.objs.size ≤ a) (new : ObjOk P w (upd H a o) h' a o) : HOk P w (upd H a o) h' := fun b u e => by
  have hn := x.fresh hp
  by_cases hb : b = a
  · subst hb; rw [upd_same] at e; cases e; exact new
  · rw [upd_ne hb] at e
    exact (x b u e).stay (fun c v _ q => k c v q) (fun c q => by rw [upd_ne (ne_of_none q hn)]; exact q) fun c xs q => by rw [upd_ne (ne_of_none q hn)]; exact q
end
def Rd (H : Hp) (a : Addr) (u : HO) : Prop := H a = some u ∨ ∃ o, H a = some (.frz o u)
theorem Rd.of {H : Hp} {a : Addr} {u : HO} (h : H a = some u) : Rd H a u := .inl h
theorem Rd.ok {P : Program} {w : World} {H : Hp} {h : Heap} {a : Addr} {u : HO} (r : Rd H a u) (x : HOk P w H h) : ObjOk P w H h a u := by
  rcases r with r | ⟨o, r⟩
  · exact x a u r
  · obtain ⟨_, q⟩ := x a _ r
    exact q
def Mut : Option HO → Prop
  | some (.lst _) => True
  | some (.dK _) => True
  | some (.dT _) => True
  | some (.set _ _) => True
  | some (.ins _ _ _) => True
  | some (.ext _) => True
  | _ => False
section
variable {P : Program} {w : World} {H : Hp} {h h' : Heap} {x e : Addr} {o' : HO}
theorem HOk.write (ok : HOk P w H h) (mu : Mut (H x)) (he : e = x ∨ H e = some (.own x)) (k : ∀ b u, b ≠ e → h.get? b = some u → h'.get? b = some u) (heo : ∃ u, h'.get? e = some u)
    (new : ObjOk P w (upd H x o') h' x o') : HOk P w (upd H x o') h' := fun b u q => by
  have nown : ∀ c y, H c = some (.own y) → c ≠ x := fun c y r z => by subst z; rw [r] at mu; exact mu
  have ntup : ∀ c xs, H c = some (.tup xs) → c ≠ x := fun c xs r z => by subst z; rw [r] at mu; exact mu
  by_cases hb : b = x
  · subst hb; rw [upd_same] at q; cases q; exact new
  · rw [upd_ne hb] at q
    by_cases hbe : b = e
    · have q' : H b = some (.own x) := by
        rcases he with z | z
        · exact absurd (hbe.trans z) hb
        · rw [hbe]; exact z
      rw [q] at q'; cases q'
      obtain ⟨v, hv⟩ := heo
      exact ⟨v, by rw [hbe]; exact hv⟩
    · refine (ok b u q).stay (fun c v hc r => k c v ?_ r) (fun c r => by rw [upd_ne (nown c b r)]; exact r) fun c xs r => by rw [upd_ne (ntup c xs r)]; exact r
      rcases hc with rfl | hc
      · exact hbe
      · rintro rfl
        rcases he with z | z
        · exact nown c b hc z
        · rw [hc] at z; cases z; exact hb rfl
end
structure Un (fs ex : List Addr) (H H' : Hp) (h h' : Heap) : Prop where
  keep : ∀ b o, h.get? b = some o → H b = none → b ∉ fs → b ∉ ex → h'.get? b = some o
  slot : ∀ b o, h.get? b = some o → H b = none → b ∈ fs → b ∉ ex → ∃ sl, h'.get? b = some { o with slots := sl }
  free : ∀ b o, h.get? b = some o → H b = none → b ∉ ex → H' b = none
  there : ∀ b o, h.get? b = some o → b ∉ ex → ∃ o', h'.get? b = some o'
  tups : ∀ b xs, H b = some (.tup xs) → H' b = some (.tup xs)
  frzs : ∀ b o u, H b = some (.frz o u) → H' b = some (.frz o u)
  tbls : ∀ b ps, H b = some (.tbl ps) → ∃ more, H' b = some (.tbl (ps ++ more))
section
variable {fs fs' ex ex' : List Addr} {H H1 H2 : Hp} {h h1 h2 h' : Heap} {a x e : Addr} {o : HO}
theorem Un.any (u : Un fs ex H H1 h h1) {b : Addr} {ob : Obj} (q : h.get? b = some ob) (n : H b = none) (hx : b ∉ ex) : ∃ sl, h1.get? b = some { ob with slots := sl } := by
  by_cases hb : b ∈ fs
  · exact u.slot b ob q n hb hx
  · exact ⟨ob.slots, u.keep b ob q n hb hx⟩
theorem Un.trans (a : Un fs ex H H1 h h1) (b : Un fs ex H1 H2 h1 h2) : Un fs ex H H2 h h2 where
  keep := fun c ob q n hc hx => b.keep c ob (a.keep c ob q n hc hx) (a.free c ob q n hx) hc hx
  slot := fun c ob q n hc hx => by
    obtain ⟨sl, e1⟩ := a.slot c ob q n hc hx
    obtain ⟨sl', e2⟩ := b.slot c _ e1 (a.free c ob q n hx) hc hx
    exact ⟨sl', e2⟩
  free := fun c ob q n hx => by
    obtain ⟨o', e1⟩ := a.there c ob q hx
    exact b.free c o' e1 (a.free c ob q n hx) hx
  there := fun c ob q hx => by
    obtain ⟨o', e1⟩ := a.there c ob q hx
    exact b.there c o' e1 hx
  tups := fun c xs q => b.tups c xs (a.tups c xs q)
  frzs := fun c ob xs q => b.frzs c ob xs (a.frzs c ob xs q)
  tbls := fun c ps q => by
    obtain ⟨m1, e1⟩ := a.tbls c ps q
    obtain ⟨m2, e2⟩ := b.tbls c _ e1
    exact ⟨m1 ++ m2, by rw [e2, Array.append_assoc]⟩
theorem Un.kept (k : ∀ b u, h.get? b = some u → h'.get? b = some u) : Un fs ex H H h h' :=
  ⟨fun b ob q _ _ _ => k b ob q, fun b ob q _ _ _ => ⟨ob.slots, k b ob q⟩, fun _ _ _ n _ => n, fun b ob q _ => ⟨ob, k b ob q⟩, fun _ _ q => q, fun _ _ _ q => q, fun _ ps q => ⟨#[], by rw [q]; simp⟩⟩
theorem Un.refl : Un fs ex H H h h := Un.kept fun _ _ q => q
theorem Un.laid (k : ∀ b u, h.get? b = some u → h'.get? b = some u) (hp : h.objs.size ≤ a) (hn : H a = none) : Un fs ex H (upd H a o) h h' where
  keep := fun b u q _ _ _ => k b u q
  slot := fun b u q _ _ _ => ⟨u.slots, k b u q⟩
  free := fun b u q n _ => by rw [upd_ne (Nat.ne_of_lt (Nat.lt_of_lt_of_le (Heap.lt_size q) hp))]; exact n
  there := fun b u q _ => ⟨u, k b u q⟩
  tups := fun b xs q => by rw [upd_ne (ne_of_none q hn)]; exact q
  frzs := fun b u xs q => by rw [upd_ne (ne_of_none q hn)]; exact q
  tbls := fun b ps q => ⟨#[], by rw [upd_ne (ne_of_none q hn), q]; simp⟩
theorem Un.write (mu : Mut (H x)) (he : e = x ∨ H e = some (.own x)) (k : ∀ b u, b ≠ e → h.get? b = some u → h'.get? b = some u) (heo : ∃ u, h'.get? e = some u) : Un fs ex H (upd H x o) h h' := by
  have hx : ∀ b, H b = none → b ≠ x := fun b n z => by subst z; rw [n] at mu; exact mu
  have hb : ∀ b, H b = none → b ≠ e := fun b n z => by
    subst z
    rcases he with r | r
    · exact hx b n r
    · rw [n] at r; cases r
  have hm : ∀ b u, H b = some u → ¬ Mut (some u) → b ≠ x := fun b u q nm z => by subst z; rw [q] at mu; exact nm mu
  refine ⟨fun b u q n _ _ => k b u (hb b n) q, fun b u q n _ _ => ⟨u.slots, k b u (hb b n) q⟩, fun b u q n _ => by rw [upd_ne (hx b n)]; exact n, fun b u q _ => ?_,
    fun b xs q => by rw [upd_ne (hm b _ q fun z => z)]; exact q, fun b u xs q => by rw [upd_ne (hm b _ q fun z => z)]; exact q, fun b ps q => ⟨#[], by rw [upd_ne (hm b _ q fun z => z), q]; simp⟩⟩
  by_cases hbe : b = e
  · subst hbe; exact heo
  · exact ⟨u, k b u hbe q⟩
end
def trk (h : Heap) (H : Hp) : List Addr := (List.range h.objs.size).filter fun a => (H a).isSome
def hidT (h : Heap) (H : Hp) : Heap := PySem.W.hideAll h (trk h H)
theorem hidT_size (h : Heap) (H : Hp) : (hidT h H).objs.size = h.objs.size := PySem.W.hideAll_size _ _
theorem hidT_get {h : Heap} {H : Hp} {b : Addr} {o : Obj} (e : h.get? b = some o) (n : H b = none) : (hidT h H).get? b = some o :=
  PySem.W.hideAll_get _ e fun hm => by
    have q : (H b).isSome = true := (List.mem_filter.mp hm).2
    rw [n] at q; simp at q
theorem of_hidT {h : Heap} {H : Hp} {b : Addr} {o : Obj} (e : (hidT h H).get? b = some o) : h.get? b = some o ∧ H b = none := by
  have e' : h.get? b = some o := PySem.W.of_hideAll (trk h H) e
  refine ⟨e', ?_⟩
  cases q : H b with
  | none => rfl
  | some x =>
    have hm : b ∈ trk h H := List.mem_filter.mpr ⟨List.mem_range.mpr (Heap.lt_size e'), by simp [q]⟩
    have z : (hidT h H).get? b = none := PySem.W.hideAll_none (trk h H) hm
    rw [z] at e; cases e
end L2
namespace L2
open PySem PySem.Spec PyProof.Rows
structure Mod (K : PySem.W.Frag) (mg : Str → Option Value) (base : Heap) : Prop where
  kin : K.In base
  glob : base.Ns mainGlobals mg
  blt : ∃ mb, base.Ns builtinsNs mb ∧ ∀ x : Str, x ≠ "__name__" → mb x = bootBuiltins x
  nolimit : base.NoLimit
structure Cx where
  prog : Program
  w : World
  K : PySem.W.Frag
  mg : Str → Option Value
  base : Heap
  A : Around
  N : List Str
  s₀ : Shared
  H₀ : Hp
  env : Env
  outer : List Env
  stack : List Env
  ex : List Addr
  fn : Str → Bool
  calm : Bool
  pn : List (Addr × Obj)
  xe : Value → Shared → Prop
def frs (l : List Env) : List Addr := l.filterMap (·.frame)
abbrev Cx.fs (X : Cx) : List Addr := frs X.outer
def Vis (sc : Scope) (x : Str) : Prop := sc.names.lookup x = some .local ∨ sc.names.lookup x = some .cell ∨ sc.names.lookup x = some .free
def Loc (sc : Scope) (x : Str) : Prop := sc.names.lookup x = some .local ∨ sc.names.lookup x = some .cell
def Look (env : Env) (h : Heap) (m : Str → Option Value) (x : Str) (u : Value) : Prop :=
  (env.kindOf x = some .local ∧ m x = some u) ∨ ((env.kindOf x = some .cell ∨ env.kindOf x = some .free) ∧ ∃ c, env.cells.lookup x = some c ∧ h.IsCell c (some u))
structure Cx.Ok (X : Cx) : Prop where
  mod : Mod X.K X.mg X.base
  kind : X.env.scope.kind = .function
  glob : X.env.globals = mainGlobals
  blt : X.env.builtins = builtinsNs
  above : X.s₀.heap.objs.size ≤ X.env.locals
  inj : ∀ x y c, X.env.cells.lookup x = some c → X.env.cells.lookup y = some c → x = y
  has : ∀ x, (X.env.kindOf x = some .cell ∨ X.env.kindOf x = some .free) → ∃ c, X.env.cells.lookup x = some c
  cab : ∀ x c, X.fn x = true → X.env.cells.lookup x = some c → X.s₀.heap.objs.size ≤ c
  hd : X.calm = true → X.A.handled = none
  frames : X.A.frames = some X.stack
  stk : X.stack = X.outer ∨ (X.stack = X.env :: X.outer ∧ X.env.frame = some X.env.locals)
  exf : ∀ b ∈ X.ex, b ≠ X.env.locals ∧ ∀ x c, X.env.cells.lookup x = some c → c ≠ b
  bs : ∀ b o, X.base.get? b = some o → X.s₀.heap.get? b = some o ∧ X.H₀ b = none
  bsz : X.base.objs.size ≤ X.s₀.heap.objs.size
  noex : ∀ b o, X.base.get? b = some o → b ∉ X.ex
  exfs : ∀ b ∈ X.ex, b ∉ X.fs
  funs : X.s₀.heap.FunFrames X.base X.outer
  frf : ∀ b ∈ X.fs, X.H₀ b = none
structure Inv (X : Cx) (pins : List (Addr × Obj)) (σ : List (Option V)) (H : Hp) (s : Shared) : Prop where
  ok : X.Ok
  os : s.os = X.s₀.os
  bare : AllBare s.gens
  base : Un X.fs X.ex X.H₀ H X.s₀.heap s.heap
  loc : ∃ m, s.heap.Ns X.env.locals m ∧ ∀ (i : Nat) (x : Str) (v : V), X.N[i]? = some x → σ[i]? = some (some v) → Vis X.env.scope x → ∃ u, RelV v u ∧ Look X.env s.heap m x u
  cell : ∀ x c, X.env.cells.lookup x = some c → ∃ v, s.heap.IsCell c v
  free : H X.env.locals = none
  freeC : ∀ x c, X.env.cells.lookup x = some c → H c = none
  pin : ∀ p ∈ X.pn ++ pins, s.heap.get? p.1 = some p.2 ∧ H p.1 = none ∧ p.1 ≠ X.env.locals ∧ p.1 ∉ X.fs ∧ ∀ v, p.2.data ≠ .cell v
  hok : HOk X.prog X.w H s.heap
  len : σ.length = X.N.length
section
variable {X : Cx} {pins : List (Addr × Obj)} {σ : List (Option V)} {H H' : Hp} {s : Shared} {h' : Heap}
theorem Cx.Ok.nofr (ok : X.Ok) {b : Addr} {o : Obj} (e : X.base.get? b = some o) : b ∉ X.fs := fun hb => by
  have := (ok.funs.mem hb).1
  rw [e] at this; cases this
theorem Inv.bs (I : Inv X pins σ H s) : ∀ b o, X.base.get? b = some o → s.heap.get? b = some o ∧ H b = none := fun b o e =>
  ⟨I.base.keep b o (I.ok.bs b o e).1 (I.ok.bs b o e).2 (I.ok.nofr e) (I.ok.noex b o e), I.base.free b o (I.ok.bs b o e).1 (I.ok.bs b o e).2 (I.ok.noex b o e)⟩
theorem Inv.bk (I : Inv X pins σ H s) : ∀ b o, X.base.get? b = some o → s.heap.get? b = some o := fun b o e => (I.bs b o e).1
theorem Inv.mod (I : Inv X pins σ H s) : Mod X.K X.mg X.base := I.ok.mod
theorem Inv.kIn (I : Inv X pins σ H s) : X.K.In s.heap := I.ok.mod.kin.keeps I.bk
theorem Inv.fr (I : Inv X pins σ H s) : ∃ m, Fr X.base X.env.locals s.heap m :=
  let ⟨m, hn, _⟩ := I.loc
  ⟨m, hn, I.bk, Nat.le_trans I.ok.bsz I.ok.above⟩
theorem Inv.lt (I : Inv X pins σ H s) : X.env.locals < s.heap.objs.size := let ⟨_, hn, _⟩ := I.loc; hn.lt
theorem Inv.sz (I : Inv X pins σ H s) : X.s₀.heap.objs.size ≤ s.heap.objs.size := Nat.le_trans I.ok.above (Nat.le_of_lt I.lt)
theorem Inv.nofs (I : Inv X pins σ H s) {a : Addr} (h : s.heap.objs.size ≤ a) : a ∉ X.fs := fun hb => by
  obtain ⟨_, o, ho, _⟩ := I.ok.funs.mem hb
  exact absurd (Nat.lt_of_lt_of_le (Heap.lt_size ho) (Nat.le_trans I.sz h)) (Nat.lt_irrefl _)
theorem Inv.cne (I : Inv X pins σ H s) : ∀ x c, X.env.cells.lookup x = some c → c ≠ X.env.locals := fun x c e z => by
  obtain ⟨v, o, ho, hd⟩ := I.cell x c e
  obtain ⟨m, ⟨o', es, ep, ho', hd', _⟩, _⟩ := I.loc
  rw [z, ho'] at ho; cases ho; rw [hd'] at hd; cases hd
theorem Inv.funs (I : Inv X pins σ H s) : s.heap.FunFrames X.base X.outer := by
  have all : ∀ (l : List Env), (∀ b ∈ frs l, b ∈ X.fs) → X.s₀.heap.FunFrames X.base l → s.heap.FunFrames X.base l := by
    intro l
    induction l with
    | nil => intro _ _; trivial
    | cons env r ih =>
      intro hs hl
      obtain ⟨hk, ⟨L, o, hf, hn, ho, hd⟩, hr⟩ := hl
      have hL : L ∈ X.fs := hs L (by unfold frs; rw [List.filterMap_cons, hf]; exact List.mem_cons_self)
      obtain ⟨sl, e⟩ := I.base.slot L o ho (I.ok.frf L hL) hL fun z => I.ok.exfs L z hL
      exact ⟨hk, ⟨L, _, hf, hn, e, hd⟩, ih (fun b hb => hs b (by unfold frs; rw [List.filterMap_cons, hf]; exact List.mem_cons_of_mem _ hb)) hr⟩
  exact all X.outer (fun _ hb => hb) I.ok.funs
theorem Inv.stack (I : Inv X pins σ H s) : s.heap.FunFrames X.base X.stack := by
  rcases I.ok.stk with e | ⟨e, hf⟩
  · rw [e]; exact I.funs
  · rw [e]
    obtain ⟨m, hn, _⟩ := I.loc
    refine .cons (by rw [I.ok.kind]; decide) hf hn ?_ I.funs
    exact Heap.get?_none_of_le (Nat.le_trans I.ok.bsz I.ok.above)
theorem Inv.stkSub (I : Inv X pins σ H s) : ∀ b ∈ frs X.stack, b ∈ X.env.locals :: X.fs := fun b hb => by
  rcases I.ok.stk with e | ⟨e, hf⟩
  · rw [e] at hb; exact List.mem_cons_of_mem _ hb
  · rw [e] at hb
    unfold frs at hb
    rw [List.filterMap_cons, hf] at hb
    exact hb
theorem Inv.stkFree (I : Inv X pins σ H s) : ∀ b ∈ frs X.stack, H b = none := fun b hb => by
  rcases List.mem_cons.mp (I.stkSub b hb) with e | hb
  · rw [e]; exact I.free
  · obtain ⟨_, o, ho, _⟩ := I.ok.funs.mem hb
    exact I.base.free b o ho (I.ok.frf b hb) fun z => I.ok.exfs b z hb
theorem Inv.step {g' : Array GenState} {t' : Nat} {d' : Drawn} {ch : List Addr} (I : Inv X pins σ H s)
    (hch : ∀ b ∈ ch, (b ∈ X.ex ∨ X.s₀.heap.objs.size ≤ b) ∧ b ≠ X.env.locals ∧ (∀ x c, X.env.cells.lookup x = some c → c ≠ b) ∧ ∀ p ∈ X.pn ++ pins, p.1 ≠ b)
    (keep : ∀ b o, b ≠ X.env.locals → b ∉ X.fs → b ∉ ch → s.heap.get? b = some o → H b = none → h'.get? b = some o)
    (slot : ∀ b o, b ≠ X.env.locals → b ∈ X.fs → b ∉ ch → s.heap.get? b = some o → H b = none → ∃ sl, h'.get? b = some { o with slots := sl }) (free : ∀ b o, b ∉ ch → s.heap.get? b = some o → H b = none → H' b = none)
    (there : ∀ b o, b ∉ ch → s.heap.get? b = some o → ∃ o', h'.get? b = some o')
    (tups : ∀ b xs, H b = some (.tup xs) → H' b = some (.tup xs)) (frzs : ∀ b o u, H b = some (.frz o u) → H' b = some (.frz o u)) (tbls : ∀ b ps, H b = some (.tbl ps) → ∃ more, H' b = some (.tbl (ps ++ more)))
    (ns : ∀ m, s.heap.Ns X.env.locals m → h'.Ns X.env.locals m) (hok : HOk X.prog X.w H' h') (hg : AllBare g') :
    Inv X pins σ H' { s with heap := h', gens := g', drawn := d', toks := t' } := by
  have neL : ∀ b o, X.s₀.heap.get? b = some o → b ≠ X.env.locals := fun b o e => Nat.ne_of_lt (Nat.lt_of_lt_of_le (Heap.lt_size e) I.ok.above)
  have neC : ∀ b o, X.s₀.heap.get? b = some o → b ∉ X.ex → b ∉ ch := fun b o e hx hb => by
    rcases (hch b hb).1 with z | z
    · exact hx z
    · exact absurd (Nat.lt_of_lt_of_le (Heap.lt_size e) z) (Nat.lt_irrefl _)
  have cellK : ∀ x c, X.env.cells.lookup x = some c → ∀ v, s.heap.IsCell c v → h'.IsCell c v := fun x c e v ⟨o, ho, hd⟩ => by
    have nch : c ∉ ch := fun z => (hch c z).2.2.1 x c e rfl
    by_cases hc : c ∈ X.fs
    · obtain ⟨sl, q⟩ := slot c o (I.cne x c e) hc nch ho (I.freeC x c e)
      exact ⟨_, q, hd⟩
    · exact ⟨o, keep c o (I.cne x c e) hc nch ho (I.freeC x c e), hd⟩
  refine ⟨I.ok, I.os, hg, ⟨fun b o e n hb hx => ?_, fun b o e n hb hx => ?_, fun b o e n hx => ?_, fun b o e hx => ?_, fun b xs e => tups b xs (I.base.tups b xs e), fun b o xs e => frzs b o xs (I.base.frzs b o xs e), fun b ps e => ?_⟩, ?_, fun x c e => ?_, ?_, fun x c e => ?_, fun p hp => ?_, hok, I.len⟩
  · exact keep b o (neL b o e) hb (neC b o e hx) (I.base.keep b o e n hb hx) (I.base.free b o e n hx)
  · obtain ⟨sl, e1⟩ := I.base.slot b o e n hb hx
    obtain ⟨sl', e2⟩ := slot b _ (neL b o e) hb (neC b o e hx) e1 (I.base.free b o e n hx)
    exact ⟨sl', e2⟩
  · obtain ⟨o', e1⟩ := I.base.there b o e hx
    exact free b o' (neC b o e hx) e1 (I.base.free b o e n hx)
  · obtain ⟨o', e1⟩ := I.base.there b o e hx
    exact there b o' (neC b o e hx) e1
  · obtain ⟨m1, e1⟩ := I.base.tbls b ps e
    obtain ⟨m2, e2⟩ := tbls b _ e1
    exact ⟨m1 ++ m2, by rw [e2, Array.append_assoc]⟩
  · obtain ⟨m, hn, hl⟩ := I.loc
    refine ⟨m, ns m hn, fun i x v e1 e2 e3 => ?_⟩
    obtain ⟨u, r, l⟩ := hl i x v e1 e2 e3
    refine ⟨u, r, ?_⟩
    rcases l with l | ⟨k, c, e, z⟩
    · exact .inl l
    · exact .inr ⟨k, c, e, cellK x c e _ z⟩
  · obtain ⟨v, z⟩ := I.cell x c e
    exact ⟨v, cellK x c e v z⟩
  · obtain ⟨m, ⟨o, _, _, ho, _⟩, _⟩ := I.loc
    exact free _ o (fun z => (hch _ z).2.1 rfl) ho I.free
  · obtain ⟨v, o, ho, hd⟩ := I.cell x c e
    exact free c o (fun z => (hch c z).2.2.1 x c e rfl) ho (I.freeC x c e)
  · obtain ⟨e, n, ne, nf, d⟩ := I.pin p hp
    have nch : p.1 ∉ ch := fun z => (hch p.1 z).2.2.2 p hp rfl
    exact ⟨keep p.1 p.2 ne nf nch e n, free p.1 p.2 nch e n, ne, nf, d⟩
theorem Inv.un {t' : Nat} (I : Inv X pins σ H s) (u : Un X.fs [] H H' s.heap h') (hok : HOk X.prog X.w H' h') : Inv X pins σ H' { s with heap := h', toks := t' } := by
  obtain ⟨m, ⟨o, es, ep, ho, r⟩, _⟩ := id I.loc
  obtain ⟨sl, hL⟩ := u.any ho I.free (by simp)
  exact I.step (g' := s.gens) (d' := s.drawn) (ch := []) (fun _ z => nomatch z) (fun b o _ hb _ e n => u.keep b o e n hb (by simp)) (fun b o _ hb _ e n => u.slot b o e n hb (by simp)) (fun b o _ e n => u.free b o e n (by simp)) (fun b o _ e => u.there b o e (by simp)) u.tups u.frzs u.tbls (fun m' hm => by
    obtain ⟨o', es', ep', ho', r'⟩ := hm
    rw [ho] at ho'; cases ho'
    exact ⟨_, es', ep', hL, r'⟩) hok I.bare
theorem Inv.call {g' : Array GenState} {t' : Nat} {d' : Drawn} {ch : List Addr} (I : Inv X pins σ H s) (u : Un (frs X.stack) ch H H' s.heap h') (hok : HOk X.prog X.w H' h') (hg : AllBare g')
    (hch : ∀ b ∈ ch, (b ∈ X.ex ∨ X.s₀.heap.objs.size ≤ b) ∧ b ≠ X.env.locals ∧ (∀ x c, X.env.cells.lookup x = some c → c ≠ b) ∧ ∀ p ∈ X.pn ++ pins, p.1 ≠ b) :
    Inv X pins σ H' { s with heap := h', gens := g', drawn := d', toks := t' } := by
  obtain ⟨m, ⟨o, es, ep, ho, r⟩, _⟩ := id I.loc
  obtain ⟨sl, hL⟩ := u.any ho I.free fun z => (hch _ z).2.1 rfl
  exact I.step (ch := ch) hch (fun b o hL hb hc e n => u.keep b o e n (fun z => (List.mem_cons.mp (I.stkSub b z)).elim hL hb) hc) (fun b o _ _ hc e n => u.any e n hc) (fun b o hc e n => u.free b o e n hc) (fun b o hc e => u.there b o e hc) u.tups u.frzs u.tbls (fun m' hm => by
    obtain ⟨o', es', ep', ho', r'⟩ := hm
    rw [ho] at ho'; cases ho'
    exact ⟨_, es', ep', hL, r'⟩) hok hg
theorem Inv.turned {t' : Nat} {it : Addr} (I : Inv X pins σ H s) (k : ∀ b o, b ≠ it → s.heap.get? b = some o → h'.get? b = some o) (hn : H it = none) (hL : it ≠ X.env.locals)
    (h1 : it ∈ X.ex ∨ X.s₀.heap.objs.size ≤ it) (h2 : ∀ x c, X.env.cells.lookup x = some c → c ≠ it) (h3 : ∀ p ∈ X.pn ++ pins, p.1 ≠ it) : Inv X pins σ H { s with heap := h', toks := t' } := by
  have nit : ∀ b u, H b = some u → b ≠ it := fun b u e z => by rw [z, hn] at e; cases e
  refine I.step (g' := s.gens) (d' := s.drawn) (ch := [it]) (fun b hb => ?_) (fun b o _ _ hc e _ => k b o (fun z => hc (by simp [z])) e) (fun b o _ _ hc e _ => ⟨o.slots, k b o (fun z => hc (by simp [z])) e⟩) (fun _ _ _ _ n => n)
    (fun b o hc e => ⟨o, k b o (fun z => hc (by simp [z])) e⟩) (fun _ _ e => e) (fun _ _ _ e => e) (fun b ps e => ⟨#[], by rw [e]; simp⟩) (fun m hm => ?_) (fun b u e => ?_) I.bare
  · have e : b = it := by simpa using hb
    subst e
    exact ⟨h1, hL, h2, h3⟩
  · obtain ⟨o, es, ep, ho, r⟩ := hm
    exact ⟨o, es, ep, k _ o (Ne.symm hL) ho, r⟩
  · refine (I.hok b u e).stay (fun c v hc q => k c v ?_ q) (fun _ q => q) fun _ _ q => q
    rcases hc with z | z
    · rw [z]; exact nit b u e
    · exact nit c _ z
theorem Inv.tok (I : Inv X pins σ H s) (t : Nat) : Inv X pins σ H { s with toks := t } := I.un (h' := s.heap) (t' := t) Un.refl I.hok
theorem Inv.kept {t' : Nat} (I : Inv X pins σ H s) (k : ∀ b u, s.heap.get? b = some u → h'.get? b = some u) : Inv X pins σ H { s with heap := h', toks := t' } := I.un (Un.kept k) (I.hok.kept k)
theorem Inv.laid {a : Addr} {o : HO} {t' : Nat} (I : Inv X pins σ H s) (k : ∀ b u, s.heap.get? b = some u → h'.get? b = some u) (hp : s.heap.objs.size ≤ a) (new : ObjOk X.prog X.w (upd H a o) h' a o) :
    Inv X pins σ (upd H a o) { s with heap := h', toks := t' } := I.un (Un.laid k hp (I.hok.fresh hp)) (I.hok.laid k hp new)
theorem Inv.write {x e : Addr} {o : HO} {t' : Nat} (I : Inv X pins σ H s) (mu : Mut (H x)) (he : e = x ∨ H e = some (.own x)) (k : ∀ b u, b ≠ e → s.heap.get? b = some u → h'.get? b = some u) (heo : ∃ u, h'.get? e = some u)
    (new : ObjOk X.prog X.w (upd H x o) h' x o) : Inv X pins σ (upd H x o) { s with heap := h', toks := t' } := I.un (Un.write mu he k heo) (I.hok.write mu he k heo new)
theorem Inv.pins_of {pins' : List (Addr × Obj)} (I : Inv X pins σ H s) (h : ∀ p ∈ pins', s.heap.get? p.1 = some p.2 ∧ H p.1 = none ∧ p.1 ≠ X.env.locals ∧ p.1 ∉ X.fs ∧ ∀ v, p.2.data ≠ .cell v) : Inv X pins' σ H s :=
  ⟨I.ok, I.os, I.bare, I.base, I.loc, I.cell, I.free, I.freeC, fun p hp => (List.mem_append.mp hp).elim (fun z => I.pin p (List.mem_append_left _ z)) (h p), I.hok, I.len⟩
theorem nodup_ix {N : List Str} (hN : N.Nodup) {i j : Nat} {x : Str} (a : N[i]? = some x) (b : N[j]? = some x) : i = j := by
  obtain ⟨h1, e1⟩ := List.getElem?_eq_some_iff.mp a
  obtain ⟨h2, e2⟩ := List.getElem?_eq_some_iff.mp b
  exact (List.getElem_inj hN).mp (e1.trans e2.symm)
theorem store_ok2 {M : Model} {A : Around} {E : Value → Shared → Prop} {i : Nat} {x : Str} {v : V} {u : Value} {Q : Unit → Shared → Prop} (I : Inv X pins σ H s) (hN : X.N.Nodup) (hi : X.N[i]? = some x) (hx : Loc X.env.scope x) (r : RelV v u)
    (h : ∀ s', Inv X pins (σ.set i (some v)) H s' → (∃ a, Heap.SameBut a s.heap s'.heap ∧ (a = X.env.locals ∨ X.env.cells.lookup x = some a)) → Q () s') (hf : X.fn x = true ∨ X.env.scope.names.lookup x = some .local := by first | exact .inl rfl | exact .inr rfl | assumption) : wpAny M A (storeName X.env x u) Q E s := by
  obtain ⟨m, hn, hl⟩ := id I.loc
  have hcls : (X.env.scope.kind == .class || (X.env.scope.kind == .module && X.env.locals != X.env.globals)) = false := by rw [I.ok.kind]; rfl
  have hiσ : i < σ.length := by rw [I.len]; exact (List.getElem?_eq_some_iff.mp hi).1
  have cne := I.cne
  have tracked : ∀ {a : Addr} {h' : Heap}, (∃ o, s.heap.get? a = some o ∧ H a = none) → Heap.SameBut a s.heap h' → HOk X.prog X.w H h' := fun {a h'} ha hs b ob e => by
    obtain ⟨_, _, hfree⟩ := ha
    refine (I.hok b ob e).stay (fun c w' hc q => (hs.2 c ?_).trans q) (fun _ q => q) fun _ _ q => q
    rintro rfl
    rcases hc with rfl | hc
    · rw [hfree] at e; cases e
    · rw [hfree] at hc; cases hc
  rcases hx with hk | hk
  · refine wpAny_storeName_local hk hn (fun h' hn' hs => ?_) hcls
    obtain ⟨oL, _, _, hoL, _⟩ := id hn
    refine h _ ⟨I.ok, I.os, I.bare, ⟨fun b o e n hb hx => ?_, fun b o e n hb hx => ?_, I.base.free, fun b o e hx => ?_, I.base.tups, I.base.frzs, I.base.tbls⟩, ⟨_, hn', fun j y v' e1 e2 e3 => ?_⟩, fun y c e => ?_, I.free, I.freeC, fun p hp => ?_, tracked ⟨oL, hoL, I.free⟩ hs, by simpa using I.len⟩ ⟨_, hs, .inl rfl⟩
    · exact (hs.2 b (Nat.ne_of_lt (Nat.lt_of_lt_of_le (Heap.lt_size e) I.ok.above))).trans (I.base.keep b o e n hb hx)
    · obtain ⟨sl, e1⟩ := I.base.slot b o e n hb hx
      exact ⟨sl, (hs.2 b (Nat.ne_of_lt (Nat.lt_of_lt_of_le (Heap.lt_size e) I.ok.above))).trans e1⟩
    · obtain ⟨o', e1⟩ := I.base.there b o e hx
      exact ⟨o', (hs.2 b (Nat.ne_of_lt (Nat.lt_of_lt_of_le (Heap.lt_size e) I.ok.above))).trans e1⟩
    · by_cases hj : j = i
      · subst hj
        rw [hi] at e1; cases e1
        rw [List.getElem?_set_self hiσ] at e2
        cases e2
        exact ⟨u, r, .inl ⟨hk, by simp⟩⟩
      · rw [List.getElem?_set_ne (Ne.symm hj)] at e2
        obtain ⟨u', r', q⟩ := hl j y v' e1 e2 e3
        refine ⟨u', r', ?_⟩
        rcases q with ⟨k, e⟩ | ⟨k, c, e, z⟩
        · refine .inl ⟨k, ?_⟩
          have : y ≠ x := fun e => hj (nodup_ix hN e1 (e ▸ hi))
          simp [this, e]
        · exact .inr ⟨k, c, e, z.sameBut hs (cne y c e)⟩
    · obtain ⟨w', z⟩ := I.cell y c e
      exact ⟨w', z.sameBut hs (cne y c e)⟩
    · obtain ⟨e, n, ne, nf, d⟩ := I.pin p hp
      exact ⟨(hs.2 p.1 ne).trans e, n, ne, nf, d⟩
  · have hfn : X.fn x = true := by
      rcases hf with z | z
      · exact z
      · rw [z] at hk; cases hk
    obtain ⟨c, hc⟩ := I.ok.has x (.inl hk)
    obtain ⟨w', z⟩ := I.cell x c hc
    refine wpAny_storeName_cell I.ok.kind hk hc z (fun h' hc' hs => ?_)
    obtain ⟨oc, hoc, hocd⟩ := id z
    refine h { s with heap := h' } ⟨I.ok, I.os, I.bare, ⟨fun b o e n hb hx => ?_, fun b o e n hb hx => ?_, I.base.free, fun b o e hx => ?_, I.base.tups, I.base.frzs, I.base.tbls⟩, ⟨m, hn.sameBut hs (Ne.symm (cne x c hc)), fun j y v' e1 e2 e3 => ?_⟩, fun y c' e => ?_, I.free, I.freeC, fun p hp => ?_, tracked ⟨oc, hoc, I.freeC x c hc⟩ hs, by simpa using I.len⟩ ⟨c, hs, .inr hc⟩
    · exact (hs.2 b (Nat.ne_of_lt (Nat.lt_of_lt_of_le (Heap.lt_size e) (I.ok.cab x c hfn hc)))).trans (I.base.keep b o e n hb hx)
    · obtain ⟨sl, e1⟩ := I.base.slot b o e n hb hx
      exact ⟨sl, (hs.2 b (Nat.ne_of_lt (Nat.lt_of_lt_of_le (Heap.lt_size e) (I.ok.cab x c hfn hc)))).trans e1⟩
    · obtain ⟨o', e1⟩ := I.base.there b o e hx
      exact ⟨o', (hs.2 b (Nat.ne_of_lt (Nat.lt_of_lt_of_le (Heap.lt_size e) (I.ok.cab x c hfn hc)))).trans e1⟩
    · by_cases hj : j = i
      · subst hj
        rw [hi] at e1; cases e1
        rw [List.getElem?_set_self hiσ] at e2
        cases e2
        exact ⟨u, r, .inr ⟨.inl hk, c, hc, hc'⟩⟩
      · rw [List.getElem?_set_ne (Ne.symm hj)] at e2
        obtain ⟨u', r', q⟩ := hl j y v' e1 e2 e3
        refine ⟨u', r', ?_⟩
        rcases q with q | ⟨k, c', e, z'⟩
        · exact .inl q
        · refine .inr ⟨k, c', e, z'.sameBut hs ?_⟩
          rintro rfl
          exact hj (nodup_ix hN e1 (I.ok.inj _ _ _ e hc ▸ hi))
    · by_cases hcc : c' = c
      · subst hcc; exact ⟨_, hc'⟩
      · obtain ⟨w2, z2⟩ := I.cell y c' e
        exact ⟨w2, z2.sameBut hs hcc⟩
    · obtain ⟨e, n, ne, nf, d⟩ := I.pin p hp
      refine ⟨(hs.2 p.1 ?_).trans e, n, ne, nf, d⟩
      intro q
      rw [q, hoc] at e
      have q' : oc = p.2 := Option.some.inj e
      exact d w' (by rw [← q']; exact hocd)
theorem store_ok {M : Model} {A : Around} {E : Value → Shared → Prop} {i : Nat} {x : Str} {v : V} {u : Value} {Q : Unit → Shared → Prop} (I : Inv X pins σ H s) (hN : X.N.Nodup) (hi : X.N[i]? = some x) (hx : Loc X.env.scope x) (r : RelV v u)
    (h : ∀ s', Inv X pins (σ.set i (some v)) H s' → Q () s') (hf : X.fn x = true ∨ X.env.scope.names.lookup x = some .local := by first | exact .inl rfl | exact .inr rfl | assumption) : wpAny M A (storeName X.env x u) Q E s :=
  store_ok2 I hN hi hx r (fun s' I' _ => h s' I') hf
theorem Inv.call' {s' : Shared} {ch : List Addr} (I : Inv X pins σ H s) (ho : s'.os = s.os) (u : Un (frs X.stack) ch H H' s.heap s'.heap) (hok : HOk X.prog X.w H' s'.heap) (hg : AllBare s'.gens)
    (hch : ∀ b ∈ ch, (b ∈ X.ex ∨ X.s₀.heap.objs.size ≤ b) ∧ b ≠ X.env.locals ∧ (∀ x c, X.env.cells.lookup x = some c → c ≠ b) ∧ ∀ p ∈ X.pn ++ pins, p.1 ≠ b) : Inv X pins σ H' s' := by
  obtain ⟨h', g', d', t', o'⟩ := s'
  have e : o' = s.os := ho
  subst e
  exact I.call (g' := g') (t' := t') (d' := d') u hok hg hch
end
abbrev XK := Value → Option Addr → Hp → Prop
abbrev St := List (Option V)
abbrev VK := V → Hp → Prop
abbrev TE := St → Hp → VK → Prop
abbrev TT := St → Hp → (Bool → Hp → Prop) → Prop
abbrev TA := St → Hp → (List V → Hp → Prop) → Prop
structure Ends where
  nx : St → Hp → Prop
  rt : VK
  bk : St → Hp → Prop := fun _ _ => False
  ct : St → Hp → Prop := fun _ _ => False
abbrev TS := Ends → St → Hp → Prop
def EP (X : Cx) (pins : List (Addr × Obj)) (σ : St) (Q : VK) (u : Value) (s' : Shared) : Prop := ∃ v H', Inv X pins σ H' s' ∧ RelV v u ∧ Q v H'
def TP (X : Cx) (pins : List (Addr × Obj)) (σ : St) (Q : Bool → Hp → Prop) (b : Bool) (s' : Shared) : Prop := ∃ H', Inv X pins σ H' s' ∧ Q b H'
def AP (X : Cx) (pins : List (Addr × Obj)) (σ : St) (Q : List V → Hp → Prop) (us : List Value) (s' : Shared) : Prop := ∃ vs H', Inv X pins σ H' s' ∧ Vals vs us ∧ Q vs H'
def SP (X : Cx) (pins : List (Addr × Obj)) (D : Ends) (f : Flow) (s' : Shared) : Prop :=
  match f with
  | .next => ∃ σ' H', Inv X pins σ' H' s' ∧ D.nx σ' H'
  | .brk => ∃ σ' H', Inv X pins σ' H' s' ∧ D.bk σ' H'
  | .cont => ∃ σ' H', Inv X pins σ' H' s' ∧ D.ct σ' H'
  | .ret u => ∃ v σ' H', Inv X pins σ' H' s' ∧ RelV v u ∧ D.rt v H'
def PE (X : Cx) (e : Expr) (t : TE) : Prop :=
  ∀ (pins : List (Addr × Obj)) (s : Shared) (σ : St) (H : Hp) (Q : VK), Inv X pins σ H s → t σ H Q → wpAny (model X.prog X.w) X.A (eval e X.env) (EP X pins σ Q) X.xe s
def PT (X : Cx) (e : Expr) (t : TT) : Prop :=
  ∀ (pins : List (Addr × Obj)) (s : Shared) (σ : St) (H : Hp) (Q : Bool → Hp → Prop), Inv X pins σ H s → t σ H Q → wpAny (model X.prog X.w) X.A (isTrue e X.env (eval e X.env)) (TP X pins σ Q) X.xe s
def PW (X : Cx) (e : Expr) (t : TT) : Prop :=
  ∀ (whole : Sem Value) (pins : List (Addr × Obj)) (s : Shared) (σ : St) (H : Hp) (Q : Bool → Hp → Prop), Inv X pins σ H s → t σ H Q → wpAny (model X.prog X.w) X.A (isTrue e X.env whole) (TP X pins σ Q) X.xe s
theorem PW.pt {X : Cx} {e : Expr} {t : TT} (h : PW X e t) : PT X e t := h _
def PA (X : Cx) (es : List Expr) (t : TA) : Prop :=
  ∀ (pos : Pos) (pins : List (Addr × Obj)) (s : Shared) (σ : St) (H : Hp) (Q : List V → Hp → Prop), Inv X pins σ H s → t σ H Q → wpAny (model X.prog X.w) X.A (spliced (backTo pos (starEach es X.env))) (AP X pins σ Q) X.xe s
def PS (X : Cx) (st : Stmt) (t : TS) : Prop :=
  ∀ (pins : List (Addr × Obj)) (s : Shared) (σ : St) (H : Hp) (D : Ends), Inv X pins σ H s → t D σ H → wpAny (model X.prog X.w) X.A (exec st X.env) (SP X pins D) X.xe s
def PSs (X : Cx) (st : List Stmt) (t : TS) : Prop :=
  ∀ (pins : List (Addr × Obj)) (s : Shared) (σ : St) (H : Hp) (D : Ends), Inv X pins σ H s → t D σ H → wpAny (model X.prog X.w) X.A (execs st X.env) (SP X pins D) X.xe s
theorem thn {α : Type} {t : Sem α} {Q Q' : α → Shared → Prop} {M : Model} {A : Around} {E : Value → Shared → Prop} {s : Shared} (h : wpAny M A t Q E s) (hQ : ∀ a s, Q a s → Q' a s) : wpAny M A t Q' E s := wpAny_mono h hQ fun _ _ x => x
end L2
namespace L2
open PySem PySem.Spec PyProof.Rows
section
variable {X : Cx}
theorem bin {a b : Expr} {ta tb : TE} (ha : PE X a ta) (hb : PE X b tb) {pins : List (Addr × Obj)} {s : Shared} {σ : St} {H : Hp} {R : V → V → Hp → Prop} (I : Inv X pins σ H s) (h : ta σ H fun x H1 => tb σ H1 fun y H2 => R x y H2)
    {α : Type} {Q : α → Shared → Prop} {f : Value → Value → Sem α}
    (hf : ∀ v u s2 x y H2, Inv X pins σ H2 s2 → RelV x v → RelV y u → R x y H2 → wpAny (model X.prog X.w) X.A (f v u) Q X.xe s2) :
    wpAny (model X.prog X.w) X.A (eval a X.env) (fun v s₁ => wpAny (model X.prog X.w) X.A (eval b X.env) (fun u s₂ => wpAny (model X.prog X.w) X.A (f v u) Q X.xe s₂) X.xe s₁) X.xe s := by
  refine thn (ha pins s σ H _ I h) fun v s1 ⟨x, H1, I1, r1, q1⟩ => ?_
  refine thn (hb pins s1 σ H1 _ I1 q1) fun u s2 ⟨y, H2, I2, r2, q2⟩ => ?_
  exact hf v u s2 x y H2 I2 r1 r2 q2
def tVar (i : Nat) : TE := fun σ H Q => ∃ v, σ[i]? = some (some v) ∧ Q v H
def tC (v : V) : TE := fun _ H Q => Q v H
theorem pe_var {i : Nat} {x : Str} {pos : Pos} (hN : X.N[i]? = some x) (hv : Vis X.env.scope x) (hd : (x == ("__debug__" : Str)) = false := by decide) (hcd : (x == ("__classdict__" : Str)) = false := by decide) : PE X (.Name x pos) (tVar i) := by
  intro pins s σ H Q I h
  obtain ⟨v, e, h⟩ := h
  obtain ⟨m, hn, hl⟩ := I.loc
  obtain ⟨u, r, l⟩ := hl i x v hN e hv
  have fin : EP X pins σ Q u s := ⟨v, H, I, r, h⟩
  rcases l with ⟨hk, hm⟩ | ⟨hk, c, hc, hcell⟩
  · exact wpAny_Name (wpAny_loadName_local I.ok.kind hk hn hm fin) hd
  · rcases hk with hk | hk
    · exact wpAny_Name (wpAny_loadName_cell I.ok.kind hk hc hcell fin) hd
    · exact wpAny_Name (wpAny_loadName_free I.ok.kind hk hc hcell fin hcd) hd
theorem pe_int {i j pos} : PE X (.Constant (.int i) j pos) (tC (.int i)) := fun _ _ _ H _ I h => wpAny_Constant_int ⟨.int i, H, I.tok _, ⟨_, rfl⟩, h⟩
theorem pe_bl {b j pos} : PE X (.Constant (.bool b) j pos) (tC (.bl b)) := fun _ _ _ H _ I h => Constant_bool ⟨.bl b, H, I, rfl, h⟩
theorem pe_non {j pos} : PE X (.Constant .none j pos) (tC .non) := fun _ _ _ H _ I h => Constant_none ⟨.non, H, I, rfl, h⟩
theorem pe_str {x j pos} : PE X (.Constant (.str x) j pos) (tC (.str x)) := fun _ _ _ H _ I h => Calls.Constant_str ⟨.str x, H, I.tok _, ⟨_, rfl⟩, h⟩
def Gl (X : Cx) (x : Str) : Prop := X.env.kindOf x = some .globalImplicit
theorem ld_glob {E : Value → Shared → Prop} {pins : List (Addr × Obj)} {s : Shared} {σ : St} {H : Hp} {x : Str} {u : Value} {pos : Pos} {Q : Value → Shared → Prop} (I : Inv X pins σ H s) (hg : Gl X x) (hm : X.mg x = some u) (h : Q u s)
    (hd : (x == ("__debug__" : Str)) = false := by decide) : wpAny (model X.prog X.w) X.A (eval (.Name x pos) X.env) Q E s :=
  Calls.Name_function_global I.ok.kind hg (Calls.loadGlobal_global (by rw [I.ok.glob]; exact I.mod.glob.keeps I.bk) hm h) hd
theorem ld_blt {E : Value → Shared → Prop} {pins : List (Addr × Obj)} {s : Shared} {σ : St} {H : Hp} {x : Str} {u : Value} {pos : Pos} {Q : Value → Shared → Prop} (I : Inv X pins σ H s) (hg : Gl X x) (hm : X.mg x = none) (hv : bootBuiltins x = some u) (h : Q u s)
    (hn : x ≠ "__name__" := by decide) (hd : (x == ("__debug__" : Str)) = false := by decide) : wpAny (model X.prog X.w) X.A (eval (.Name x pos) X.env) Q E s := by
  obtain ⟨mb, h1, h2⟩ := I.mod.blt
  exact Calls.Name_function_global I.ok.kind hg (Calls.loadGlobal_builtin (by rw [I.ok.glob]; exact I.mod.glob.keeps I.bk) hm (by rw [I.ok.blt]; exact h1.keeps I.bk) ((h2 x hn).trans hv) h) hd
theorem pe_glob {x : Str} {v : V} {u : Value} {pos : Pos} (hg : Gl X x) (hm : X.mg x = some u) (r : RelV v u) (hd : (x == ("__debug__" : Str)) = false := by decide) : PE X (.Name x pos) (tC v) :=
  fun _ _ _ H _ I h => ld_glob I hg hm ⟨v, H, I, r, h⟩ hd
theorem pe_bltn {x : Str} {v : V} {u : Value} {pos : Pos} (hg : Gl X x) (hm : X.mg x = none) (hv : bootBuiltins x = some u) (r : RelV v u) (hn : x ≠ "__name__" := by decide) (hd : (x == ("__debug__" : Str)) = false := by decide) : PE X (.Name x pos) (tC v) :=
  fun _ _ _ H _ I h => ld_blt I hg hm hv ⟨v, H, I, r, h⟩ hn hd
variable {a b : Expr} {ta tb : TE} {pos : Pos}
def PC (X : Cx) (op : CmpOp) (a b : Expr) (t : TE) : Prop :=
  ∀ (pins : List (Addr × Obj)) (s : Shared) (σ : St) (H : Hp) (Q : VK), Inv X pins σ H s → t σ H Q →
    wpAny (model X.prog X.w) X.A (eval a X.env) (fun v s₁ => wpAny (model X.prog X.w) X.A (eval b X.env) (fun u s₂ => wpAny (model X.prog X.w) X.A (compareOp op v u) (EP X pins σ Q) X.xe s₂) X.xe s₁) X.xe s
def tB (t : TE) : TT := fun σ H Q => t σ H fun x H1 => ∃ c, x = .bl c ∧ Q c H1
theorem pe_cmp {op : CmpOp} {t : TE} (h : PC X op a b t) (h1 : behindInMarks op b = false := by first | exact nobehind _ (by decide) (by decide) | rfl) : PE X (.Compare a [op] [b] pos) t := fun pins s σ H Q I hw => wpAny_Compare1 (h pins s σ H Q I hw) h1
theorem pt_cmp {op : CmpOp} {t : TE} (h : PC X op a b t) (h1 : behindInMarks op b = false := by first | exact nobehind _ (by decide) (by decide) | rfl) : PT X (.Compare a [op] [b] pos) (tB t) := by
  intro pins s σ H Q I hw
  refine wpAny_isTrue_Compare1 (thn (h pins s σ H _ I hw) fun v s1 h1 => thn h1 fun u s2 h2 => thn h2 fun c s3 ⟨x, H1, I1, r1, q1⟩ => ?_) h1
  obtain ⟨d, rfl, q⟩ := q1
  cases r1
  exact wpAny_truthy_bool ⟨H1, I1, q⟩
theorem pt_val {e : Expr} {t : TE} (h : PE X e t) (he : ∀ whole, isTrue e X.env whole = (do let v ← whole; standAt e.pos; holding [v] (truthy v)) := by intro _; rfl) : PT X e (tB t) := by
  intro pins s σ H Q I hw
  refine isTrue_plain (thn (h pins s σ H _ I hw) fun v s1 ⟨x, H1, I1, r1, q1⟩ => ?_) (he _)
  obtain ⟨d, rfl, q⟩ := q1
  cases r1
  exact wpAny_truthy_bool ⟨H1, I1, q⟩
variable {tA tB' : TT} {rest : List Expr}
def tAnd (t u : TT) : TT := fun σ H Q => t σ H fun c H1 => if c = true then u σ H1 Q else Q false H1
def tOr (t u : TT) : TT := fun σ H Q => t σ H fun c H1 => if c = true then Q true H1 else u σ H1 Q
def tNot (t : TT) : TT := fun σ H Q => t σ H fun c H1 => Q (!c) H1
theorem pw_and1 (ha : PT X a tA) : PW X (.BoolOp .And [a] pos) tA := by
  intro wh pins s σ H Q I h
  refine isTrue_and (thn (ha pins s σ H Q I h) fun c s1 e => ?_)
  cases c with
  | true => exact isTrue_and_nil e
  | false => exact e
theorem pw_or1 (ha : PT X a tA) : PW X (.BoolOp .Or [a] pos) tA := by
  intro wh pins s σ H Q I h
  refine isTrue_or (thn (ha pins s σ H Q I h) fun c s1 e => ?_)
  cases c with
  | false => exact isTrue_or_nil e
  | true => exact e
theorem pw_and (ha : PT X a tA) (hb : PW X (.BoolOp .And (b :: rest) pos) tB') : PW X (.BoolOp .And (a :: b :: rest) pos) (tAnd tA tB') := by
  intro wh pins s σ H Q I h
  refine isTrue_and (thn (ha pins s σ H _ I h) fun c s1 ⟨H1, I1, q1⟩ => ?_)
  cases c with
  | true => exact hb wh pins s1 σ H1 Q I1 q1
  | false => exact ⟨H1, I1, q1⟩
theorem pw_or (ha : PT X a tA) (hb : PW X (.BoolOp .Or (b :: rest) pos) tB') : PW X (.BoolOp .Or (a :: b :: rest) pos) (tOr tA tB') := by
  intro wh pins s σ H Q I h
  refine isTrue_or (thn (ha pins s σ H _ I h) fun c s1 ⟨H1, I1, q1⟩ => ?_)
  cases c with
  | true => exact ⟨H1, I1, q1⟩
  | false => exact hb wh pins s1 σ H1 Q I1 q1
theorem pt_not (ha : PT X a tA) : PT X (.UnaryOp .Not a pos) (tNot tA) := by
  intro pins s σ H Q I h
  exact isTrue_not (ha pins s σ H (fun c H1 => Q (!c) H1) I h)
def tAndV (ta tb : TE) : TE := fun σ H Q => ta σ H fun x H1 => ∃ c, x = .bl c ∧ if c = true then tb σ H1 Q else Q (.bl false) H1
def tOrV (ta tb : TE) : TE := fun σ H Q => ta σ H fun x H1 => ∃ c, x = .bl c ∧ if c = true then Q (.bl true) H1 else tb σ H1 Q
def tNotV (ta : TE) : TE := fun σ H Q => ta σ H fun x H1 => ∃ c, x = .bl c ∧ Q (.bl (!c)) H1
theorem pe_one {op} {t : TE} (h : PE X a t) : PE X (.BoolOp op [a] pos) t := fun pins s σ H Q I hw => BoolOp_one (h pins s σ H Q I hw)
theorem pe_and (ha : PE X a ta) (hb : PE X (.BoolOp .And (b :: rest) pos) tb) : PE X (.BoolOp .And (a :: b :: rest) pos) (tAndV ta tb) := by
  intro pins s σ H Q I h
  refine BoolOp_and (thn (ha pins s σ H _ I h) fun v s1 ⟨x, H1, I1, r1, q1⟩ => ?_)
  obtain ⟨c, rfl, q1⟩ := q1
  cases r1
  refine wpAny_truthy_bool ?_
  cases c with
  | true => exact hb pins s1 σ H1 Q I1 q1
  | false => exact ⟨.bl false, H1, I1, rfl, q1⟩
theorem pe_or (ha : PE X a ta) (hb : PE X (.BoolOp .Or (b :: rest) pos) tb) : PE X (.BoolOp .Or (a :: b :: rest) pos) (tOrV ta tb) := by
  intro pins s σ H Q I h
  refine BoolOp_or (thn (ha pins s σ H _ I h) fun v s1 ⟨x, H1, I1, r1, q1⟩ => ?_)
  obtain ⟨c, rfl, q1⟩ := q1
  cases r1
  refine wpAny_truthy_bool ?_
  cases c with
  | false => exact hb pins s1 σ H1 Q I1 q1
  | true => exact ⟨.bl true, H1, I1, rfl, q1⟩
theorem pe_not (ha : PE X a ta) : PE X (.UnaryOp .Not a pos) (tNotV ta) := by
  intro pins s σ H Q I h
  refine UnaryOp_ (thn (ha pins s σ H _ I h) fun v s1 ⟨x, H1, I1, r1, q1⟩ => ?_)
  obtain ⟨c, rfl, q1⟩ := q1
  cases r1
  exact not_of (wpAny_truthy_bool ⟨.bl (!c), H1, I1, rfl, q1⟩)
def tIf (t : TT) (ta tb : TE) : TE := fun σ H Q => t σ H fun c H1 => if c = true then ta σ H1 Q else tb σ H1 Q
theorem pe_ifExp {c : Expr} (hc : PT X c tA) (ha : PE X a ta) (hb : PE X b tb) : PE X (.IfExp c a b pos) (tIf tA ta tb) := by
  intro pins s σ H Q I h
  refine wpAny_IfExp (thn (hc pins s σ H _ I h) fun d s1 ⟨H1, I1, q1⟩ => ?_)
  cases d with
  | true => exact ha pins s1 σ H1 Q I1 q1
  | false => exact hb pins s1 σ H1 Q I1 q1
end
end L2
namespace L2
open PySem PySem.Spec PyProof.Rows
def SqL (K : PySem.W.Frag) (H : Hp) (a : Addr) (xs : List V) : Prop :=
  Rd H a (.lst xs) ∨
    ∃ (o : Obj) (its : Array Value) (n : Nat), K.lookup a = some o ∧ o.cls = .type "list" ∧ o.dict = none ∧ o.data = .seq its n ∧ its.size ≤ sizeLine ∧ Vals xs its.toList
def SqT (K : PySem.W.Frag) (H : Hp) (a : Addr) (xs : List V) : Prop :=
  Rd H a (.tup xs) ∨
    ∃ (o : Obj) (its : Array Value) (n : Nat), K.lookup a = some o ∧ o.cls = .type "tuple" ∧ o.data = .seq its n ∧ its.size ≤ sizeLine ∧ Vals xs its.toList
def absV : Value → Option V
  | .none => some .non
  | .bool b => some (.bl b)
  | .int i _ => some (.int i)
  | .str x _ => some (.str x)
  | .bytes b _ => some (.byt b)
  | .float b _ => some (.flt b)
  | .ref a => some (.ref a)
  | .type n => some (.ty n)
  | _ => none
theorem RelV.abs {x : V} {u : Value} (r : RelV x u) : absV u = some x := by
  cases x with
  | non => cases r; rfl
  | bl _ => cases r; rfl
  | int _ => obtain ⟨t, rfl⟩ := r; rfl
  | str _ => obtain ⟨t, rfl⟩ := r; rfl
  | byt _ => obtain ⟨t, rfl⟩ := r; rfl
  | flt _ => obtain ⟨t, rfl⟩ := r; rfl
  | ref _ => cases r; rfl
  | ty _ => cases r; rfl
theorem RelV.inj {x y : V} {u : Value} (r : RelV x u) (q : RelV y u) : x = y := Option.some.inj (r.abs.symm.trans q.abs)
theorem Vals.inj : ∀ {xs ys : List V} {us : List Value}, Vals xs us → Vals ys us → xs = ys
  | _, _, _, .nil, .nil => rfl
  | _, _, _, .cons r t, .cons r' t' => by rw [r.inj r', Vals.inj t t']
section
variable {X : Cx} {pins : List (Addr × Obj)} {σ : St} {H : Hp} {s : Shared} {a : Addr} {xs ys : List V}
theorem SqL.of {K : PySem.W.Frag} (h : H a = some (.lst xs)) : SqL K H a xs := .inl (.inl h)
theorem SqT.of {K : PySem.W.Frag} (h : H a = some (.tup xs)) : SqT K H a xs := .inl (.inl h)
theorem Inv.list (I : Inv X pins σ H s) (h : SqL X.K H a xs) : ∃ its : List Value, Vals xs its ∧ PlainL s.heap a its.toArray ∧ xs.length ≤ sizeLine := by
  rcases h with h | ⟨o, its, n, hk, hc, hd, hs, hz, r⟩
  · obtain ⟨z, its, n, r, e⟩ := h.ok I.hok
    exact ⟨its, r, ⟨_, n, e, rfl, rfl, rfl⟩, z⟩
  · refine ⟨its.toList, r, ⟨o, n, I.kIn a o hk, hc, hd, by simpa using hs⟩, ?_⟩
    have e := r.length
    simp only [Array.length_toList] at e
    omega
theorem Inv.tuple (I : Inv X pins σ H s) (h : SqT X.K H a xs) : ∃ its : List Value, Vals xs its ∧ IsTup s.heap a its.toArray ∧ xs.length ≤ sizeLine := by
  rcases h with h | ⟨o, its, n, hk, hc, hs, hz, r⟩
  · obtain ⟨z, its, r, p⟩ := h.ok I.hok
    exact ⟨its, r, p, z⟩
  · refine ⟨its.toList, r, ⟨o, I.kIn a o hk, hc, n, by simpa using hs⟩, ?_⟩
    have e := r.length
    simp only [Array.length_toList] at e
    omega
theorem Inv.list_inj (I : Inv X pins σ H s) (h : SqL X.K H a xs) (h' : SqL X.K H a ys) : xs = ys := by
  obtain ⟨its, r, ⟨o, n, e, _, _, d⟩, _⟩ := I.list h
  obtain ⟨its', r', ⟨o', n', e', _, _, d'⟩, _⟩ := I.list h'
  rw [e] at e'; cases e'
  rw [d] at d'
  injection d' with d1 _
  have : its = its' := by simpa using congrArg Array.toList d1
  subst this
  exact r.inj r'
end
abbrev Cx.wish (X : Cx) (E : Value → Shared → Prop) : Cx := { X with xe := E }
abbrev Cx.nox (X : Cx) : Cx := X.wish fun _ _ => False
theorem Cx.Ok.wish {X : Cx} (ok : X.Ok) (E : Value → Shared → Prop) : (X.wish E).Ok :=
  ⟨ok.mod, ok.kind, ok.glob, ok.blt, ok.above, ok.inj, ok.has, ok.cab, ok.hd, ok.frames, ok.stk, ok.exf, ok.bs, ok.bsz, ok.noex, ok.exfs, ok.funs, ok.frf⟩
theorem Cx.Ok.unwish {X : Cx} {E : Value → Shared → Prop} (ok : (X.wish E).Ok) : X.Ok :=
  ⟨ok.mod, ok.kind, ok.glob, ok.blt, ok.above, ok.inj, ok.has, ok.cab, ok.hd, ok.frames, ok.stk, ok.exf, ok.bs, ok.bsz, ok.noex, ok.exfs, ok.funs, ok.frf⟩
section
variable {X : Cx} {pins : List (Addr × Obj)} {σ : St} {H : Hp} {s : Shared} {E : Value → Shared → Prop}
theorem Inv.wish (I : Inv X pins σ H s) (E : Value → Shared → Prop) : Inv (X.wish E) pins σ H s := ⟨I.ok.wish E, I.os, I.bare, I.base, I.loc, I.cell, I.free, I.freeC, I.pin, I.hok, I.len⟩
theorem Inv.unwish (I : Inv (X.wish E) pins σ H s) : Inv X pins σ H s := ⟨I.ok.unwish, I.os, I.bare, I.base, I.loc, I.cell, I.free, I.freeC, I.pin, I.hok, I.len⟩
theorem SP.unwish {D : Ends} {f : Flow} {s' : Shared} (h : SP (X.wish E) pins D f s') : SP X pins D f s' := by
  cases f with
  | next => obtain ⟨σ', H', I, q⟩ := h; exact ⟨σ', H', I.unwish, q⟩
  | brk => obtain ⟨σ', H', I, q⟩ := h; exact ⟨σ', H', I.unwish, q⟩
  | cont => obtain ⟨σ', H', I, q⟩ := h; exact ⟨σ', H', I.unwish, q⟩
  | ret u => obtain ⟨v, σ', H', I, r, q⟩ := h; exact ⟨v, σ', H', I.unwish, r, q⟩
theorem PSs.nox {st : List Stmt} {t : TS} (h : PSs X.nox st t) : PSs X st t := fun pins s σ H D I hw =>
  wpAny_mono (h pins s σ H D (I.wish _) hw) (fun _ _ q => q.unwish) fun _ _ z => False.elim z
end
section
variable {X : Cx} {st : Stmt} {rest : List Stmt} {t u : TS} {e : Expr} {te : TE} {pos : Pos}
def tNext : TS := fun D σ H => D.nx σ H
def tSeq (t u : TS) : TS := fun D σ H => t { D with nx := u D } σ H
theorem pss_nil : PSs X [] tNext := fun _ _ σ H _ I h => wpAny_execs_nil ⟨σ, H, I, h⟩
theorem pss_cons (h1 : PS X st t) (h2 : PSs X rest u) : PSs X (st :: rest) (tSeq t u) := by
  intro pins s σ H D I h
  refine wpAny_execs_cons (thn (h1 pins s σ H { D with nx := u D } I h) fun f s1 q => ?_)
  cases f with
  | next =>
    obtain ⟨σ', H', I', q⟩ := q
    exact h2 pins s1 σ' H' D I' q
  | ret v => exact q
  | brk => exact q
  | cont => exact q
theorem pss_one (h1 : PS X st t) : PSs X [st] t := by
  intro pins s σ H D I h
  refine wpAny_execs_cons (thn (h1 pins s σ H D I h) fun f s1 q => ?_)
  cases f with
  | next => exact wpAny_execs_nil q
  | ret v => exact q
  | brk => exact q
  | cont => exact q
theorem Inv.quiet {pins : List (Addr × Obj)} {σ : St} {H : Hp} {s : Shared} (I : Inv X pins σ H s) : interactive X.env = false := by simp [interactive, I.ok.kind]
def tDrop (te : TE) : TS := fun D σ H => te σ H fun _ H1 => D.nx σ H1
theorem ps_expr (he : PE X e te) (hs : swapsWith e none pos.line X.env = pure false := by rfl) : PS X (.Expr e pos) (tDrop te) := by
  intro pins s σ H D I h
  exact wpAny_Expr_any (thn (he pins s σ H _ I h) fun v s1 ⟨x, H1, I1, r1, q1⟩ => ⟨σ, H1, I1, q1⟩) I.quiet hs
def tRet (te : TE) : TS := fun D σ H => te σ H D.rt
theorem ps_ret (he : PE X e te) : PS X (.Return (some e) pos) (tRet te) := by
  intro pins s σ H D I h
  exact wpAny_Return_some (thn (he pins s σ H _ I h) fun v s1 ⟨x, H1, I1, r1, q1⟩ => ⟨x, σ, H1, I1, r1, q1⟩)
def tIfS (c : TT) (t u : TS) : TS := fun D σ H => c σ H fun b H1 => if b = true then t D σ H1 else u D σ H1
theorem ps_if {c : Expr} {a b : List Stmt} {tc : TT} (hc : PT X c tc) (ha : PSs X a t) (hb : PSs X b u) : PS X (.If c a b pos) (tIfS tc t u) := by
  intro pins s σ H D I h
  refine wpAny_If (thn (hc pins s σ H _ I h) fun d s1 ⟨H1, I1, q1⟩ => ?_)
  cases d with
  | true => exact ha pins s1 σ H1 D I1 q1
  | false => exact hb pins s1 σ H1 D I1 q1
def tNever : TS := fun _ _ _ => False
theorem ps_never : PS X st tNever := fun _ _ _ _ _ _ h => h.elim
end
abbrev TG := V → St → Hp → (St → Hp → Prop) → Prop
abbrev TGs := List V → St → Hp → (St → Hp → Prop) → Prop
def PG (X : Cx) (target : Expr) (t : TG) : Prop :=
  ∀ (pins : List (Addr × Obj)) (s : Shared) (σ : St) (H : Hp) (v : V) (u : Value) (Q : St → Hp → Prop), Inv X pins σ H s → RelV v u → t v σ H Q →
    wpAny (model X.prog X.w) X.A (assign target X.env u) (fun _ s' => ∃ σ' H', Inv X pins σ' H' s' ∧ Q σ' H') X.xe s
def PGs (X : Cx) (ts : List Expr) (t : TGs) : Prop :=
  ∀ (pins : List (Addr × Obj)) (s : Shared) (σ : St) (H : Hp) (vs : List V) (us : List Value) (Q : St → Hp → Prop), Inv X pins σ H s → Vals vs us → t vs σ H Q →
    wpAny (model X.prog X.w) X.A (assignInOrder ((assignEach ts X.env).map (·.2)) us) (fun _ s' => ∃ σ' H', Inv X pins σ' H' s' ∧ Q σ' H') X.xe s
abbrev TSet := V → V → V → Hp → (Hp → Prop) → Prop
def PSet (X : Cx) (t : TSet) : Prop :=
  ∀ (pins : List (Addr × Obj)) (s : Shared) (σ : St) (H : Hp) (o i v : V) (ov iv u : Value) (Q : Hp → Prop), Inv X pins σ H s → RelV o ov → RelV i iv → RelV v u → t o i v H Q →
    wpAny (model X.prog X.w) X.A (setItem ov iv u) (fun _ s' => ∃ H', Inv X pins σ H' s' ∧ Q H') X.xe s
section
variable {X : Cx} {pos : Pos}
def gName (i : Nat) : TG := fun v σ H Q => Q (σ.set i (some v)) H
theorem pg_name {i : Nat} {x : Str} (hN : X.N.Nodup) (hi : X.N[i]? = some x) (hx : Loc X.env.scope x) (hf : X.fn x = true ∨ X.env.scope.names.lookup x = some .local := by first | exact .inl rfl | exact .inr rfl | assumption) : PG X (.Name x pos) (gName i) := by
  intro pins s σ H v u Q I r h
  exact wpAny_assign_Name (store_ok I hN hi hx r (fun s' I' => ⟨_, H, I', h⟩) hf)
def gNil : TGs := fun vs σ H Q => vs = [] ∧ Q σ H
def gCons (t : TG) (u : TGs) : TGs := fun vs σ H Q => ∃ v r, vs = v :: r ∧ t v σ H fun σ' H' => u r σ' H' Q
theorem pgs_nil : PGs X [] gNil := by
  intro pins s σ H vs us Q I r h
  obtain ⟨e, h⟩ := h
  subst e
  cases r
  exact assignInOrder_nil ⟨σ, H, I, h⟩
theorem pgs_cons {e : Expr} {es : List Expr} {t : TG} {u : TGs} (h1 : PG X e t) (h2 : PGs X es u)
    (hs : (assignEach (e :: es) X.env).map (·.2) = assign e X.env :: (assignEach es X.env).map (·.2) := by rfl) : PGs X (e :: es) (gCons t u) := by
  intro pins s σ H vs us Q I r h
  obtain ⟨v, vr, e1, h⟩ := h
  subst e1
  cases r with
  | cons r rr =>
    rw [hs]
    refine assignInOrder_cons (thn (h1 pins s σ H _ _ _ I r h) fun _ s1 ⟨σ1, H1, I1, q1⟩ => ?_)
    exact h2 pins s1 σ1 H1 _ _ Q I1 rr q1
def gTup (K : PySem.W.Frag) (n : Nat) (t : TGs) : TG := fun v σ H Q => ∃ a xs, v = .ref a ∧ SqT K H a xs ∧ xs.length = n ∧ t xs σ H Q
theorem pg_tup {es : List Expr} {k : Nat} {t : TGs} {n : Nat} (hc : X.calm = true) (h : PGs X es t)
    (hn : (assignEach es X.env).length = n := by rfl) (hst : (assignEach es X.env).findIdx? (·.1) = none := by rfl) : PG X (.Tuple es k pos) (gTup X.K n t) := by
  intro pins s σ H v u Q I r hw
  obtain ⟨a, xs, e1, hq, hl, hw⟩ := hw
  subst e1
  cases r
  obtain ⟨its, rv, ht, hz⟩ := I.tuple hq
  refine assign_Tuple_tuple (I.ok.hd hc) ht (by simp [hn, ← hl, rv.length]) hst fun h' hx => ?_
  have I1 : Inv X pins σ H { s with heap := h' } := I.kept (t' := s.toks) fun b o e => hx b o (Nat.ne_of_lt (Heap.lt_size e)) e
  exact h pins _ σ H xs _ Q I1 (by simpa using rv) hw
def gSub (to ti : TE) (t : TSet) : TG := fun v σ H Q => to σ H fun o H1 => ti σ H1 fun i H2 => t o i v H2 fun H3 => Q σ H3
theorem pg_sub {o i : Expr} {to ti : TE} {t : TSet} (ho : PE X o to) (hi : PE X i ti) (hs : PSet X t)
    (ha : ∀ v, assign (.Subscript o i pos) X.env v = (do
      let ov ← holding [v] (eval o X.env)
      let iv ← holding [v, ov] (eval i X.env)
      standAt pos
      holding [v, ov, iv] (setItem ov iv v)
      release [v, ov, iv] []) := by intro _; rfl) : PG X (.Subscript o i pos) (gSub to ti t) := by
  intro pins s σ H v u Q I r h
  rw [ha]
  refine wpAny_bind (wpAny_holding (thn (ho pins s σ H _ I h) fun ov s1 ⟨x, H1, I1, r1, q1⟩ => ?_))
  refine wpAny_bind (wpAny_holding (thn (hi pins s1 σ H1 _ I1 q1) fun iv s2 ⟨y, H2, I2, r2, q2⟩ => ?_))
  refine wpAny_bind (wpAny_standAt (wpAny_bind (wpAny_holding (thn (hs pins s2 σ H2 x y v ov iv u _ I2 r1 r2 r q2) fun _ s3 ⟨H3, I3, q3⟩ => ?_))))
  exact wpAny_release ⟨σ, H3, I3, q3⟩
def tAsg (te : TE) (g : TG) : TS := fun D σ H => te σ H fun x H1 => g x σ H1 D.nx
theorem ps_asg {tg e : Expr} {te : TE} {g : TG} (he : PE X e te) (hg : PG X tg g) (hs : swapsWithSole [tg] e pos.line X.env = pure false := by rfl) (hw : swappedStores [tg] e X.env = pure none := by rfl)
    (h1 : (assignEach [tg] X.env).map (·.2) = [assign tg X.env] := by rfl) : PS X (.Assign [tg] e pos) (tAsg te g) := by
  intro pins s σ H D I h
  refine wpAny_Assign_stores (thn (he pins s σ H _ I h) fun v s1 ⟨x, H1, I1, r1, q1⟩ => ?_) hs hw
  rw [h1]
  exact thn (hg pins s1 σ H1 x v _ I1 r1 q1) fun _ s2 q => q
theorem ps_set {i : Nat} {x : Str} {e : Expr} {te : TE} {pos' : Pos} (hN : X.N.Nodup) (hi : X.N[i]? = some x) (hx : Loc X.env.scope x) (he : PE X e te) (hs : swapsWith e (some (.Name x pos')) pos.line X.env = pure false := by rfl) (hf : X.fn x = true ∨ X.env.scope.names.lookup x = some .local := by first | exact .inl rfl | exact .inr rfl | assumption) :
    PS X (.Assign [.Name x pos'] e pos) (tAsg te (gName i)) := by
  intro pins s σ H D I h
  refine wpAny_Assign_Name (thn (he pins s σ H _ I h) fun v s1 ⟨y, H1, I1, r1, q1⟩ => ?_) hs
  exact store_ok I1 hN hi hx r1 (fun s2 I2 => ⟨_, H1, I2, q1⟩) hf
end
section
variable {X : Cx} {pos : Pos}
end
structure It where
  go : Nat → Hp → Prop
  yld : Nat → Hp → V → Hp → Prop
  stop : Nat → Hp → Prop
def FpOk (X : Cx) (pins : List (Addr × Obj)) (H : Hp) (b : Addr) : Prop :=
  H b = none ∧ b ≠ X.env.locals ∧ b ∉ X.fs ∧ (b ∈ X.ex ∨ X.s₀.heap.objs.size ≤ b) ∧ (∀ x c, X.env.cells.lookup x = some c → c ≠ b) ∧ ∀ p ∈ X.pn ++ pins, p.1 ≠ b
theorem Inv.fpOk {X : Cx} {pins : List (Addr × Obj)} {σ : St} {H H' : Hp} {s : Shared} {b : Addr} (I : Inv X pins σ H s) (hb : s.heap.objs.size ≤ b) (hn : H' b = none) : FpOk X pins H' b := by
  refine ⟨hn, Nat.ne_of_gt (Nat.lt_of_lt_of_le I.lt hb), I.nofs hb, .inr (Nat.le_trans I.sz hb), fun x c e z => ?_, fun p hp z => ?_⟩
  · obtain ⟨v, q⟩ := I.cell x c e
    exact absurd (Nat.lt_of_lt_of_le q.lt (by rw [z]; exact hb)) (Nat.lt_irrefl _)
  · exact absurd (Nat.lt_of_lt_of_le (Heap.lt_size (I.pin p hp).1) (by rw [z]; exact hb)) (Nat.lt_irrefl _)
structure Turn (P : Program) (w : World) (K : PySem.W.Frag) (tg : Expr) (J : It) (fp : List Addr) (it : Addr) (tn : Nat → Heap → Prop) : Prop where
  mem : it ∈ fp
  obj : ∀ i h, tn i h → ∀ b ∈ fp, ∃ o, h.get? b = some o ∧ ∀ v, o.data ≠ .cell v
  keep : ∀ i h h', tn i h → (∀ b ∈ fp, ∀ o, h.get? b = some o → h'.get? b = some o) → tn i h'
  item : ∀ (X : Cx), X.prog = P → X.w = w → X.K = K → X.calm = true → ∀ (i : Nat) (pins : List (Addr × Obj)) (s : Shared) (σ : St) (H : Hp) (E : Value → Shared → Prop), Inv X pins σ H s → (∀ b ∈ fp, FpOk X pins H b) → tn i s.heap → J.go i H →
    wpAny (model P w) X.A (pyNext (.ref it)) (fun r s1 => ∃ u, r = some u ∧
      wpAny (model P w) X.A (letOwnedTupleGo tg (.ref it) u) (fun _ s2 => ∃ x H', Inv X pins σ H' s2 ∧ RelV x u ∧ J.yld i H x H' ∧ tn (i + 1) s2.heap ∧ ∀ b ∈ fp, H' b = none) E s1) E s
  done : ∀ (X : Cx), X.prog = P → X.w = w → X.K = K → X.calm = true → ∀ (i : Nat) (pins : List (Addr × Obj)) (s : Shared) (σ : St) (H : Hp) (E : Value → Shared → Prop), Inv X pins σ H s → (∀ b ∈ fp, FpOk X pins H b) → tn i s.heap → J.stop i H →
    wpAny (model P w) X.A (pyNext (.ref it)) (fun r s1 => r = none ∧ Inv X pins σ H s1) E s
  self : ∀ (A : Around) (i : Nat) (s : Shared) (Q : Value → Shared → Prop) (E : Value → Shared → Prop), tn i s.heap → Q (.ref it) s → wpAny (model P w) A (pyIter (.ref it)) Q E s
abbrev TI := St → Hp → (It → Hp → Prop) → Prop
def PIE (X : Cx) (pins : List (Addr × Obj)) (σ : St) (tg : Expr) (R : It → Hp → Prop) (itv : Value) (s2 : Shared) : Prop :=
  ∃ (it : Addr) (fp : List Addr) (tn : Nat → Heap → Prop) (J : It) (H' : Hp), itv = .ref it ∧ Inv X pins σ H' s2 ∧ Turn X.prog X.w X.K tg J fp it tn ∧ tn 0 s2.heap ∧ (∀ b ∈ fp, FpOk X pins H' b) ∧ R J H'
def PI (X : Cx) (tg iter : Expr) (wi : TI) : Prop :=
  ∀ (pins : List (Addr × Obj)) (s : Shared) (σ : St) (H : Hp) (R : It → Hp → Prop), Inv X pins σ H s → wi σ H R →
    wpAny (model X.prog X.w) X.A (eval iter X.env) (fun v s1 => wpAny (model X.prog X.w) X.A (pyIter v) (PIE X pins σ tg R) X.xe s1) X.xe s
theorem go_of {M : Model} {A : Around} {E : Value → Shared → Prop} {s : Shared} {tg : Expr} {it : Addr} {u : Value} {o : Obj} {n : String} {vs : Array Value} {Q : Unit → Shared → Prop} (ho : s.heap.get? it = some o) (hc : o.cls = .type n) (hd : o.data = .fields vs)
    (hn : ["enumerate", "zip", "dict_itemiterator", "dict_reverseitemiterator", "odict_iterator", "itertools.zip_longest", "itertools.pairwise"].contains n = false) (hQ : Q () s) : wpAny M A (letOwnedTupleGo tg (.ref it) u) Q E s := by
  unfold letOwnedTupleGo
  cases tg <;> first
    | exact wpAny_pure hQ
    | (cases u <;> first
        | exact wpAny_pure hQ
        | (refine wpAny_bind (wpAny_load ho ?_)
           rw [hc, hd]
           show wpAny M A (if (["enumerate", "zip", "dict_itemiterator", "dict_reverseitemiterator", "odict_iterator", "itertools.zip_longest", "itertools.pairwise"].contains n && vs[0]? == some (rawInt _)) = true then _ else _) Q E s
           rw [if_neg (by intro h; rw [hn, Bool.false_and] at h; cases h)]
           exact wpAny_pure hQ))
def Itl (K : PySem.W.Frag) (a : Addr) : It :=
  ⟨fun i H => ∃ xs x, SqL K H a xs ∧ xs[i]? = some x, fun i H x H' => H' = H ∧ ∀ xs, SqL K H a xs → xs[i]? = some x, fun i H => ∃ xs, SqL K H a xs ∧ xs.length ≤ i⟩
def Itt (K : PySem.W.Frag) (a : Addr) : It :=
  ⟨fun i H => ∃ xs x, SqT K H a xs ∧ xs[i]? = some x, fun i H x H' => H' = H ∧ ∀ xs, SqT K H a xs → xs[i]? = some x, fun i H => ∃ xs, SqT K H a xs ∧ xs.length ≤ i⟩
def Itr (lo : Int) (n : Nat) : It := ⟨fun i _ => i < n, fun i H x H' => H' = H ∧ x = .int (lo + i), fun i _ => n ≤ i⟩
theorem turn_list {P : Program} {w : World} {K : PySem.W.Frag} {tg : Expr} (a it : Addr) : Turn P w K tg (Itl K a) [it] it (fun i h => h.IsListIter it a i) where
  mem := by simp
  obj := fun i h st b hb => by
    have e : b = it := by simpa using hb
    subst e
    obtain ⟨o, e, c, d⟩ := st
    exact ⟨o, e, fun v z => by rw [d] at z; cases z⟩
  keep := fun i h h' st k => st.at fun o e => k it (by simp) o e
  item := by
    intro X hP hw hK hc i pins s σ H E I hf st hg
    subst hP hw hK
    obtain ⟨xs, x, hq, hx⟩ := hg
    obtain ⟨its, rv, p, hz⟩ := I.list hq
    obtain ⟨u, hu, ru⟩ := rv.get hx
    obtain ⟨f0, f1, f2, f3, f4, f5⟩ := hf it (by simp)
    refine wpAny_pyNext_list_item st p.isList (x := u) (by simpa using hu) fun h' st' sb => ?_
    have I1 : Inv X pins σ H { s with heap := h' } := I.turned (t' := s.toks) (fun b o hb e => (sb.2 b hb).trans e) f0 f1 f3 f4 f5
    obtain ⟨o, e, c, d⟩ := id st'
    exact ⟨u, rfl, go_of (s := { s with heap := h' }) e c d (by decide) ⟨x, H, I1, ru, ⟨rfl, fun ys hy => by rw [I.list_inj hy hq]; exact hx⟩, st', fun b hb => (hf b hb).1⟩⟩
  done := by
    intro X hP hw hK hc i pins s σ H E I hf st hg
    subst hP hw hK
    obtain ⟨xs, hq, hx⟩ := hg
    obtain ⟨its, rv, p, hz⟩ := I.list hq
    obtain ⟨f0, f1, f2, f3, f4, f5⟩ := hf it (by simp)
    have hl := rv.length
    exact wpAny_pyNext_list_end (I.ok.hd hc) st p.isList (by simp; omega) fun h' eb => ⟨rfl, I.turned (t' := s.toks) (fun b o hb e => eb b o hb e) f0 f1 f3 f4 f5⟩
  self := fun _ _ _ _ _ st h => wpAny_pyIter_listiter st h
theorem turn_range {P : Program} {w : World} {K : PySem.W.Frag} {tg : Expr} (it : Addr) (lo : Int) (n : Nat) : Turn P w K tg (Itr lo n) [it] it (fun i h => IsRangeIter h it (lo + (i : Nat) * 1) ((n : Int) - (i : Nat)) 1) where
  mem := by simp
  obj := fun i h st b hb => by
    have e : b = it := by simpa using hb
    subst e
    exact ⟨_, st, fun v z => by
      have z' : Data.fields _ = Data.cell v := z
      cases z'⟩
  keep := fun i h h' st k => k it (by simp) _ st
  item := by
    intro X hP hw hK hc i pins s σ H E I hf st hg
    subst hP hw hK
    obtain ⟨f0, f1, f2, f3, f4, f5⟩ := hf it (by simp)
    have W := Walks.range (prog := X.prog) (w := X.w) (I.ok.hd hc) it lo 1 n
    refine W.item i s _ _ hg st fun v h' tk hv st' kk => ?_
    obtain ⟨t, rfl⟩ := hv
    have I1 : Inv X pins σ H { s with heap := h', toks := tk } := I.turned (fun b o hb e => kk b o (by simpa using hb) e) f0 f1 f3 f4 f5
    refine ⟨_, rfl, go_of (s := { s with heap := h', toks := tk }) (n := "range_iterator") st' rfl rfl (by decide) ⟨.int (lo + i), H, I1, ⟨t, ?_⟩, ⟨rfl, rfl⟩, st', fun b hb => (hf b hb).1⟩⟩
    rw [Int.mul_one]
  done := by
    intro X hP hw hK hc i pins s σ H E I hf st hg
    subst hP hw hK
    obtain ⟨f0, f1, f2, f3, f4, f5⟩ := hf it (by simp)
    exact wpAny_pyNext_range_end (I.ok.hd hc) st (by have : n ≤ i := hg; omega) fun h' eb => ⟨rfl, I.turned (t' := s.toks) (fun b o hb e => eb b o hb e) f0 f1 f3 f4 f5⟩
  self := fun _ _ _ _ _ st h => wpAny_pyIter_rangeiter st h
end L2
namespace L2
open PySem PySem.Spec PyProof.Rows
section
variable {X : Cx} {tg : Expr}
def iList (K : PySem.W.Frag) (tl : TE) : TI := fun σ H R => tl σ H fun x H1 => ∃ a, x = .ref a ∧ (∃ xs, SqL K H1 a xs) ∧ R (Itl K a) H1
theorem pi_list {l : Expr} {tl : TE} (hl : PE X l tl) : PI X tg l (iList X.K tl) := by
  intro pins s σ H R I h
  refine thn (hl pins s σ H _ I h) fun v s1 ⟨x, H1, I1, r1, q1⟩ => ?_
  obtain ⟨a, e, ⟨xs, hq⟩, q⟩ := q1
  subst e
  cases r1
  obtain ⟨its, rv, p, hz⟩ := I1.list hq
  refine wpAny_pyIter_list p.isList ?_
  refine ⟨s1.heap.objs.size, [s1.heap.objs.size], _, _, H1, rfl, I1.kept (t' := s1.toks) fun b o e => Heap.get?_push_of_some _ e, turn_list a _, ⟨_, Heap.get?_push_size _ rfl, rfl, rfl⟩, fun b hb => ?_, q⟩
  have e : b = s1.heap.objs.size := by simpa using hb
  subst e
  exact I1.fpOk (Nat.le_refl _) (I1.hok.fresh (Nat.le_refl _))
theorem range_it {pins : List (Addr × Obj)} {σ : St} {H : Hp} {s : Shared} {R : It → Hp → Prop} {E : Value → Shared → Prop} {lo hi : Int} {t u v : Tok} {tk : Nat} (I : Inv X pins σ H s) (h1 : -(2 ^ 62) ≤ lo) (h2 : lo < 2 ^ 62) (h3 : -(2 ^ 62) ≤ hi) (h4 : hi < 2 ^ 62)
    (q : R (Itr lo (hi - lo).toNat) H) : wpAny (model X.prog X.w) X.A (pyIter (.ref s.heap.objs.size)) (PIE X pins σ tg R) E { s with heap := s.heap.push { cls := .type "range", data := .fields #[.int lo t, .int hi u, .int 1 v] }, toks := tk } := by
  refine wpAny_pyIter_range (IsRange.new ..) (small_one h1 h2 h3 h4) ?_
  have I1 : Inv X pins σ H { s with heap := s.heap.push { cls := .type "range", data := .fields #[.int lo t, .int hi u, .int 1 v] }, toks := tk } := I.kept fun b o e => Heap.get?_push_of_some _ e
  refine ⟨(s.heap.push { cls := .type "range", data := .fields #[.int lo t, .int hi u, .int 1 v] }).objs.size, [(s.heap.push { cls := .type "range", data := .fields #[.int lo t, .int hi u, .int 1 v] }).objs.size], _, _, H, rfl,
    I1.kept (t' := tk) fun b o e => Heap.get?_push_of_some _ e, turn_range _ lo (hi - lo).toNat, ?_, fun b hb => ?_, q⟩
  · have e1 : lo + ((0 : Nat) : Int) * 1 = lo := by simp
    have e2 : (((hi - lo).toNat : Nat) : Int) - ((0 : Nat) : Int) = Builtin.Range.rangeSize lo hi 1 := by rw [rangeSize_one]; split <;> omega
    show IsRangeIter _ _ (lo + ((0 : Nat) : Int) * 1) ((((hi - lo).toNat : Nat) : Int) - ((0 : Nat) : Int)) 1
    rw [e1, e2]
    exact Heap.get?_push_size _ rfl
  · have e : b = (s.heap.push { cls := .type "range", data := .fields #[.int lo t, .int hi u, .int 1 v] }).objs.size := by simpa using hb
    subst e
    exact I1.fpOk (Nat.le_refl _) (I1.hok.fresh (Nat.le_refl _))
def iRng1 (ta : TA) : TI := fun σ H R => ta σ H fun vs H1 => ∃ j : Int, vs = [.int j] ∧ -(2 ^ 62) ≤ j ∧ j < 2 ^ 62 ∧ R (Itr 0 j.toNat) H1
theorem pi_range1 {a : Expr} {ta : TA} {p pos : Pos} (hg : Gl X "range") (hm : X.mg "range" = none) (ha : PA X [a] ta) (hs : starEach [a] X.env = [(false, eval a X.env)] := by rfl) : PI X tg (.Call (.Name "range" p) [a] [] pos) (iRng1 ta) := by
  intro pins s σ H R I h
  refine Call_ (ld_blt I hg hm boot_range (PyProof.Rows.callWith_type1 (thn (ha pos pins s σ H _ I h) fun us s1 ⟨vs, H1, I1, r1, q1⟩ => ?_) hs rfl))
  obtain ⟨j, e, q1, q2, q⟩ := q1
  subst e
  cases r1 with
  | cons r rr =>
    cases rr
    obtain ⟨t, rfl⟩ := r
    exact call_range_1 (range_it I1 (by omega) (by omega) q1 q2 (by simpa using q))
def tFor (wi : TI) (g : TG) (tb : TS) : TS := fun D σ H => wi σ H fun J H1 => ∃ W : Nat → Nat → St → Hp → Prop, (∃ m, W 0 m σ H1) ∧ ∀ i m σ H, W i m σ H →
  (J.stop i H ∧ D.nx σ H) ∨ (J.go i H ∧ ∃ N : St → Hp → Prop, (∀ σ' H', N σ' H' → ∃ m', m' < m ∧ W (i + 1) m' σ' H') ∧ ∀ x H', J.yld i H x H' → g x σ H' fun σ2 H2 => tb { D with nx := N, ct := N, bk := D.nx } σ2 H2)
def pinsAt (fp : List Addr) (h : Heap) : List (Addr × Obj) := fp.filterMap fun b => (h.get? b).map fun o => (b, o)
theorem mem_pinsAt {fp : List Addr} {h : Heap} {b : Addr} {o : Obj} (hb : b ∈ fp) (e : h.get? b = some o) : (b, o) ∈ pinsAt fp h := List.mem_filterMap.mpr ⟨b, hb, by rw [e]; rfl⟩
theorem of_pinsAt {fp : List Addr} {h : Heap} {p : Addr × Obj} (hp : p ∈ pinsAt fp h) : p.1 ∈ fp ∧ h.get? p.1 = some p.2 := by
  obtain ⟨b, hb, e⟩ := List.mem_filterMap.mp hp
  cases q : h.get? b with
  | none => rw [q] at e; cases e
  | some o =>
    rw [q] at e
    have e' : (b, o) = p := Option.some.inj e
    subst e'
    exact ⟨hb, q⟩
theorem Inv.pinned {pins : List (Addr × Obj)} {σ : St} {H : Hp} {s : Shared} {fp : List Addr} (I : Inv X pins σ H s) (hf : ∀ b ∈ fp, FpOk X pins H b) (ho : ∀ b ∈ fp, ∃ o, s.heap.get? b = some o ∧ ∀ v, o.data ≠ .cell v) : Inv X (pins ++ pinsAt fp s.heap) σ H s :=
  I.pins_of fun p hp => (List.mem_append.mp hp).elim (fun z => I.pin p (List.mem_append_right _ z)) fun z => by
    obtain ⟨hb, e⟩ := of_pinsAt z
    obtain ⟨f0, f1, f2, _⟩ := hf p.1 hb
    obtain ⟨o, e', d⟩ := ho p.1 hb
    rw [e] at e'; cases e'
    exact ⟨e, f0, f1, f2, d⟩
theorem Inv.unpinned {pins pl : List (Addr × Obj)} {σ : St} {H : Hp} {s : Shared} (I : Inv X (pins ++ pl) σ H s) : Inv X pins σ H s := I.pins_of fun p hp => I.pin p (List.mem_append_right _ (List.mem_append_left _ hp))
theorem ps_for {iter : Expr} {body : List Stmt} {wi : TI} {g : TG} {tb : TS} {pos : Pos} (hp : PassesOwn (model X.prog X.w) X.A X.env X.xe) (hc : X.calm = true) (hi : PI X tg iter wi) (hg : PG X tg g) (hb : PSs X body tb)
    (hs : ∀ x, foldedSetIterable iter X.env x = pure x := by intro _; rfl) : PS X (.For tg iter body [] pos) (tFor wi g tb) := by
  intro pins s σ H D I h
  refine wpAny_For (thn (hi pins s σ H _ I h) fun v s1 h1 => thn h1 fun itv s2 h2 => ?_) hs
  obtain ⟨it, fp, tn, J, H2, e, I2, T, st2, f2, W, ⟨m0, w0⟩, turn⟩ := h2
  subst e
  -- what stays true of the iterator's objects through the loop
  have stat : ∀ {H' : Hp}, (∀ b ∈ fp, H' b = none) → ∀ b ∈ fp, FpOk X pins H' b := fun hn b hb => ⟨hn b hb, (f2 b hb).2⟩
  refine codeAny_forLoop_any (fun n s' => ∃ i σ' H', Inv X pins σ' H' s' ∧ tn i s'.heap ∧ (∀ b ∈ fp, H' b = none) ∧ W i n σ' H') ?_ m0 ⟨0, σ, H2, I2, st2, fun b hb => (f2 b hb).1, w0⟩
  rintro n s3 ⟨i, σ3, H3, I3, st3, fr3, w3⟩
  rcases turn i n σ3 H3 w3 with ⟨stop, qn⟩ | ⟨go, N, hN, step⟩
  · refine wpAny_passesOwn hp (thn (T.done X rfl rfl rfl hc i pins s3 σ3 H3 X.xe I3 (stat fr3) st3 stop) fun r s4 ⟨hr, I4⟩ => ?_)
    subst hr
    exact wpAny_execs_nil ⟨σ3, H3, I4, qn⟩
  · refine wpAny_passesOwn hp (thn (T.item X rfl rfl rfl hc i pins s3 σ3 H3 X.xe I3 (stat fr3) st3 go) fun r s4 ⟨u, hr, h4⟩ => ?_)
    subst hr
    refine wpAny_passesOwn hp (thn h4 fun _ s5 ⟨x, H5, I5, r5, y5, st5, fr5⟩ => ?_)
    have I5' := I5.pinned (stat fr5) (T.obj _ _ st5)
    refine wpAny_passesOwn hp (thn (hg _ s5 σ3 H5 x u _ I5' r5 (step x H5 y5)) fun _ s6 ⟨σ6, H6, I6, q6⟩ => ?_)
    refine wpAny_passesOwn hp (thn (hb _ s6 σ6 H6 _ I6 q6) fun f s7 q7 => ?_)
    have again : ∀ {σ7 : St} {H7 : Hp}, Inv X (pins ++ pinsAt fp s5.heap) σ7 H7 s7 → N σ7 H7 → ∃ m, m < n ∧ ∃ i σ' H', Inv X pins σ' H' s7 ∧ tn i s7.heap ∧ (∀ b ∈ fp, H' b = none) ∧ W i m σ' H' := fun {σ7 H7} I7 n7 => by
      obtain ⟨m', hm, w7⟩ := hN σ7 H7 n7
      refine ⟨m', hm, i + 1, σ7, H7, I7.unpinned, T.keep _ _ _ st5 fun b hb o e => (I7.pin (b, o) (List.mem_append_right _ (List.mem_append_right _ (mem_pinsAt hb e)))).1, fun b hb => ?_, w7⟩
      obtain ⟨o, e, d⟩ := T.obj _ _ st5 b hb
      exact (I7.pin (b, o) (List.mem_append_right _ (List.mem_append_right _ (mem_pinsAt hb e)))).2.1
    cases f with
    | next => obtain ⟨σ7, H7, I7, n7⟩ := q7; exact again I7 n7
    | cont => obtain ⟨σ7, H7, I7, n7⟩ := q7; exact again I7 n7
    | brk => obtain ⟨σ7, H7, I7, q7⟩ := q7; exact ⟨σ7, H7, I7.unpinned, q7⟩
    | ret v => obtain ⟨x7, σ7, H7, I7, r7, q7⟩ := q7; exact ⟨x7, σ7, H7, I7.unpinned, r7, q7⟩
end
theorem for_list {K : PySem.W.Frag} {a : Addr} {xs : List V} {g : TG} {tb : TS} {D : Ends} {σ : St} {H : Hp} (Pv : Nat → St → Hp → Prop) (h0 : Pv 0 σ H) (hl : ∀ i σ H, i ≤ xs.length → Pv i σ H → SqL K H a xs)
    (hs : ∀ i x σ H, xs[i]? = some x → Pv i σ H → g x σ H fun σ2 H2 => tb { D with nx := Pv (i + 1), ct := Pv (i + 1), bk := D.nx } σ2 H2) (hd : ∀ σ H, Pv xs.length σ H → D.nx σ H) :
    ∃ W : Nat → Nat → St → Hp → Prop, (∃ m, W 0 m σ H) ∧ ∀ i m σ H, W i m σ H →
      ((Itl K a).stop i H ∧ D.nx σ H) ∨ ((Itl K a).go i H ∧ ∃ N : St → Hp → Prop, (∀ σ' H', N σ' H' → ∃ m', m' < m ∧ W (i + 1) m' σ' H') ∧ ∀ x H', (Itl K a).yld i H x H' → g x σ H' fun σ2 H2 => tb { D with nx := N, ct := N, bk := D.nx } σ2 H2) := by
  refine ⟨fun i m σ H => m = xs.length - i ∧ i ≤ xs.length ∧ Pv i σ H, ⟨xs.length, by simp, Nat.zero_le _, h0⟩, ?_⟩
  rintro i m σ H ⟨rfl, hi, p⟩
  have q := hl i σ H hi p
  by_cases hlt : i < xs.length
  · refine .inr ⟨⟨xs, xs[i], q, by simp [hlt]⟩, Pv (i + 1), fun σ' H' p' => ⟨xs.length - (i + 1), by omega, rfl, hlt, p'⟩, fun x H' y => ?_⟩
    obtain ⟨e, y⟩ := y
    subst e
    exact hs i x σ _ (y xs q) p
  · have e : i = xs.length := by omega
    subst e
    exact .inl ⟨⟨xs, q, Nat.le_refl _⟩, hd σ H p⟩
theorem for_range {lo : Int} {n : Nat} {g : TG} {tb : TS} {D : Ends} {σ : St} {H : Hp} (Pv : Nat → St → Hp → Prop) (h0 : Pv 0 σ H)
    (hs : ∀ i σ H, i < n → Pv i σ H → g (.int (lo + i)) σ H fun σ2 H2 => tb { D with nx := Pv (i + 1), ct := Pv (i + 1), bk := D.nx } σ2 H2) (hd : ∀ σ H, Pv n σ H → D.nx σ H) :
    ∃ W : Nat → Nat → St → Hp → Prop, (∃ m, W 0 m σ H) ∧ ∀ i m σ H, W i m σ H →
      ((Itr lo n).stop i H ∧ D.nx σ H) ∨ ((Itr lo n).go i H ∧ ∃ N : St → Hp → Prop, (∀ σ' H', N σ' H' → ∃ m', m' < m ∧ W (i + 1) m' σ' H') ∧ ∀ x H', (Itr lo n).yld i H x H' → g x σ H' fun σ2 H2 => tb { D with nx := N, ct := N, bk := D.nx } σ2 H2) := by
  refine ⟨fun i m σ H => m = n - i ∧ i ≤ n ∧ Pv i σ H, ⟨n, by simp, Nat.zero_le _, h0⟩, ?_⟩
  rintro i m σ H ⟨rfl, hi, p⟩
  by_cases hlt : i < n
  · refine .inr ⟨hlt, Pv (i + 1), fun σ' H' p' => ⟨n - (i + 1), by omega, rfl, hlt, p'⟩, fun x H' y => ?_⟩
    obtain ⟨e, y⟩ := y
    subst e y
    exact hs i σ _ hlt p
  · have e : i = n := by omega
    subst e
    exact .inl ⟨Nat.le_refl _, hd σ H p⟩
end L2
namespace L2
open PySem PySem.Spec PyProof.Rows
abbrev R2 := V → V → Hp → VK → Prop
def OpR (X : Cx) (f : Value → Value → Sem Value) (r : R2) : Prop :=
  ∀ (pins : List (Addr × Obj)) (s : Shared) (σ : St) (H : Hp) (x y : V) (v u : Value) (Q : VK), Inv X pins σ H s → RelV x v → RelV y u → r x y H Q →
    wpAny (model X.prog X.w) X.A (f v u) (EP X pins σ Q) X.xe s
def UnR (X : Cx) (f : Value → Sem Value) (r : V → Hp → VK → Prop) : Prop :=
  ∀ (pins : List (Addr × Obj)) (s : Shared) (σ : St) (H : Hp) (x : V) (v : Value) (Q : VK), Inv X pins σ H s → RelV x v → r x H Q →
    wpAny (model X.prog X.w) X.A (f v) (EP X pins σ Q) X.xe s
def CallR (X : Cx) (f : Value) (r : List V → Hp → VK → Prop) : Prop :=
  ∀ (pins : List (Addr × Obj)) (s : Shared) (σ : St) (H : Hp) (xs : List V) (us : List Value) (Q : VK), Inv X pins σ H s → Vals xs us → r xs H Q →
    wpAny (model X.prog X.w) X.A (call f us) (EP X pins σ Q) X.xe s
def tOp (r : R2) (ta tb : TE) : TE := fun σ H Q => ta σ H fun x H1 => tb σ H1 fun y H2 => r x y H2 Q
def tUn (r : V → Hp → VK → Prop) (ta : TE) : TE := fun σ H Q => ta σ H fun x H1 => r x H1 Q
def rI (C : Int → Int → Prop) (g : Int → Int → V) : R2 := fun x y H Q => ∃ i j, x = .int i ∧ y = .int j ∧ C i j ∧ Q (g i j) H
def rI0 (g : Int → Int → V) : R2 := fun x y H Q => ∃ i j, x = .int i ∧ y = .int j ∧ Q (g i j) H
def rU (g : Int → V) : V → Hp → VK → Prop := fun x H Q => ∃ i, x = .int i ∧ Q (g i) H
section
variable {X : Cx} {a b c : Expr} {ta tb tc : TE} {pos : Pos}
theorem binT (ha : PE X a ta) (hb : PE X b tb) {pins : List (Addr × Obj)} {s : Shared} {σ : St} {H : Hp} {R : V → V → Hp → Prop} (I : Inv X pins σ H s)
    (h : ta σ H fun x H1 => tb σ H1 fun y H2 => R x y H2) {Q : Value → Shared → Prop} {f : Value → Value → Sem Value}
    (hf : ∀ v u s2 x y H2, Inv X pins σ H2 s2 → RelV x v → RelV y u → R x y H2 → wpAny (model X.prog X.w) X.A (f v u) Q X.xe s2) :
    wpAny (model X.prog X.w) X.A (eval a X.env) (fun v s₁ => wpAny (model X.prog X.w) X.A (eval b X.env) (fun u s₂ => wpAny (model X.prog X.w) X.A (f v u) Q X.xe s₂) X.xe s₁) X.xe s := by
  refine thn (ha pins s σ H _ I h) fun v s1 ⟨x, H1, I1, r1, q1⟩ => ?_
  refine thn (hb pins s1 σ H1 _ I1 q1) fun u s2 ⟨y, H2, I2, r2, q2⟩ => ?_
  exact hf v u s2 x y H2 I2 r1 r2 q2
theorem pe_op {op : Operator} {r : R2} (ho : OpR X (binaryOp op) r) (ha : PE X a ta) (hb : PE X b tb) : PE X (.BinOp a op b pos) (tOp r ta tb) := by
  intro pins s σ H Q I h
  exact wpAny_BinOp (binT ha hb I h fun v u s2 x y H2 I2 rx ry q => ho pins s2 σ H2 x y v u Q I2 rx ry q)
theorem pe_un {op : UnaryOp} {r : V → Hp → VK → Prop} (ho : UnR X (unaryOp op) r) (ha : PE X a ta) : PE X (.UnaryOp op a pos) (tUn r ta) := by
  intro pins s σ H Q I h
  exact UnaryOp_ (thn (ha pins s σ H _ I h) fun v s1 ⟨x, H1, I1, r1, q1⟩ => ho pins s1 σ H1 x v Q I1 r1 q1)
theorem opI {f : Value → Value → Sem Value} {C : Int → Int → Prop} {g : Int → Int → Int}
    (rule : ∀ (i j : Int) (t u : Tok) (s : Shared) (Q : Value → Shared → Prop) (E : Value → Shared → Prop), C i j → Q (.int (g i j) s.toks) { s with toks := s.toks + 1 } → wpAny (model X.prog X.w) X.A (f (.int i t) (.int j u)) Q E s) :
    OpR X f (rI C fun i j => .int (g i j)) := by
  intro pins s σ H x y v u Q I rx ry h
  obtain ⟨i, j, rfl, rfl, hc, q⟩ := h
  obtain ⟨t, rfl⟩ := rx
  obtain ⟨t', rfl⟩ := ry
  exact rule i j t t' s _ _ hc ⟨.int (g i j), H, I.tok _, ⟨_, rfl⟩, q⟩
theorem opI0 {f : Value → Value → Sem Value} {g : Int → Int → Int}
    (rule : ∀ (i j : Int) (t u : Tok) (s : Shared) (Q : Value → Shared → Prop) (E : Value → Shared → Prop), Q (.int (g i j) s.toks) { s with toks := s.toks + 1 } → wpAny (model X.prog X.w) X.A (f (.int i t) (.int j u)) Q E s) :
    OpR X f (rI0 fun i j => .int (g i j)) := by
  intro pins s σ H x y v u Q I rx ry h
  obtain ⟨i, j, rfl, rfl, q⟩ := h
  obtain ⟨t, rfl⟩ := rx
  obtain ⟨t', rfl⟩ := ry
  exact rule i j t t' s _ _ ⟨.int (g i j), H, I.tok _, ⟨_, rfl⟩, q⟩
theorem opB0 {f : Value → Value → Sem Value} {g : Int → Int → Bool}
    (rule : ∀ (i j : Int) (t u : Tok) (s : Shared) (Q : Value → Shared → Prop) (E : Value → Shared → Prop), Q (.bool (g i j)) s → wpAny (model X.prog X.w) X.A (f (.int i t) (.int j u)) Q E s) :
    OpR X f (rI0 fun i j => .bl (g i j)) := by
  intro pins s σ H x y v u Q I rx ry h
  obtain ⟨i, j, rfl, rfl, q⟩ := h
  obtain ⟨t, rfl⟩ := rx
  obtain ⟨t', rfl⟩ := ry
  exact rule i j t t' s _ _ ⟨.bl (g i j), H, I, rfl, q⟩
def CPow (i j : Int) : Prop := 0 ≤ j ∧ j ≤ 1000000 ∧ i.natAbs < 2 ^ 64
def CMul (i j : Int) : Prop := (-(2 ^ 64) < i ∧ i < 2 ^ 64) ∨ (-(2 ^ 64) < j ∧ j < 2 ^ 64)
theorem CMul.ok {i j : Int} (h : CMul i j) : IntMulOk i j := by
  rcases h with ⟨h1, h2⟩ | ⟨h1, h2⟩
  · exact .of_left (intBits_le_64 h1 h2)
  · exact .of_right (intBits_le_64 h1 h2)
theorem op_add : OpR X (binaryOp .Add) (rI0 fun i j => .int (i + j)) := opI0 fun _ _ _ _ _ _ _ q => add_int q
theorem op_sub : OpR X (binaryOp .Sub) (rI0 fun i j => .int (i - j)) := opI0 fun _ _ _ _ _ _ _ q => sub_int q
theorem op_mul : OpR X (binaryOp .Mult) (rI CMul fun i j => .int (i * j)) := opI fun _ _ _ _ _ _ _ hc q => mul_int q hc.ok
theorem op_mod : OpR X (binaryOp .Mod) (rI (fun _ j => 0 < j) fun i j => .int (i % j)) := opI fun i j _ _ _ _ _ hc q => by
  have h1 : (0 : Int) < j := hc
  exact mod_int' (by omega) (by rw [Int.fmod_eq_emod_of_nonneg i (by omega)]; exact q)
theorem op_pow : OpR X (binaryOp .Pow) (rI CPow fun i j => .int (i ^ j.toNat)) := opI fun _ _ _ _ _ _ _ hc q => pow_int_small hc.1 hc.2.1 hc.2.2 q
theorem unI {f : Value → Sem Value} {g : Int → Int}
    (rule : ∀ (i : Int) (t : Tok) (s : Shared) (Q : Value → Shared → Prop) (E : Value → Shared → Prop), Q (.int (g i) s.toks) { s with toks := s.toks + 1 } → wpAny (model X.prog X.w) X.A (f (.int i t)) Q E s) :
    UnR X f (rU fun i => .int (g i)) := by
  intro pins s σ H x v Q I rx h
  obtain ⟨i, rfl, q⟩ := h
  obtain ⟨t, rfl⟩ := rx
  exact rule i t s _ _ ⟨.int (g i), H, I.tok _, ⟨_, rfl⟩, q⟩
theorem un_neg : UnR X (unaryOp .USub) (rU fun i => .int (-i)) := unI fun _ _ _ _ _ q => neg_int q
end
def scal : V → V → Bool
  | .non, .non => true | .non, .int _ => true | .int _, .non => true | .non, .bl _ => true | .bl _, .non => true | .non, .str _ => true | .str _, .non => true
  | .int _, .int _ => true | .bl _, .bl _ => true | .str _, .str _ => true | .byt _, .byt _ => true
  | .int _, .str _ => true | .str _, .int _ => true | .bl _, .str _ => true | .str _, .bl _ => true
  | _, _ => false
def rEq : R2 := fun x y H Q => scal x y = true ∧ Q (.bl (decide (x = y))) H
def rNe : R2 := fun x y H Q => scal x y = true ∧ Q (.bl (!decide (x = y))) H
theorem dec_int {i j : Int} : decide (V.int i = V.int j) = (i == j) := by
  rw [Bool.eq_iff_iff]
  simp
theorem dec_bl {i j : Bool} : decide (V.bl i = V.bl j) = (i == j) := by
  rw [Bool.eq_iff_iff]
  simp
theorem dec_str {i j : Str} : decide (V.str i = V.str j) = (i == j) := by
  rw [Bool.eq_iff_iff]
  simp
theorem dec_byt {i j : Array UInt8} : decide (V.byt i = V.byt j) = (i.toList == j.toList) := by
  rw [Bool.eq_iff_iff]
  cases i
  cases j
  simp
section
variable {X : Cx} {a b c : Expr} {ta tb tc : TE} {pos : Pos}
theorem fin_bl {pins : List (Addr × Obj)} {σ : St} {H : Hp} {s : Shared} {Q : VK} {k k' : Bool} (I : Inv X pins σ H s) (q : Q (.bl k) H) (e : k = k') : EP X pins σ Q (.bool k') s := by
  subst e
  exact ⟨.bl k, H, I, rfl, q⟩
theorem op_eq : OpR X (compareOp .Eq) rEq := by
  intro pins s σ H x y v u Q I rx ry h
  obtain ⟨hs, q⟩ := h
  cases x with
  | non =>
    cases rx
    cases y with
    | non => cases ry; exact PySem.EqNone.eq_none_none (fin_bl I q (by simp))
    | bl j => cases ry; exact PySem.EqNone.eq_none_bool (fin_bl I q (by simp))
    | int j => obtain ⟨t', rfl⟩ := ry; exact PySem.EqNone.eq_none_int (fin_bl I q (by simp))
    | str j => obtain ⟨t', rfl⟩ := ry; exact PySem.EqNone.eq_none_str (fin_bl I q (by simp))
    | _ => exact absurd (show false = true from hs) Bool.false_ne_true
  | bl i =>
    cases rx
    cases y with
    | non => cases ry; exact PySem.EqNone.eq_bool_none (fin_bl I q (by simp))
    | bl j => cases ry; exact eq_bool (fin_bl I q dec_bl)
    | str j => obtain ⟨t', rfl⟩ := ry; exact PySem.EqMixed.eq_bool_str (fin_bl I q (by simp))
    | _ => exact absurd (show false = true from hs) Bool.false_ne_true
  | int i =>
    obtain ⟨t, rfl⟩ := rx
    cases y with
    | non => cases ry; exact PySem.EqNone.eq_int_none (fin_bl I q (by simp))
    | int j => obtain ⟨t', rfl⟩ := ry; exact eq_int (fin_bl I q dec_int)
    | str j => obtain ⟨t', rfl⟩ := ry; exact PySem.EqMixed.eq_int_str (fin_bl I q (by simp))
    | _ => exact absurd (show false = true from hs) Bool.false_ne_true
  | str i =>
    obtain ⟨t, rfl⟩ := rx
    cases y with
    | non => cases ry; exact PySem.EqNone.eq_str_none (fin_bl I q (by simp))
    | bl j => cases ry; exact PySem.EqMixed.eq_str_bool (fin_bl I q (by simp))
    | int j => obtain ⟨t', rfl⟩ := ry; exact PySem.EqMixed.eq_str_int (fin_bl I q (by simp))
    | str j => obtain ⟨t', rfl⟩ := ry; exact eq_str (fin_bl I q dec_str)
    | _ => exact absurd (show false = true from hs) Bool.false_ne_true
  | byt i =>
    obtain ⟨t, rfl⟩ := rx
    cases y with
    | byt j => obtain ⟨t', rfl⟩ := ry; exact PySem.W.eq_bytes (fin_bl I q dec_byt)
    | _ => exact absurd (show false = true from hs) Bool.false_ne_true
  | _ => cases y <;> exact absurd (show false = true from hs) Bool.false_ne_true
theorem op_ne : OpR X (compareOp .NotEq) rNe := by
  intro pins s σ H x y v u Q I rx ry h
  obtain ⟨hs, q⟩ := h
  cases x with
  | non =>
    cases rx
    cases y with
    | non => cases ry; exact PySem.EqNone.ne_none_none (fin_bl I q (by simp))
    | bl j => cases ry; exact PySem.EqNone.ne_none_bool (fin_bl I q (by simp))
    | int j => obtain ⟨t', rfl⟩ := ry; exact PySem.EqNone.ne_none_int (fin_bl I q (by simp))
    | str j => obtain ⟨t', rfl⟩ := ry; exact PySem.EqNone.ne_none_str (fin_bl I q (by simp))
    | _ => exact absurd (show false = true from hs) Bool.false_ne_true
  | bl i =>
    cases rx
    cases y with
    | non => cases ry; exact PySem.EqNone.ne_bool_none (fin_bl I q (by simp))
    | bl j => cases ry; exact ne_bool (fin_bl I q (congrArg not dec_bl))
    | str j => obtain ⟨t', rfl⟩ := ry; exact PySem.EqMixed.ne_bool_str (fin_bl I q (by simp))
    | _ => exact absurd (show false = true from hs) Bool.false_ne_true
  | int i =>
    obtain ⟨t, rfl⟩ := rx
    cases y with
    | non => cases ry; exact PySem.EqNone.ne_int_none (fin_bl I q (by simp))
    | int j => obtain ⟨t', rfl⟩ := ry; exact ne_int (fin_bl I q (congrArg not dec_int))
    | str j => obtain ⟨t', rfl⟩ := ry; exact PySem.EqMixed.ne_int_str (fin_bl I q (by simp))
    | _ => exact absurd (show false = true from hs) Bool.false_ne_true
  | str i =>
    obtain ⟨t, rfl⟩ := rx
    cases y with
    | non => cases ry; exact PySem.EqNone.ne_str_none (fin_bl I q (by simp))
    | bl j => cases ry; exact PySem.EqMixed.ne_str_bool (fin_bl I q (by simp))
    | int j => obtain ⟨t', rfl⟩ := ry; exact PySem.EqMixed.ne_str_int (fin_bl I q (by simp))
    | str j => obtain ⟨t', rfl⟩ := ry; exact ne_str (fin_bl I q (congrArg not dec_str))
    | _ => exact absurd (show false = true from hs) Bool.false_ne_true
  | byt i =>
    obtain ⟨t, rfl⟩ := rx
    cases y with
    | byt j => obtain ⟨t', rfl⟩ := ry; exact PySem.W.ne_bytes (fin_bl I q (congrArg not dec_byt))
    | _ => exact absurd (show false = true from hs) Bool.false_ne_true
  | _ => cases y <;> exact absurd (show false = true from hs) Bool.false_ne_true
theorem op_lt : OpR X (compareOp .Lt) (rI0 fun i j => .bl (decide (i < j))) := opB0 fun _ _ _ _ _ _ _ q => lt_int q
theorem op_le : OpR X (compareOp .LtE) (rI0 fun i j => .bl (decide (i ≤ j))) := opB0 fun _ _ _ _ _ _ _ q => le_int q
theorem op_gt : OpR X (compareOp .Gt) (rI0 fun i j => .bl (decide (j < i))) := opB0 fun _ _ _ _ _ _ _ q => gt_int q
theorem op_ge : OpR X (compareOp .GtE) (rI0 fun i j => .bl (decide (j ≤ i))) := opB0 fun _ _ _ _ _ _ _ q => ge_int q
theorem op_isN : OpR X (compareOp .Is) (fun x y H Q => y = .non ∧ Q (.bl (decide (x = .non))) H) := by
  intro pins s σ H x y v u Q I rx ry h
  obtain ⟨rfl, q⟩ := h
  cases ry
  refine is_none_gen (fin_bl I q ?_)
  cases x <;> first
    | (cases rx; rfl)
    | (obtain ⟨t, rfl⟩ := rx; rfl)
theorem op_notN : OpR X (compareOp .IsNot) (fun x y H Q => y = .non ∧ Q (.bl (!decide (x = .non))) H) := by
  intro pins s σ H x y v u Q I rx ry h
  obtain ⟨rfl, q⟩ := h
  cases ry
  refine isnot_none_gen (fin_bl I q ?_)
  cases x <;> first
    | (cases rx; rfl)
    | (obtain ⟨t, rfl⟩ := rx; rfl)
theorem nomark (b : Expr) {op : CmpOp} (h : op ≠ .In := by decide) (h2 : op ≠ .NotIn := by decide) : behindInMarks op b = false := by
  have e1 : (op == CmpOp.In) = false := by cases op <;> first | rfl | exact absurd rfl h
  have e2 : (op == CmpOp.NotIn) = false := by cases op <;> first | rfl | exact absurd rfl h2
  cases b <;> simp [behindInMarks, e1, e2]
theorem pe_cmpR {op : CmpOp} {r : R2} (ho : OpR X (compareOp op) r) (ha : PE X a ta) (hb : PE X b tb) (hm : behindInMarks op b = false) : PE X (.Compare a [op] [b] pos) (tOp r ta tb) := by
  intro pins s σ H Q I h
  exact wpAny_Compare1 (binT ha hb I h fun v u s2 x y H2 I2 rx ry q => ho pins s2 σ H2 x y v u Q I2 rx ry q) hm
def tTest (t : TE) : TT := fun σ H Q => t σ H fun x H' => ∃ k, x = .bl k ∧ Q k H'
theorem pt_cmpR {op : CmpOp} {r : R2} (ho : OpR X (compareOp op) r) (ha : PE X a ta) (hb : PE X b tb) (hm : behindInMarks op b = false) : PT X (.Compare a [op] [b] pos) (tTest (tOp r ta tb)) := by
  intro pins s σ H Q I h
  refine wpAny_isTrue_Compare1 (thn (ha pins s σ H _ I h) fun v s1 ⟨x, H1, I1, r1, q1⟩ => thn (hb pins s1 σ H1 _ I1 q1) fun u s2 ⟨y, H2, I2, r2, q2⟩ =>
    thn (ho pins s2 σ H2 x y v u _ I2 r1 r2 q2) fun c s3 ⟨z, H3, I3, r3, k, e, q3⟩ => ?_) hm
  subst e
  cases r3
  exact wpAny_truthy_bool ⟨H3, I3, q3⟩
theorem line63 : (sizeLine : Nat) < 2 ^ 63 := by rw [sizeLine_eq]; decide
theorem vals1 {x : V} {us : List Value} (r : Vals [x] us) : ∃ u, us = [u] ∧ RelV x u := by
  cases r with
  | cons r1 r2 => cases r2; exact ⟨_, rfl, r1⟩
theorem vals2 {x y : V} {us : List Value} (r : Vals [x, y] us) : ∃ u w', us = [u, w'] ∧ RelV x u ∧ RelV y w' := by
  cases r with
  | cons r1 r2 =>
    cases r2 with
    | cons r3 r4 => cases r4; exact ⟨_, _, rfl, r1, r3⟩
theorem call_max2 (hc : X.calm = true) : CallR X (.builtin "max") (fun xs H Q => ∃ i j, xs = [.int i, .int j] ∧ Q (.int (if j > i then j else i)) H) := by
  intro pins s σ H xs us Q I r h
  obtain ⟨i, j, rfl, q⟩ := h
  obtain ⟨u, w', rfl, ⟨t, rfl⟩, ⟨t', rfl⟩⟩ := vals2 r
  refine max_two_ints (I.ok.hd hc) fun h' tk k => ⟨_, H, I.kept k, ?_, q⟩
  by_cases hj : j > i
  · rw [if_pos hj, if_pos hj]; exact ⟨_, rfl⟩
  · rw [if_neg hj, if_neg hj]; exact ⟨_, rfl⟩
theorem call_int1 : CallR X (.type "int") (fun xs H Q => (∃ i, xs = [.int i] ∧ Q (.int i) H) ∨ ∃ k, xs = [.bl k] ∧ Q (.int (if k then 1 else 0)) H) := by
  intro pins s σ H xs us Q I r h
  rcases h with ⟨i, rfl, q⟩ | ⟨k, rfl, q⟩
  · obtain ⟨u, rfl, t, rfl⟩ := vals1 r
    exact call_int_int ⟨.int i, H, I, ⟨_, rfl⟩, q⟩
  · obtain ⟨u, rfl, r1⟩ := vals1 r
    cases r1
    exact call_int_bool ⟨.int (if k then 1 else 0), H, I.tok _, ⟨_, rfl⟩, q⟩
end
end L2
namespace L2
open PySem PySem.Spec PyProof.Rows
structure ObjM (h : Heap) (x dx C : Addr) (mA : Str → Option Value) : Prop where
  obj : h.get? x = some (PySem.W.instObj C dx)
  ns : h.Ns1 dx mA
  ne : dx ≠ x
theorem lookIn_ns {h : Heap} {dx : Addr} {mA : Str → Option Value} (n : h.Ns1 dx mA) : ∃ od, h.get? dx = some od ∧ ∀ name, PySem.W.lookIn name od = some (mA name) := by
  obtain ⟨o, es, ep, ho, hd, hk, _, hm⟩ := n
  refine ⟨o, ho, fun name => ?_⟩
  have e := hm name
  unfold nsFind findBy at e
  rw [← Array.find?_toList] at e
  unfold PySem.W.lookIn
  rw [hd]
  dsimp only
  split
  · rename_i y q
    rw [q] at e
    exact congrArg some e
  · rename_i q
    rw [q] at e
    have a : es.toList.any (·.refKey) = false := by
      rw [List.any_eq_false]
      intro y hy
      obtain ⟨z, t, hkey⟩ := hk y (Array.mem_toList_iff.mp hy)
      simp [DictEntry.refKey, hkey]
    have a' : ¬ es.toList.any (·.refKey) = true := by rw [a]; exact Bool.false_ne_true
    rw [if_neg a']
    exact congrArg some e
theorem ObjM.look {h : Heap} {x dx C : Addr} {mA : Str → Option Value} (I : ObjM h x dx C mA) : ∃ od, PySem.W.InstAt h x (PySem.W.instObj C dx) C (some od) ∧ ∀ name, PySem.W.lookIn name od = some (mA name) :=
  let ⟨od, ho, hl⟩ := lookIn_ns I.ns
  ⟨od, ⟨I.obj, rfl, rfl, ho⟩, hl⟩
section
variable {prog : Program} {w : World} {A : Around} {E : Value → Shared → Prop} {s : Shared} {K : PySem.W.Frag} {x dx C f : Addr} {mA : Str → Option Value} {name : Str} {v : Value}
theorem get_map {expr : Bool} {Q : Value → Shared → Prop} (X : K.In s.heap) (I : ObjM s.heap x dx C mA) (hg : PySem.W.plainGet K C name = true) (hh : PySem.W.hasDictIn K C = true)
    (ha : PySem.W.findIn K (.ref C) name = some none) (hv : mA name = some v) (hv' : PySem.W.handedIn v = true) (h : Q v { s with toks := s.toks + 1 }) :
    wpAny (model prog w) A (getAttr (.ref x) name expr) Q E s := by
  obtain ⟨od, J, hl⟩ := I.look
  exact PySem.W.get_value X J (PySem.W.plainGet_of hg).1 (PySem.W.findObj_own hh ha rfl (by rw [hl, hv])) hv' h
theorem get_meth {pl : Sem Bool} {Q : Value × List Value → Shared → Prop} (X : K.In s.heap) (I : ObjM s.heap x dx C mA) (hg : PySem.W.plainGet K C name = true)
    (hf : PySem.W.findIn K (.ref C) name = some (some (.ref f))) (ht : PySem.W.isFn K (.ref f) = true) (hv : mA name = none) (h : Q (.ref f, [.ref x]) s) :
    wpAny (model prog w) A (getMethod (.ref x) name pl) Q E s := by
  obtain ⟨od, J, hl⟩ := I.look
  exact PySem.W.method_fn X J (PySem.W.plainGet_of hg).1 (PySem.W.plainGet_of hg).2 hf (beq_iff_eq.mp ht) (by show (PySem.W.lookIn name od).map (·.isSome) = some false; rw [hl, hv]; rfl) h
theorem set_map {ns : List Str} {Q : Unit → Shared → Prop} (X : K.In s.heap) (I : ObjM s.heap x dx C mA)
    (hs : PySem.W.findIn K (.ref C) "__setattr__" = some (some (.builtin "object.__setattr__"))) (hp : PySem.W.plainOver K C = true) (ht : PySem.W.takerIn K C name = some none) (hh : PySem.W.hasDictIn K C = true)
    (hw : PySem.Within mA ns) (hsz : ns.length ≤ sizeLine)
    (h : ∀ h', ObjM h' x dx C (fun y => if y = name then some v else mA y) → Heap.SameBut dx s.heap h' → Q () { s with heap := h', toks := s.toks + 2 }) :
    wpAny (model prog w) A (setAttr (.ref x) name v) Q E s := by
  obtain ⟨od, J, hl⟩ := I.look
  refine PySem.W.set_plain X J hs (PySem.W.osa_open (s := { s with toks := s.toks + 1 }) (r := none) X J hp ht fun b => ?_)
  obtain ⟨cd, hc, hd'⟩ := PySem.W.any_some hh
  have hx : s.heap.get? x = some ⟨.ref C, some dx, .plain, #[]⟩ := I.obj
  refine wpAny_bind (wpAny_pure (wpAny_bind (wpAny_bind (wpAny_loadPart hx (wpAny_bind (PySem.W.Looks.here (s := { s with toks := s.toks + 1 }) (PySem.W.looks_clsIn X hc) ?_))))))
  rw [hd']
  refine wpAny_pure (a := some dx) (wpAny_bind (wpAny_pure (wpAny_bind ?_)))
  refine wpAny_nsSet1 (s := { s with toks := s.toks + 1 }) I.ns fun h' hn2 hs2 => ?_
  obtain ⟨oD, esD, epD, hoD, hdD, hcD⟩ := hn2.count (PySem.Within.cons name v hw)
  refine wpAny_bind (wpAny_lookBehind hoD (by rw [hdD]; exact pastItsLine_dict (Nat.le_trans hcD (by rw [List.length_cons]; omega))) ?_)
  exact wpAny_pure (h _ ⟨(hs2.2 _ (Ne.symm I.ne)).trans I.obj, hn2, I.ne⟩ hs2)
theorem make_map {R : Result → Shared → Prop} {vs : List Value} {kw : List (Str × Value)} (X : K.In s.heap) (hm : PySem.W.makesIn K C = true)
    (hi : PySem.W.findIn K (.ref C) "__init__" = some (some (.ref f))) (hf : PySem.W.typeIn K (.ref f) = some (.type "function"))
    (h : codeAny (model prog w) (A.under (.builtin "type.__call__" ⟨.ref C :: vs, kw⟩)) (.call (.ref f) ⟨.ref (s.heap.objs.size + 1) :: vs, kw⟩) (PySem.W.InitBack (s.heap.objs.size + 1) R)
      { s with heap := (s.heap.push PySem.W.emptyDict).push (PySem.W.instObj C s.heap.objs.size) }) :
    codeAny (model prog w) A (.call (.ref C) ⟨vs, kw⟩) R s := by
  obtain ⟨hh, g, d, t, os⟩ := s
  exact PySem.W.make_core (PySem.W.makes_of X hm) (PySem.W.looks_findIn X hi) (fun self => PySem.W.bind_fn X self hf) (.inl rfl) h
end
def putF (f : Str) (v : V) : List (Str × V) → List (Str × V)
  | [] => [(f, v)]
  | (g, x) :: r => if g = f then (g, v) :: r else (g, x) :: putF f v r
theorem lookup_putF (f g : Str) (v : V) : ∀ fs : List (Str × V), (putF f v fs).lookup g = if g = f then some v else fs.lookup g
  | [] => by
    show List.lookup g [(f, v)] = _
    by_cases h : g = f
    · have hb : (g == f) = true := beq_iff_eq.mpr h
      simp only [List.lookup, hb, if_pos h]
    · have hb : (g == f) = false := beq_eq_false_iff_ne.mpr h
      simp only [List.lookup, hb, if_neg h]
  | (k, x) :: r => by
    have ih := lookup_putF f g v r
    rw [show putF f v ((k, x) :: r) = (if k = f then (k, v) :: r else (k, x) :: putF f v r) from rfl]
    by_cases hk : k = f
    · rw [if_pos hk]
      by_cases h : g = k
      · have hb : (g == k) = true := beq_iff_eq.mpr h
        simp only [List.lookup, hb, if_pos (h.trans hk)]
      · have hb : (g == k) = false := beq_eq_false_iff_ne.mpr h
        simp only [List.lookup, hb, if_neg (fun e : g = f => h (e.trans hk.symm))]
    · rw [if_neg hk]
      by_cases h : g = k
      · have hb : (g == k) = true := beq_iff_eq.mpr h
        simp only [List.lookup, hb, if_neg (fun e : g = f => hk (h.symm.trans e))]
      · have hb : (g == k) = false := beq_eq_false_iff_ne.mpr h
        simp only [List.lookup, hb]
        exact ih
theorem keys_putF (f : Str) (v : V) : ∀ fs : List (Str × V), f ∈ (putF f v fs).map (·.1) ∧ ∀ g, g ∈ fs.map (·.1) → g ∈ (putF f v fs).map (·.1)
  | [] => ⟨by simp [putF], fun g h => by simp at h⟩
  | (k, x) :: r => by
    obtain ⟨i1, i2⟩ := keys_putF f v r
    rw [show putF f v ((k, x) :: r) = (if k = f then (k, v) :: r else (k, x) :: putF f v r) from rfl]
    by_cases hk : k = f
    · rw [if_pos hk]
      subst hk
      exact ⟨by simp, fun g h => by simpa using h⟩
    · rw [if_neg hk]
      refine ⟨?_, fun g h => ?_⟩
      · rw [List.map_cons]
        exact List.mem_cons_of_mem _ i1
      · rw [List.map_cons] at h ⊢
        rcases List.mem_cons.mp h with e | e
        · exact List.mem_cons.mpr (.inl e)
        · exact List.mem_cons_of_mem _ (i2 g e)
theorem length_putF (f : Str) (v : V) : ∀ fs : List (Str × V), (putF f v fs).length ≤ fs.length + 1
  | [] => by simp [putF]
  | (k, x) :: r => by
    have ih := length_putF f v r
    rw [show putF f v ((k, x) :: r) = (if k = f then (k, v) :: r else (k, x) :: putF f v r) from rfl]
    by_cases hk : k = f
    · rw [if_pos hk, List.length_cons, List.length_cons]; omega
    · rw [if_neg hk, List.length_cons, List.length_cons]; omega
theorem RelO.some_of {v : V} {o : Option Value} (r : RelO (some v) o) : ∃ u, o = some u ∧ RelV v u := by
  cases o with
  | none => exact (show False from r).elim
  | some u => exact ⟨u, rfl, r⟩
theorem RelO.none_of {o : Option Value} (r : RelO none o) : o = none := by
  cases o with
  | none => rfl
  | some u => exact (show False from r).elim
theorem handed_of {v : V} {u : Value} (r : RelV v u) : PySem.W.handedIn u = true := by
  cases v with
  | non => cases (show u = Value.none from r); rfl
  | bl b => cases (show u = Value.bool b from r); rfl
  | int i => obtain ⟨t, e⟩ := (show ∃ t, u = Value.int i t from r); cases e; rfl
  | str x => obtain ⟨t, e⟩ := (show ∃ t, u = Value.str x t from r); cases e; rfl
  | byt b => obtain ⟨t, e⟩ := (show ∃ t, u = Value.bytes b t from r); cases e; rfl
  | flt b => obtain ⟨t, e⟩ := (show ∃ t, u = Value.float b t from r); cases e; rfl
  | ref a => cases (show u = Value.ref a from r); rfl
  | ty n => cases (show u = Value.type n from r); rfl
section
variable {P : Program} {w : World} {H H' : Hp} {h h' : Heap} {a C dx : Addr} {fs fs' : List (Str × V)}
theorem ins_get (hok : HOk P w H h) (e : H a = some (.ins C dx fs)) : ∃ mA, ObjM h a dx C mA ∧ (∀ f, RelO (fs.lookup f) (mA f)) ∧ PySem.Within mA (fs.map (·.1)) ∧ fs.length ≤ 1000 ∧ H dx = some (.own a) := by
  obtain ⟨d, z, ne, ob, mA, n, r, q⟩ := (show ObjOk P w H h a (.ins C dx fs) from hok a _ e)
  exact ⟨mA, ⟨ob, n, ne⟩, r, q, z, d⟩
end
structure Cls (K : PySem.W.Frag) (C : Addr) : Prop where
  pg : PySem.W.plainGet K C Str.empty = true
  hd : PySem.W.hasDictIn K C = true
  po : PySem.W.plainOver K C = true
  sa : PySem.W.findIn K (.ref C) "__setattr__" = some (some (.builtin "object.__setattr__"))
theorem Cls.get {K : PySem.W.Frag} {C : Addr} (c : Cls K C) (f : Str) : PySem.W.plainGet K C f = true := c.pg
def NoAttr (K : PySem.W.Frag) (C : Addr) (f : Str) : Prop := PySem.W.findIn K (.ref C) f = some none
theorem NoAttr.taker {K : PySem.W.Frag} {C : Addr} {f : Str} (n : NoAttr K C f) : PySem.W.takerIn K C f = some none := by
  unfold PySem.W.takerIn
  rw [show PySem.W.findIn K (.ref C) f = some none from n]
  rfl
structure Meth (K : PySem.W.Frag) (C : Addr) (m : Str) (f : Addr) : Prop where
  at_ : PySem.W.findIn K (.ref C) m = some (some (.ref f))
  fn : PySem.W.isFn K (.ref f) = true
  kp : PySem.W.keepIn K (.ref f) = true
section
variable {X : Cx} {pins : List (Addr × Obj)} {σ : St} {H : Hp} {s : Shared} {a C dx : Addr} {fs : List (Str × V)} {f : Str} {v : V} {A : Around} {E : Value → Shared → Prop}
theorem getattr_ok {b : Bool} {Q : Value → Shared → Prop} (I : Inv X pins σ H s) (e : H a = some (.ins C dx fs)) (c : Cls X.K C) (n : NoAttr X.K C f) (l : fs.lookup f = some v)
    (h : ∀ u s', Inv X pins σ H s' → RelV v u → Q u s') : wpAny (model X.prog X.w) A (getAttr (.ref a) f b) Q E s := by
  obtain ⟨mA, O, r, _, _, _⟩ := ins_get I.hok e
  obtain ⟨u, hu, ru⟩ := RelO.some_of (v := v) (o := mA f) (by rw [← l]; exact r f)
  exact get_map I.kIn O (c.get f) c.hd n hu (handed_of ru) (h u _ (I.tok _) ru)
theorem getmeth_ok {m : Str} {g : Addr} {pl : Sem Bool} {Q : Value × List Value → Shared → Prop} (I : Inv X pins σ H s) (e : H a = some (.ins C dx fs)) (c : Cls X.K C) (k : Meth X.K C m g) (l : fs.lookup m = none)
    (h : Q (.ref g, [.ref a]) s) : wpAny (model X.prog X.w) A (getMethod (.ref a) m pl) Q E s := by
  obtain ⟨mA, O, r, _, _, _⟩ := ins_get I.hok e
  have hn : mA m = none := RelO.none_of (by rw [← l]; exact r m)
  exact get_meth I.kIn O (c.get m) k.at_ k.fn hn h
theorem setattr_ok {y : V} {u : Value} {Q : Unit → Shared → Prop} (I : Inv X pins σ H s) (e : H a = some (.ins C dx fs)) (c : Cls X.K C) (n : NoAttr X.K C f) (hl : fs.length < 1000) (ry : RelV y u)
    (h : ∀ s', Inv X pins σ (upd H a (.ins C dx (putF f y fs))) s' → Q () s') : wpAny (model X.prog X.w) A (setAttr (.ref a) f u) Q E s := by
  obtain ⟨mA, O, r, wi, _, ho⟩ := ins_get I.hok e
  have hz : (fs.map (·.1)).length ≤ sizeLine := by rw [List.length_map, sizeLine_eq]; omega
  refine set_map I.kIn O c.sa c.po n.taker c.hd wi hz fun h' O' sb => h _ ?_
  have hd : ∃ o, h'.get? dx = some o := let ⟨o, _, _, e', _⟩ := O'.ns; ⟨o, e'⟩
  refine I.write (x := a) (e := dx) (by rw [e]; exact True.intro) (.inr ho) (fun b q hb z => (sb.2 b hb).trans z) hd ?_
  refine ⟨by rw [upd_ne O.ne]; exact ho, ?_, O.ne, O'.obj, _, O'.ns, fun g => ?_, fun g hg => ?_⟩
  · have := length_putF f y fs; omega
  · show RelO ((putF f y fs).lookup g) (if g = f then some u else mA g)
    rw [lookup_putF]
    by_cases q : g = f
    · rw [if_pos q, if_pos q]; exact ry
    · rw [if_neg q, if_neg q]; exact r g
  · by_cases q : g = f
    · rw [q]; exact (keys_putF f y fs).1
    · refine (keys_putF f y fs).2 g (wi g fun z => hg ?_)
      show (if g = f then some u else mA g) = none
      rw [if_neg q]; exact z
theorem Inv.made (I : Inv X pins σ H s) : Inv X pins σ (upd (upd H s.heap.objs.size (.own (s.heap.objs.size + 1))) (s.heap.objs.size + 1) (.ins C s.heap.objs.size []))
    { s with heap := (s.heap.push PySem.W.emptyDict).push (PySem.W.instObj C s.heap.objs.size) } := by
  have e1 : (s.heap.push PySem.W.emptyDict).get? s.heap.objs.size = some PySem.W.emptyDict := Heap.get?_push_size s.heap rfl
  have e2 : ((s.heap.push PySem.W.emptyDict).push (PySem.W.instObj C s.heap.objs.size)).get? (s.heap.objs.size + 1) = some (PySem.W.instObj C s.heap.objs.size) := by
    have := Heap.get?_push_size (s.heap.push PySem.W.emptyDict) (o := PySem.W.instObj C s.heap.objs.size) rfl
    rwa [Heap.size_push] at this
  have e3 : (s.heap.push PySem.W.emptyDict).Ns s.heap.objs.size (fun _ => none) := ⟨PySem.W.emptyDict, #[], _, e1, rfl, (fun e he => absurd he (by simp)), fun _ => rfl⟩
  have I1 := I.laid (a := s.heap.objs.size) (o := .own (s.heap.objs.size + 1)) (h' := s.heap.push PySem.W.emptyDict) (t' := s.toks) (fun b u q => Heap.get?_push_of_some _ q) (Nat.le_refl _) ⟨_, e1⟩
  refine I1.laid (a := s.heap.objs.size + 1) (o := .ins C s.heap.objs.size []) (t' := s.toks) (fun b u q => Heap.get?_push_of_some _ q) (Nat.le_of_eq (Heap.size_push _ _)) ?_
  have ne : s.heap.objs.size ≠ s.heap.objs.size + 1 := Nat.ne_of_lt (Nat.lt_succ_self _)
  refine ⟨by rw [upd_ne ne, upd_same], Nat.zero_le _, ne, e2, fun _ => none, (Heap.Ns1.of_empty e3).at fun o q => Heap.get?_push_of_some _ q, fun _ => True.intro, fun y hy => absurd rfl hy⟩
theorem attr_of {prog : Program} {w : World} {env : Env} {e : Expr} {f : Str} {pos : Pos} {s : Shared} {Q : Value → Shared → Prop} (hb : attributeBase e f env (eval e env) = eval e env)
    (h : wpAny (model prog w) A (eval e env) (fun o s₁ => wpAny (model prog w) A (getAttr o f true) Q E s₁) E s) : wpAny (model prog w) A (eval (.Attribute e f pos) env) Q E s :=
  Attribute_any_ h (by rw [arm_eval_Attribute, hb])
end
def tFld (K : PySem.W.Frag) (ta : TE) (f : Str) : TE := fun σ H Q => ta σ H fun x H1 => ∃ a C dx fs v, x = .ref a ∧ H1 a = some (.ins C dx fs) ∧ Cls K C ∧ NoAttr K C f ∧ fs.lookup f = some v ∧ Q v H1
def sFld (K : PySem.W.Frag) (ta tv : TE) (f : Str) : TS := fun D σ H => tv σ H fun y H1 => ta σ H1 fun x H2 => ∃ a C dx fs, x = .ref a ∧ H2 a = some (.ins C dx fs) ∧ Cls K C ∧ NoAttr K C f ∧ fs.length < 1000 ∧
  D.nx σ (upd H2 a (.ins C dx (putF f y fs)))
section
variable {X : Cx} {o e value : Expr} {f : Str} {pos pos' tpos : Pos} {ta tv : TE}
theorem pe_fld (he : PE X e ta) (hb : attributeBase e f X.env (eval e X.env) = eval e X.env) : PE X (.Attribute e f pos) (tFld X.K ta f) := by
  intro pins s σ H Q I h
  refine attr_of hb (thn (he pins s σ H _ I h) fun u s1 ⟨x, H1, I1, rx, a, C, dx, fs, v, ex, ea, c, n, l, q⟩ => ?_)
  subst ex
  obtain rfl : u = Value.ref a := rx
  exact getattr_ok I1 ea c n l fun u' s2 I2 ru => ⟨v, H1, I2, ru, q⟩
theorem ps_fld (ha : PE X o ta) (hv : PE X value tv) (hs : swapsWith value (some (.Attribute o f pos')) pos.line X.env = pure false) : PS X (.Assign [.Attribute o f pos'] value pos) (sFld X.K ta tv f) := by
  intro pins s σ H D I h
  refine plainObj_wpAny_Assign_Attribute (thn (hv pins s σ H _ I h) fun u s1 ⟨y, H1, I1, ry, q⟩ => thn (ha pins s1 σ H1 _ I1 q) fun ov s2 ⟨x, H2, I2, rx, a, C, dx, fs, ex, ea, c, n, l, q2⟩ => ?_) hs
  subst ex
  obtain rfl : ov = Value.ref a := rx
  exact setattr_ok I2 ea c n l ry fun s3 I3 => ⟨σ, _, I3, q2⟩
end
section
variable {X : Cx} {pins : List (Addr × Obj)} {σ : St} {H : Hp} {s : Shared} {A : Around} {E : Value → Shared → Prop} {Q : Value → Shared → Prop} {c : Value} {b : Bool}
inductive TyOf (K : PySem.W.Frag) (H : Hp) : V → Value → Prop where
  | non : TyOf K H .non (.type "NoneType")
  | bl (x : Bool) : TyOf K H (.bl x) (.type "bool")
  | int (i : Int) : TyOf K H (.int i) (.type "int")
  | str (x : Str) : TyOf K H (.str x) (.type "str")
  | flt (x : UInt64) : TyOf K H (.flt x) (.type "float")
  | lst {a : Addr} {xs : List V} (e : H a = some (.lst xs)) : TyOf K H (.ref a) (.type "list")
  | frz {a : Addr} {o : Obj} {xs : List V} (e : H a = some (.frz o (.lst xs))) : TyOf K H (.ref a) (.type "list")
  | tup {a : Addr} {xs : List V} (e : H a = some (.tup xs)) : TyOf K H (.ref a) (.type "tuple")
  | dK {a : Addr} {kvs : List (Key × V)} (e : H a = some (.dK kvs)) : TyOf K H (.ref a) (.type "dict")
  | dT {a : Addr} {kvs : List (List Key × V)} (e : H a = some (.dT kvs)) : TyOf K H (.ref a) (.type "dict")
  | ins {a C dx : Addr} {fs : List (Str × V)} (e : H a = some (.ins C dx fs)) (cl : Cls K C) (ha : PySem.W.findIn K (.ref C) "__class__" = some (some (.builtin "object.__class__")))
      (hn : PySem.W.specialIn K (.builtin "object.__class__") "__get__" = some (some (.builtin "getset_descriptor.__get__"))) (htk : PySem.W.takesIn K (.builtin "object.__class__") = some true)
      (hm : PySem.W.mroIn K C (.type "object") = some true) : TyOf K H (.ref a) (.ref C)
theorem isinst_ok {x : V} {u t : Value} (I : Inv X pins σ H s) (rx : RelV x u) (ty : TyOf X.K H x t) (e : PySem.W.kitOne X.K t c = some b) (h : ∀ tk, Q (.bool b) { s with toks := tk }) :
    wpAny (model X.prog X.w) A (call (.builtin "isinstance") [u, c]) Q E s := by
  cases ty with
  | non => cases (show u = Value.none from rx); exact PySem.W.kia_one PySem.W.kitx_none I.kIn True.intro e (fun z => nomatch z) h
  | bl y => cases (show u = Value.bool y from rx); exact PySem.W.kia_one PySem.W.kitx_bool I.kIn True.intro e (fun z => nomatch z) h
  | int i => obtain ⟨t, q⟩ := (show ∃ t, u = Value.int i t from rx); cases q; exact PySem.W.kia_one PySem.W.kitx_int I.kIn True.intro e (fun z => nomatch z) h
  | str y => obtain ⟨t, q⟩ := (show ∃ t, u = Value.str y t from rx); cases q; exact PySem.W.kia_one PySem.W.kitx_str I.kIn True.intro e (fun z => nomatch z) h
  | flt y => obtain ⟨t, q⟩ := (show ∃ t, u = Value.float y t from rx); cases q; exact PySem.W.kia_one PySem.W.kitx_float I.kIn True.intro e (fun z => nomatch z) h
  | @lst a xs ea =>
    cases (show u = Value.ref a from rx)
    obtain ⟨_, _, n, _, h1⟩ := (show ObjOk X.prog X.w H s.heap a (.lst xs) from I.hok a _ ea)
    exact PySem.W.kia_one PySem.W.kitx_list I.kIn ⟨_, h1, rfl⟩ e (fun z => nomatch z) h
  | @frz a ob xs ea =>
    cases (show u = Value.ref a from rx)
    obtain ⟨_, _, _, n, _, h1⟩ := (show ObjOk X.prog X.w H s.heap a (.frz ob (.lst xs)) from I.hok a _ ea)
    exact PySem.W.kia_one PySem.W.kitx_list I.kIn ⟨_, h1, rfl⟩ e (fun z => nomatch z) h
  | @tup a xs ea =>
    cases (show u = Value.ref a from rx)
    obtain ⟨_, _, _, p⟩ := (show ObjOk X.prog X.w H s.heap a (.tup xs) from I.hok a _ ea)
    obtain ⟨o, h1, h2, _⟩ := p
    exact PySem.W.kia_one PySem.W.kitx_tuple I.kIn ⟨o, h1, h2⟩ e (fun z => nomatch z) h
  | @dK a kvs ea =>
    cases (show u = Value.ref a from rx)
    obtain ⟨_, _, vs, _, p⟩ := (show ObjOk X.prog X.w H s.heap a (.dK kvs) from I.hok a _ ea)
    obtain ⟨o, es, ep, h1, h2, _⟩ := p
    exact PySem.W.kia_one PySem.W.kitx_dict I.kIn ⟨o, h1, h2.1⟩ e (fun z => nomatch z) h
  | @dT a kvs ea =>
    cases (show u = Value.ref a from rx)
    obtain ⟨_, _, xs, _, o, es, ep, h1, h2, _⟩ := (show ObjOk X.prog X.w H s.heap a (.dT kvs) from I.hok a _ ea)
    exact PySem.W.kia_one PySem.W.kitx_dict I.kIn ⟨o, h1, h2.1⟩ e (fun z => nomatch z) h
  | @ins a C dx fs ea cl ha hn htk hm =>
    cases (show u = Value.ref a from rx)
    obtain ⟨mA, O, _⟩ := ins_get I.hok ea
    obtain ⟨od, J, _⟩ := O.look
    exact PySem.W.kia_one (PySem.W.kitx_own (cl.get _) cl.hd ha hn htk hm) I.kIn J e (fun z => nomatch z) h
end
end L2
namespace L2
open PySem PySem.Spec PyProof.Rows
structure Room (k : Nat) (A : Around) : Prop where
  hd : A.handled = none
  dp : A.depth + 3 * k + 5 < recursionLimit
  un : A.units + 16 * k + 200 < cLine
  gd : A.guards = some []
theorem Room.mono {j k : Nat} {A : Around} (r : Room k A) (h : j ≤ k) : Room j A := ⟨r.hd, by have := r.dp; omega, by have := r.un; omega, r.gd⟩
theorem Room.deeper {k : Nat} {A : Around} (r : Room (k + 1) A) (env : Env) : Room k (A.deeper env) :=
  ⟨r.hd, by have := r.dp; show A.depth + 1 + 3 * k + 5 < _; omega, by have := r.un; show A.units + 3 + 16 * k + 200 < _; omega, r.gd⟩
theorem make_depth {A : Around} {C : Addr} {us : List Value} {kw : List (Str × Value)} : (A.under (.builtin "type.__call__" ⟨.ref C :: us, kw⟩)).depth = A.depth + 1 := by
  first | rfl | simp [Around.under, Code.weight, Code.isCreation, Code.isGuard, Code.isCaller, Code.frames, Code.isFrame, guardIds]
theorem make_units {A : Around} {C : Addr} {us : List Value} {kw : List (Str × Value)} : (A.under (.builtin "type.__call__" ⟨.ref C :: us, kw⟩)).units = A.units + 1 := by
  first | rfl | simp [Around.under, Code.cUnits, Code.frames, Code.isFrame]
theorem make_guards {A : Around} {C : Addr} {us : List Value} {kw : List (Str × Value)} : (A.under (.builtin "type.__call__" ⟨.ref C :: us, kw⟩)).guards = A.guards := by
  first | rfl | (cases h : A.guards <;> simp [Around.under, Code.guards, Code.isGuard, guardIds, pushGuards, h])
theorem Room.make {k : Nat} {A : Around} (r : Room (k + 1) A) (C : Addr) (us : List Value) (kw : List (Str × Value)) : Room k (A.under (.builtin "type.__call__" ⟨.ref C :: us, kw⟩)) :=
  ⟨r.hd, by have := r.dp; rw [make_depth]; omega, by have := r.un; rw [make_units]; omega, by rw [make_guards]; exact r.gd⟩
theorem Room.depth {k : Nat} {A : Around} (r : Room k A) : A.depth < recursionLimit := by have := r.dp; omega
theorem Room.units {k : Nat} {A : Around} (r : Room k A) : A.units + 64 < cLine := by have := r.un; omega
def tNil : TA := fun _ H Q => Q [] H
def tCons (ta : TE) (tr : TA) : TA := fun σ H Q => ta σ H fun x H1 => tr σ H1 fun xs H2 => Q (x :: xs) H2
section
variable {X : Cx} {e : Expr} {es : List Expr} {te : TE} {t : TA} {pos : Pos}
theorem pa_nil : PA X [] tNil := fun _ _ _ _ H Q I h => Calls.spliced_nil ⟨[], H, I, .nil, h⟩
theorem pa_cons (ha : PE X e te) (hr : PA X es t) (hs : starEach (e :: es) X.env = (false, eval e X.env) :: starEach es X.env := by rfl) : PA X (e :: es) (tCons te t) := by
  intro pos pins s σ H Q I h
  rw [hs]
  show wpAny _ _ (spliced ((false, eval e X.env) :: backTo pos (starEach es X.env))) _ _ s
  refine Calls.spliced_cons (thn (ha pins s σ H _ I h) fun u s1 ⟨x, H1, I1, r1, q1⟩ => ?_)
  exact thn (hr pos pins s1 σ H1 _ I1 q1) fun us s2 ⟨xs, H2, I2, r2, q2⟩ => ⟨x :: xs, H2, I2, .cons r1 r2, q2⟩
def tTup (t : TA) : TE := fun σ H Q => t σ H fun xs H1 => xs.length ≤ sizeLine ∧ ∀ p, H1 p = none → Q (.ref p) (upd H1 p (.tup xs))
def tLst (t : TA) : TE := fun σ H Q => t σ H fun xs H1 => xs.length ≤ sizeLine ∧ ∀ p, H1 p = none → Q (.ref p) (upd H1 p (.lst xs))
theorem pe_tup {x1} (h : PA X es t) : PE X (.Tuple es x1 pos) (tTup t) := by
  intro pins s σ H Q I hq
  refine wpAny_Tuple_spliced (thn (h pos pins s σ H _ I hq) fun us s1 ⟨xs, H1, I1, r, z, q⟩ => ⟨by rw [← r.length]; exact z, ?_⟩)
  have hf : H1 s1.heap.objs.size = none := I1.hok.fresh (Nat.le_refl _)
  refine ⟨.ref s1.heap.objs.size, upd H1 s1.heap.objs.size (.tup xs), I1.laid (t' := s1.toks) (fun b u e => Heap.get?_push_of_some _ e) (Nat.le_refl _) ?_, rfl, q _ hf⟩
  exact ⟨z, us, r, ⟨_, Heap.get?_push_size _ rfl, rfl, _, rfl⟩⟩
theorem pe_lst (h : PA X es t) : PE X (.List es pos) (tLst t) := by
  intro pins s σ H Q I hq
  refine wpAny_List_spliced (thn (h pos pins s σ H _ I hq) fun us s1 ⟨xs, H1, I1, r, z, q⟩ => ⟨by rw [← r.length]; exact z, ?_⟩)
  have hf : H1 s1.heap.objs.size = none := I1.hok.fresh (Nat.le_refl _)
  refine ⟨.ref s1.heap.objs.size, upd H1 s1.heap.objs.size (.lst xs), I1.laid (t' := s1.toks) (fun b u e => Heap.get?_push_of_some _ e) (Nat.le_refl _) ?_, rfl, q _ hf⟩
  exact ⟨z, us, 0, r, Heap.get?_push_size _ rfl⟩
end
abbrev Sp := List V → Hp → VK → XK → Prop
abbrev CXT := List Env → Hp → Shared → XK → Value → Shared → Prop
structure Env0 (P : Program) (w : World) (K : PySem.W.Frag) (mg : Str → Option Value) (base : Heap) (A : Around) (outer : List Env) (s : Shared) (H : Hp) : Prop where
  frames : A.frames = some outer
  mod : Mod K mg base
  bs : ∀ b o, base.get? b = some o → s.heap.get? b = some o ∧ H b = none
  bsz : base.objs.size ≤ s.heap.objs.size
  funs : s.heap.FunFrames base outer
  frf : ∀ b ∈ frs outer, H b = none
  hok : HOk P w H s.heap
  bare : AllBare s.gens
def CE (outer : List Env) (P : Program) (w : World) (H : Hp) (s : Shared) (Q : VK) (u : Value) (s' : Shared) : Prop :=
  ∃ v H', s'.os = s.os ∧ AllBare s'.gens ∧ Un (frs outer) [] H H' s.heap s'.heap ∧ HOk P w H' s'.heap ∧ RelV v u ∧ Q v H'
def CR (CX : CXT) (outer : List Env) (P : Program) (w : World) (H : Hp) (s : Shared) (Q : VK) (E : XK) (r : Result) (s' : Shared) : Prop :=
  match r with
  | .ok (.ret u) => CE outer P w H s Q u s'
  | .ok _ => False
  | .error e => CX outer H s E e s'
structure FnOk (P : Program) (w : World) (K : PySem.W.Frag) (mg : Str → Option Value) (base : Heap) (CX : CXT) (k : Nat) (f : Addr) (fd : FuncData) (ps : List Str) (sp : Sp) : Prop where
  len : ∀ vs H Q E, sp vs H Q E → vs.length = ps.length
  run : ∀ (A : Around) (outer : List Env) (s : Shared) (H : Hp) (args : Args) (us : List Value) (vs : List V) (Q : VK) (E : XK), Room k A → Env0 P w K mg base A outer s H → BindsTo s fd args (ps.zip us) → Vals vs us → sp vs H Q E →
    codeAny (model P w) A (.call (.ref f) args) (CR CX outer P w H s Q E) s
theorem FnOk.mono {P : Program} {w : World} {K : PySem.W.Frag} {mg : Str → Option Value} {base : Heap} {CX : CXT} {j k : Nat} {f : Addr} {fd : FuncData} {ps : List Str} {sp : Sp} (F : FnOk P w K mg base CX j f fd ps sp) (h : j ≤ k) :
    FnOk P w K mg base CX k f fd ps sp := ⟨F.len, fun A outer s H args us vs Q E hr => F.run A outer s H args us vs Q E (hr.mono h)⟩
theorem Env0.make {P : Program} {w : World} {K : PySem.W.Frag} {mg : Str → Option Value} {base : Heap} {A : Around} {outer : List Env} {s : Shared} {H : Hp} (e : Env0 P w K mg base A outer s H) (C : Addr) (us : List Value) (kw : List (Str × Value)) :
    Env0 P w K mg base (A.under (.builtin "type.__call__" ⟨.ref C :: us, kw⟩)) outer s H := ⟨by first | exact e.frames | (simpa [Around.under, Code.envs, Code.isFrame, pushEnvs] using e.frames), e.mod, e.bs, e.bsz, e.funs, e.frf, e.hok, e.bare⟩
section
variable {X : Cx} {pins : List (Addr × Obj)} {σ : St} {H : Hp} {s s' : Shared}
theorem Inv.env0 (I : Inv X pins σ H s) : Env0 X.prog X.w X.K X.mg X.base X.A X.stack s H :=
  ⟨I.ok.frames, I.ok.mod, I.bs, Nat.le_trans I.ok.bsz I.sz, I.stack, I.stkFree, I.hok, I.bare⟩
theorem Inv.after {Q : VK} {u : Value} (I : Inv X pins σ H s) (h : CE X.stack X.prog X.w H s Q u s') : EP X pins σ Q u s' := by
  obtain ⟨v, H', os, bare, un, hok, r, q⟩ := h
  obtain ⟨hh, g, d, t, os'⟩ := s'
  obtain rfl : os' = s.os := os
  exact ⟨v, H', I.call (h' := hh) (g' := g) (d' := d) (t' := t) (ch := []) un hok bare (fun b z => absurd z (by simp)), r, q⟩
end
def tCall (sp : Sp) (dvs : List V) (E : XK) (t : TA) : TE := fun σ H Q => t σ H fun vs H1 => sp (vs ++ dvs) H1 Q E
def tMake (C : Addr) (sp : Sp) (dvs : List V) (E : XK) (t : TA) : TE := fun σ H Q => t σ H fun vs H1 => ∀ x dx, H1 x = none → H1 dx = none → dx ≠ x →
  sp (.ref x :: (vs ++ dvs)) (upd (upd H1 dx (.own x)) x (.ins C dx [])) (fun v H2 => v = .non ∧ Q (.ref x) H2) E
def Binds (K : PySem.W.Frag) (fd : FuncData) (ps : List Str) (ds : List Value) : Prop :=
  ∀ (s : Shared) (us : List Value), K.In s.heap → (us ++ ds).length = ps.length → BindsTo s fd ⟨us, []⟩ (ps.zip (us ++ ds))
theorem Binds.all {K : PySem.W.Frag} {fd : FuncData} {ps : List Str} (h : ∀ us : List Value, us.length = ps.length → bindArgs fd ⟨us, []⟩ = pure (ps.zip us)) : Binds K fd ps [] := fun s us _ hl => by
  rw [List.append_nil] at hl ⊢
  exact .of_eq (h us hl)
def Passes (CX : CXT) (X : Cx) (E : XK) : Prop := ∀ (pins : List (Addr × Obj)) (σ : St) (H : Hp) (s : Shared) (e : Value) (s' : Shared), Inv X pins σ H s → CX X.stack H s E e s' → X.xe e s'
section
variable {X : Cx} {CX : CXT} {k : Nat} {f C : Addr} {fd : FuncData} {ps : List Str} {sp : Sp} {dvs : List V} {ds : List Value} {E : XK} {x m : Str} {p pos apos : Pos} {e o : Expr} {es : List Expr} {ta : TE} {t : TA}
theorem run_fn {pins : List (Addr × Obj)} {σ : St} {H : Hp} {s : Shared} {Q : VK} {us : List Value} {vs : List V} (F : FnOk X.prog X.w X.K X.mg X.base CX k f fd ps sp) (hr : Room k X.A) (hb : Binds X.K fd ps ds) (hd : Vals dvs ds) (hx : Passes CX X E)
    (I : Inv X pins σ H s) (r : Vals vs us) (h : sp (vs ++ dvs) H Q E) : wpAny (model X.prog X.w) X.A (call (.ref f) us) (EP X pins σ Q) X.xe s := by
  have r2 : Vals (vs ++ dvs) (us ++ ds) := r.append hd
  have hl : (us ++ ds).length = ps.length := by rw [← r2.length]; exact F.len _ _ _ _ h
  refine wpAny_call (codeAny_mono (F.run X.A X.stack s H ⟨us, []⟩ (us ++ ds) (vs ++ dvs) Q E hr I.env0 (hb s us I.kIn hl) r2 h) fun r s' hq => ?_)
  cases r with
  | error e => exact hx pins σ H s e s' I hq
  | ok fl =>
    cases fl with
    | ret u => exact I.after hq
    | next => exact False.elim hq
    | brk => exact False.elim hq
    | cont => exact False.elim hq
theorem pe_call (F : FnOk X.prog X.w X.K X.mg X.base CX k f fd ps sp) (hr : Room k X.A) (hg : Gl X x) (hm : X.mg x = some (.ref f)) (hk : PySem.W.keepIn X.K (.ref f) = true) (hb : Binds X.K fd ps ds) (hd : Vals dvs ds) (hx : Passes CX X E)
    (ha : PA X (e :: es) t) (hdb : (x == ("__debug__" : Str)) = false := by decide) (he : starEach (e :: es) X.env = (false, eval e X.env) :: starEach es X.env := by rfl) (hpl : (backTo pos (starEach es X.env)).any (·.1) = false := by rfl) :
    PE X (.Call (.Name x p) (e :: es) [] pos) (tCall sp dvs E t) := by
  intro pins s σ H Q I h
  refine wpAny_Call_Name_kw (ld_glob I hg hm ?_ hdb)
  refine PySem.W.callWith_K (h₀ := X.base) I.ok.mod.kin hk (thn (ha pos pins s σ H _ I h) fun us s1 ⟨vs, H1, I1, r, q⟩ => ⟨I1.kIn, ?_⟩) he hpl
  exact run_fn F hr hb hd hx I1 r q
structure Mk (K : PySem.W.Frag) (C f : Addr) : Prop where
  makes : PySem.W.makesIn K C = true
  init : PySem.W.findIn K (.ref C) "__init__" = some (some (.ref f))
  fn : PySem.W.isFn K (.ref f) = true
  kp : PySem.W.keepIn K (.ref C) = true
theorem run_make {pins : List (Addr × Obj)} {σ : St} {H : Hp} {s : Shared} {Q : VK} {us : List Value} {vs : List V} (M : Mk X.K C f) (F : FnOk X.prog X.w X.K X.mg X.base CX k f fd ps sp) (hr : Room (k + 1) X.A) (hb : Binds X.K fd ps ds) (hd : Vals dvs ds)
    (hx : Passes CX X E) (I : Inv X pins σ H s) (r : Vals vs us)
    (h : ∀ x dx, H x = none → H dx = none → dx ≠ x → sp (.ref x :: (vs ++ dvs)) (upd (upd H dx (.own x)) x (.ins C dx [])) (fun v H2 => v = .non ∧ Q (.ref x) H2) E) :
    wpAny (model X.prog X.w) X.A (call (.ref C) us) (EP X pins σ Q) X.xe s := by
  have hq := h (s.heap.objs.size + 1) s.heap.objs.size (I.hok.fresh (Nat.le_succ _)) (I.hok.fresh (Nat.le_refl _)) (Nat.ne_of_lt (Nat.lt_succ_self _))
  have I2 := Inv.made (C := C) I
  have r2 : Vals (V.ref (s.heap.objs.size + 1) :: (vs ++ dvs)) (Value.ref (s.heap.objs.size + 1) :: (us ++ ds)) := .cons rfl (r.append hd)
  have hl : (Value.ref (s.heap.objs.size + 1) :: us ++ ds).length = ps.length := by
    have e := r2.length
    rw [F.len _ _ _ _ hq] at e
    exact e.symm
  refine wpAny_call (make_map (f := f) I.kIn M.makes M.init (beq_iff_eq.mp M.fn) (codeAny_mono (F.run _ X.stack _ _ ⟨Value.ref (s.heap.objs.size + 1) :: us, []⟩ (Value.ref (s.heap.objs.size + 1) :: (us ++ ds)) _ _ E (hr.make C us [])
    (I2.env0.make C us []) (hb _ (Value.ref (s.heap.objs.size + 1) :: us) I2.kIn hl) r2 hq) fun r s' hq' => ?_))
  cases r with
  | error e => exact hx pins σ _ _ e s' I2 hq'
  | ok fl =>
    cases fl with
    | ret u =>
      obtain ⟨v, H', I3, rv, ev, q3⟩ := I2.after hq'
      subst ev
      exact ⟨rv, ⟨V.ref (s.heap.objs.size + 1), H', I3, rfl, q3⟩⟩
    | next => exact False.elim hq'
    | brk => exact False.elim hq'
    | cont => exact False.elim hq'
theorem pe_make (M : Mk X.K C f) (F : FnOk X.prog X.w X.K X.mg X.base CX k f fd ps sp) (hr : Room (k + 1) X.A) (hg : Gl X x) (hm : X.mg x = some (.ref C)) (hb : Binds X.K fd ps ds) (hd : Vals dvs ds) (hx : Passes CX X E)
    (ha : PA X (e :: es) t) (hdb : (x == ("__debug__" : Str)) = false := by decide) (he : starEach (e :: es) X.env = (false, eval e X.env) :: starEach es X.env := by rfl) (hpl : (backTo pos (starEach es X.env)).any (·.1) = false := by rfl) :
    PE X (.Call (.Name x p) (e :: es) [] pos) (tMake C sp dvs E t) := by
  intro pins s σ H Q I h
  refine wpAny_Call_Name_kw (ld_glob I hg hm ?_ hdb)
  refine PySem.W.callWith_K (h₀ := X.base) I.ok.mod.kin M.kp (thn (ha pos pins s σ H _ I h) fun us s1 ⟨vs, H1, I1, r, q⟩ => ⟨I1.kIn, ?_⟩) he hpl
  exact run_make M F hr hb hd hx I1 r q
end
section
variable {X : Cx} {CX : CXT} {k : Nat} {f C : Addr} {fd : FuncData} {ps ks : List Str} {sp : Sp} {E : XK} {x m : Str} {p pos apos kpos : Pos} {e o : Expr} {es : List Expr} {kws : List Keyword} {te ta : TE} {t tk : TA} {nm : Option Str}
variable {g : List Value → List Value → List Value} {gV : List V → List V → List V}
end
structure FnScope (N P : List Str) (sc : Scope) : Prop where
  kind : sc.kind = .function
  co : sc.isCoroutine = false
  gen : sc.isGenerator = false
  nd : N.Nodup
  pre : N.take P.length = P
  par : ∀ x ∈ P, sc.names.lookup x = some .local ∨ sc.names.lookup x = some .cell
  nofree : ∀ y ∈ sc.names, y.2 ≠ .free
theorem bindL_out {kindOf : Str → Option NameKind} {x : Str} : ∀ {binds : List (Str × Value)} {m : Str → Option Value}, (∀ v, (x, v) ∉ binds) → bindL kindOf binds m x = m x
  | [], _, _ => rfl
  | (n, v) :: r, m, h => by
    unfold bindL
    rw [bindL_out fun w hw => h w (List.mem_cons_of_mem _ hw)]
    split
    · have : x ≠ n := by rintro rfl; exact h v List.mem_cons_self
      simp [this]
    · rfl
theorem bindC_out {kindOf : Str → Option NameKind} {x : Str} : ∀ {binds : List (Str × Value)} {m : Str → Option Value}, (∀ v, (x, v) ∉ binds) → bindC kindOf binds m x = m x
  | [], _, _ => rfl
  | (n, v) :: r, m, h => by
    unfold bindC
    rw [bindC_out fun w hw => h w (List.mem_cons_of_mem _ hw)]
    split
    · rfl
    · have : x ≠ n := by rintro rfl; exact h v List.mem_cons_self
      simp [this]
theorem bindL_get {kindOf : Str → Option NameKind} {x : Str} {v : Value} : ∀ {P : List Str} {vs : List Value} {i : Nat} {m : Str → Option Value}, P.Nodup → P[i]? = some x → vs[i]? = some v → kindOf x = some .local →
    bindL kindOf (P.zip vs) m x = some v
  | [], _, _, _, _, h, _, _ => by simp at h
  | _ :: _, [], _, _, _, _, h, _ => by simp at h
  | p :: P, w :: vs, 0, m, nd, h1, h2, hk => by
    simp at h1 h2; subst h1; subst h2
    show bindL kindOf ((p, w) :: P.zip vs) m p = _
    unfold bindL
    rw [bindL_out fun v hv => (List.nodup_cons.mp nd).1 (List.of_mem_zip hv).1, if_pos hk]
    simp
  | p :: P, w :: vs, i + 1, m, nd, h1, h2, hk => by
    show bindL kindOf ((p, w) :: P.zip vs) m x = _
    unfold bindL
    exact bindL_get (i := i) (List.nodup_cons.mp nd).2 (by simpa using h1) (by simpa using h2) hk
theorem bindC_get {kindOf : Str → Option NameKind} {x : Str} {v : Value} : ∀ {P : List Str} {vs : List Value} {i : Nat} {m : Str → Option Value}, P.Nodup → P[i]? = some x → vs[i]? = some v → kindOf x ≠ some .local →
    bindC kindOf (P.zip vs) m x = some v
  | [], _, _, _, _, h, _, _ => by simp at h
  | _ :: _, [], _, _, _, _, h, _ => by simp at h
  | p :: P, w :: vs, 0, m, nd, h1, h2, hk => by
    simp at h1 h2; subst h1; subst h2
    show bindC kindOf ((p, w) :: P.zip vs) m p = _
    unfold bindC
    rw [bindC_out fun v hv => (List.nodup_cons.mp nd).1 (List.of_mem_zip hv).1, if_neg hk]
    simp
  | p :: P, w :: vs, i + 1, m, nd, h1, h2, hk => by
    show bindC kindOf ((p, w) :: P.zip vs) m x = _
    unfold bindC
    exact bindC_get (i := i) (List.nodup_cons.mp nd).2 (by simpa using h1) (by simpa using h2) hk
def start (N : List Str) (vs : List V) : St := vs.map some ++ List.replicate (N.length - vs.length) none
def cxOf (CX : CXT) (P : Program) (w : World) (K : PySem.W.Frag) (mg : Str → Option Value) (base : Heap) (N : List Str) (qual : Str) (scope : Scope) (f : Addr) (cd : Value) (A : Around) (outer : List Env) (s : Shared) (H : Hp) (E : XK) : Cx where
  prog := P
  w := w
  K := K
  mg := mg
  base := base
  A := A.deeper (envOfC qual scope s.heap.objs.size f cd)
  N := N
  s₀ := s
  H₀ := H
  env := envOfC qual scope s.heap.objs.size f cd
  outer := outer
  stack := envOfC qual scope s.heap.objs.size f cd :: outer
  ex := []
  calm := true
  fn := fun _ => true
  pn := []
  xe := fun e s' => wpAny (model P w) (A.deeper (envOfC qual scope s.heap.objs.size f cd)) (leaving (envOfC qual scope s.heap.objs.size f cd) e) (fun _ s'' => CX outer H s E e s'') (fun e' s'' => CX outer H s E e' s'') s'
theorem cell_has {sc : Scope} {n : Nat} {x : Str} (h : sc.names.lookup x = some .cell) : ∃ c, (cellsFrom n sc.names []).lookup x = some c := by
  have q := PySem.W.cellsFrom_some sc.names n [] (.inl h)
  exact Option.isSome_iff_exists.mp q
theorem inv_start {CX : CXT} {P : Program} {w : World} {K : PySem.W.Frag} {mg : Str → Option Value} {base : Heap} {N ps : List Str} {qual : Str} {scope : Scope} {f : Addr} {cd : Value} {A : Around} {outer : List Env} {s s1 : Shared} {H : Hp} {E : XK} {us : List Value} {vs : List V}
    (S : FnScope N ps scope) (hd : A.handled = none) (e0 : Env0 P w K mg base A outer s H) (hl : vs.length = ps.length) (r : Vals vs us)
    (x : InCallC s s.heap.objs.size (bindL (envOfC qual scope s.heap.objs.size f cd).kindOf (ps.zip us) fun _ => none) (cellsFrom (s.heap.objs.size + 1) scope.names []) (bindC (envOfC qual scope s.heap.objs.size f cd).kindOf (ps.zip us) fun _ => none) s1) :
    Inv (cxOf CX P w K mg base N qual scope f cd A outer s H E) [] (start N vs) H s1 := by
  have hpl : ps.length ≤ N.length := by have := congrArg List.length S.pre; rw [List.length_take] at this; omega
  obtain ⟨h1, tk, rfl, hk⟩ := x.done
  have noA : ∀ b : Addr, b ∉ (cxOf CX P w K mg base N qual scope f cd A outer s H E).ex := fun b z => absurd (show b ∈ ([] : List Addr) from z) (by simp)
  refine ⟨⟨e0.mod, S.kind, rfl, rfl, Nat.le_refl _, fun y z c h1 h2 => ?_, fun y hy => ?_, fun y c _ h => ?_, fun _ => hd, Around.frames_deeper e0.frames, .inr ⟨rfl, rfl⟩, fun b z => absurd z (noA b), e0.bs, e0.bsz, fun b _ _ => noA b, fun b z => absurd z (noA b), e0.funs, e0.frf⟩,
    rfl, e0.bare, Un.kept hk, ⟨_, x.toInCall.ns, fun i y v h1 h2 h3 => ?_⟩, fun y c h => ⟨_, x.cell y c h⟩, e0.hok.fresh (Nat.le_refl _), fun y c h => ?_, fun p hp => absurd (show p ∈ ([] : List (Addr × Obj)) from hp) (by simp), e0.hok.kept hk, ?_⟩
  · exact name_of_addr x.apart (PySem.mem_of_lookup h1) (PySem.mem_of_lookup h2)
  · have hy : scope.names.lookup y = some .cell ∨ scope.names.lookup y = some .free := hy
    rcases hy with hy | hy
    · exact cell_has hy
    · exact absurd rfl (S.nofree _ (PySem.mem_of_lookup hy))
  · exact Nat.le_of_lt (x.above y c (PySem.mem_of_lookup h))
  · have hi : i < vs.length := by
      unfold start at h2
      by_cases hi : i < vs.length
      · exact hi
      · rw [List.getElem?_append_right (by simpa using hi)] at h2
        rw [List.getElem?_replicate] at h2
        split at h2 <;> cases h2
    have ha : vs[i]? = some v := by
      unfold start at h2
      rw [List.getElem?_append_left (by simpa using hi), List.getElem?_map] at h2
      cases e : vs[i]? with
      | none => rw [e] at h2; cases h2
      | some a => rw [e] at h2; cases h2; rfl
    obtain ⟨u, hu, rv⟩ := r.get ha
    have hp : ps[i]? = some y := by
      rw [← S.pre, List.getElem?_take_of_lt (by omega)]; exact h1
    have ndP : ps.Nodup := by rw [← S.pre]; exact S.nd.sublist (List.take_sublist _ _)
    refine ⟨u, rv, ?_⟩
    rcases S.par y (List.mem_of_getElem? hp) with k | k
    · exact .inl ⟨k, bindL_get ndP hp hu k⟩
    · obtain ⟨c, e⟩ := cell_has (n := s.heap.objs.size + 1) k
      refine .inr ⟨.inl k, c, e, ?_⟩
      have q := x.cell y c e
      rw [bindC_get ndP hp hu (by show scope.names.lookup y ≠ _; rw [k]; decide)] at q
      exact q
  · exact e0.hok.fresh (Nat.le_of_lt (x.above y c (PySem.mem_of_lookup h)))
  · unfold start
    show _ = N.length
    rw [List.length_append, List.length_map, List.length_replicate]
    omega
theorem fn_of {CX : CXT} {P : Program} {w : World} {K : PySem.W.Frag} {mg : Str → Option Value} {base : Heap} {k : Nat} {f : Addr} {name qual : Str} {params : Arguments} {body : List Stmt} {scope : Scope} {dV kV doc pm cdv ct oc : Value} {an od : Option Addr}
    {osl : Array (Option Value)} {N ps : List Str} {sp : Sp} (lk : K.lookup f = some ⟨oc, od, .func (PySem.W.fnOf name qual params body scope dV kV doc pm an cdv ct), osl⟩) (hcd : PySem.W.codeIn K cdv qual = true) (S : FnScope N ps scope)
    (len : ∀ vs H Q E, sp vs H Q E → vs.length = ps.length)
    (hbody : ∀ (A : Around) (outer : List Env) (s : Shared) (H : Hp) (vs : List V) (Q : VK) (E : XK), Room k (A.deeper (envOfC qual scope s.heap.objs.size f cdv)) → sp vs H Q E →
      ∃ t, PSs (cxOf CX P w K mg base N qual scope f cdv A outer s H E) body t ∧ t { nx := fun _ H' => Q .non H', rt := Q } (start N vs) H) :
    FnOk P w K mg base CX (k + 1) f (PySem.W.fnOf name qual params body scope dV kV doc pm an cdv ct) ps sp := by
  refine ⟨len, fun A outer s H args us vs Q E hr e0 hb r hsp => ?_⟩
  have hl := len _ _ _ _ hsp
  have KX : K.In s.heap := e0.mod.kin.keeps fun b o e => (e0.bs b o e).1
  have lim : s.heap.NoLimit := e0.mod.nolimit.keeps fun b o e => (e0.bs b o e).1
  have hkind : ∀ y ∈ ps.zip us, scope.names.lookup y.1 = some .local ∨ (scope.names.lookup y.1 = some .cell ∧ ((cellsFrom (s.heap.objs.size + 1) scope.names []).lookup y.1).isSome = true) := fun ⟨n, v⟩ hy => by
    rcases S.par n (List.of_mem_zip hy).1 with q | q
    · exact .inl q
    · exact .inr ⟨q, PySem.W.cellsFrom_some _ _ _ (.inl q)⟩
  refine codeAny_call_function hr.depth (KX _ _ lk) rfl S.co S.gen rfl (PySem.W.codeRec_of KX hcd) (hb _ _ _ _ ?_)
  refine wpAny_newFunctionEnv_cells S.kind hkind fun env he s1 x => ?_
  subst he
  refine ⟨lim.keeps x.toInCall.keep, codeAny_func ?_⟩
  obtain ⟨t, ht, hq⟩ := hbody A outer s H vs Q E (hr.deeper _) hsp
  have I : Inv (cxOf CX P w K mg base N qual scope f cdv A outer s H E) [] (start N vs) H s1 := inv_start S hr.hd e0 hl r x
  refine wpAny_mono (ht [] s1 (start N vs) H _ I hq) (fun fl s' hs => ?_) fun e s' hs => hs
  have fin : ∀ {σ' : St} {H' : Hp} {v : V} {u : Value}, Inv (cxOf CX P w K mg base N qual scope f cdv A outer s H E) [] σ' H' s' → RelV v u → Q v H' → CE outer P w H s Q u s' :=
    fun {σ' H' v u} J rv q => ⟨v, H', J.os, J.bare, J.base, J.hok, rv, q⟩
  cases fl with
  | ret u =>
    obtain ⟨v, σ', H', J, rv, q⟩ := hs
    exact fin J rv q
  | next =>
    obtain ⟨σ', H', J, q⟩ := hs
    exact fin (v := V.non) (u := Value.none) J rfl q
  | brk =>
    obtain ⟨_, _, _, q⟩ := hs
    exact False.elim q
  | cont =>
    obtain ⟨_, _, _, q⟩ := hs
    exact False.elim q
end L2
namespace L2
open PySem PySem.Spec PyProof.Rows
section
variable {X : Cx} {x : Str} {p pos : Pos} {e : Expr} {es : List Expr} {t : TA} {id T : String} {r : List V → Hp → VK → Prop}
def tCB (r : List V → Hp → VK → Prop) (t : TA) : TE := fun σ H Q => t σ H fun vs H1 => r vs H1 Q
theorem pe_callB (hc : CallR X (.builtin id) r) (hg : Gl X x) (hm : X.mg x = none) (hv : bootBuiltins x = some (.builtin id)) (ha : PA X (e :: es) t) (hn : x ≠ "__name__" := by decide) (hdb : (x == ("__debug__" : Str)) = false := by decide)
    (he : starEach (e :: es) X.env = (false, eval e X.env) :: starEach es X.env := by rfl) (hpl : (backTo pos (starEach es X.env)).any (·.1) = false := by rfl) : PE X (.Call (.Name x p) (e :: es) [] pos) (tCB r t) := by
  intro pins s σ H Q I h
  refine wpAny_Call_Name_kw (ld_blt I hg hm hv ?_ hn hdb)
  exact PyProof.Rows.callWith_builtin1 (thn (ha pos pins s σ H _ I h) fun us s1 ⟨vs, H1, I1, r1, q1⟩ => hc pins s1 σ H1 vs us Q I1 r1 q1) he hpl
theorem pe_callTy (hc : CallR X (.type T) r) (hg : Gl X x) (hm : X.mg x = none) (hv : bootBuiltins x = some (.type T)) (ha : PA X (e :: es) t) (hn : x ≠ "__name__" := by decide) (hdb : (x == ("__debug__" : Str)) = false := by decide)
    (he : starEach (e :: es) X.env = (false, eval e X.env) :: starEach es X.env := by rfl) (hpl : (backTo pos (starEach es X.env)).any (·.1) = false := by rfl) : PE X (.Call (.Name x p) (e :: es) [] pos) (tCB r t) := by
  intro pins s σ H Q I h
  refine wpAny_Call_Name_kw (ld_blt I hg hm hv ?_ hn hdb)
  exact PyProof.Rows.callWith_type1 (thn (ha pos pins s σ H _ I h) fun us s1 ⟨vs, H1, I1, r1, q1⟩ => hc pins s1 σ H1 vs us Q I1 r1 q1) he hpl
end
end L2
namespace HT
open PySem PyProof.Rows
section
open PySem.SeqAt
open PySem.AutoSeq1 (wpAny_loadPart')
open PySem.MeetsSeq PySem.MeetsSeq2 PySem.MeetsSeq3
end
section
variable {prog : Program} {w : World} {A : Around} {E : Value → Shared → Prop} {s : Shared}
theorem cat_tup {t b : Addr} {vs ws : List Value} {Q : Value → Shared → Prop} (ht : IsTup s.heap t vs.toArray) (hb : IsTup s.heap b ws.toArray) (hv : vs ≠ [])
    (h1 : ws = [] → Q (.ref t) s) (h2 : ws ≠ [] → Q (.ref s.heap.objs.size) { s with heap := s.heap.push { cls := .type "tuple", data := .seq (vs ++ ws).toArray } })
    (hsz : vs.length + ws.length ≤ sizeLine) : wpAny (model prog w) A (binaryOp .Add (.ref t) (.ref b)) Q E s := by
  obtain ⟨⟨cls, dd, data, sl⟩, ho, hc, n, hd⟩ := id ht
  obtain ⟨⟨cls2, dd2, data2, sl2⟩, ho2, hc2, n2, hd2⟩ := id hb
  simp only at hc hd hc2 hd2
  subst hc hd hc2 hd2
  have e : vs.toArray ++ ws.toArray = (vs ++ ws).toArray := by simp
  by_cases hw : ws = []
  · exact concat_meets ⟨_, ho, rfl⟩ ⟨_, ho2, rfl⟩ noFill_tuple_add seq_tuple_add PySem.F.slot_tuple_add PySem.F.entry_tuple_add (PySem.F.args_tuple_add_2 _ _)
      (tuple_addW1 t b vs.toArray ws.toArray n n2 dd dd2 sl sl2 (by simpa using hv) (by simp [hw])) ⟨ho, ho2, h1 hw⟩
  · refine concat_meets ⟨_, ho, rfl⟩ ⟨_, ho2, rfl⟩ noFill_tuple_add seq_tuple_add PySem.F.slot_tuple_add PySem.F.entry_tuple_add (PySem.F.args_tuple_add_2 _ _)
      (tuple_addW2 t b vs.toArray ws.toArray n n2 dd dd2 sl sl2 (by simpa using hv) (by simpa using hw) (by rw [List.size_toArray, List.size_toArray]; exact hsz)) ⟨ho, ho2, ?_⟩
    rw [e]
    exact h2 hw
def sIx (n d : Nat) : Option Int → Nat
  | none => d
  | some v => if v < 0 then (v + (n : Int)).toNat else min v.toNat n
theorem sIx_none (n d : Nat) : sIx n d none = d := rfl
theorem sIx_nat (n d k : Nat) : sIx n d (some (k : Int)) = min k n := by
  show (if (k : Int) < 0 then ((k : Int) + (n : Int)).toNat else min (k : Int).toNat n) = min k n
  rw [if_neg (by omega), Int.toNat_natCast]
theorem sIx_le (n d : Nat) (hd : d ≤ n) (o : Option Int) : sIx n d o ≤ n := by
  cases o with
  | none => exact hd
  | some v =>
    show (if v < 0 then (v + (n : Int)).toNat else min v.toNat n) ≤ n
    by_cases hv : v < 0
    · rw [if_pos hv]; omega
    · rw [if_neg hv]; exact Nat.min_le_right _ _
theorem clip_eq (v : Int) (n d : Nat) : (if v < 0 then max (v + (n : Int)) 0 else min v (n : Int)) = ((sIx n d (some v) : Nat) : Int) := by
  show (if v < 0 then max (v + (n : Int)) 0 else min v (n : Int)) = (((if v < 0 then (v + (n : Int)).toNat else min v.toNat n) : Nat) : Int)
  by_cases hv : v < 0
  · simp only [if_pos hv]; omega
  · simp only [if_neg hv]; omega
theorem adjust_gen (lo hi : Option Int) (n : Nat) : Builtin.Slice.sliceAdjust lo hi 1 (n : Int) = (((sIx n 0 lo : Nat) : Int), ((sIx n n hi : Nat) : Int)) := by
  have h1 : ¬ ((1 : Int) < 0) := by omega
  unfold Builtin.Slice.sliceAdjust
  simp only [h1, if_false]
  refine Prod.ext ?_ ?_
  · cases lo with
    | none => rfl
    | some v => exact clip_eq v n 0
  · cases hi with
    | none => rfl
    | some v => exact clip_eq v n n
theorem places_gen (i j : Nat) : Builtin.Slice.slicePlaces (i : Int) (j : Int) 1 = j - i := by
  unfold Builtin.Slice.slicePlaces
  have h1 : (1 : Int) > 0 := by omega
  simp only [h1, if_true, Int.ediv_one]
  split <;> omega
theorem slicePart_ {v : Value} {o : Option Int} {Q : Option Int → Shared → Prop} (p : IsPart v o) (h : Q o s) : wpAny (model prog w) A (Builtin.Slice.slicePartIndex v) Q E s := by
  cases p with
  | none => exact slicePart_none h
  | int i t => exact slicePart_int h
theorem sliceApplied_gen {sl : Addr} {vl vu : Value} {lo hi : Option Int} {n : Nat} {Q : Int × Int × Nat → Shared → Prop} (hs : s.heap.IsSliceOf sl vl vu .none) (pl : IsPart vl lo) (pu : IsPart vu hi)
    (h : Q (((sIx n 0 lo : Nat) : Int), 1, sIx n n hi - sIx n 0 lo) s) : wpAny (model prog w) A (Builtin.Slice.sliceApplied (.ref sl) (pure (n : Int))) Q E s := by
  obtain ⟨os, hos, hcs, hds⟩ := id hs
  unfold Builtin.Slice.sliceApplied Builtin.Slice.sliceFields
  refine wpAny_bind (wpAny_bind (wpAny_field hos hds (x := vl) rfl (wpAny_bind (wpAny_field hos hds (x := vu) rfl (wpAny_bind (wpAny_field hos hds (x := .none) rfl (wpAny_pure ?_)))))))
  refine wpAny_bind (slicePart_none ?_)
  show wpAny _ _ (if ((1 : Int) == 0) = true then _ else _) _ _ s
  rw [if_neg (by decide)]
  refine wpAny_bind (slicePart_ pl (wpAny_bind (slicePart_ pu (wpAny_bind (wpAny_pure ?_)))))
  show wpAny _ _ (match Builtin.Slice.sliceAdjust lo hi 1 (n : Int) with | (lo, hi) => pure (lo, (1 : Int), Builtin.Slice.slicePlaces lo hi 1)) _ _ s
  rw [adjust_gen lo hi n]
  show wpAny _ _ (pure (((sIx n 0 lo : Nat) : Int), (1 : Int), Builtin.Slice.slicePlaces ((sIx n 0 lo : Nat) : Int) ((sIx n n hi : Nat) : Int) 1)) _ _ s
  rw [places_gen]
  exact wpAny_pure h
theorem pick_gen (xs : Array Value) (i k : Nat) : ((List.range k).filterMap fun (m : Nat) => xs[((i : Int) + (m : Int) * 1).toNat]?).toArray = ((xs.toList.drop i).take k).toArray := by
  have e : (fun (m : Nat) => xs[((i : Int) + (m : Int) * 1).toNat]?) = fun m => xs[i + m]? := by
    funext m
    have : ((i : Int) + (m : Int) * 1).toNat = i + m := by omega
    rw [this]
  rw [e]
  have := pick_run xs i k
  rw [List.filterMap_map] at this
  have e2 : ((fun x => xs[x]?) ∘ fun x => i + x) = fun m => xs[i + m]? := rfl
  rw [e2] at this
  rw [this]
theorem getItem_tuple_cut {t sl : Addr} {items : Array Value} {vl vu : Value} {lo hi : Option Int} {Q : Value → Shared → Prop} (ht : IsTup s.heap t items) (hs : s.heap.IsSliceOf sl vl vu .none) (pl : IsPart vl lo) (pu : IsPart vu hi)
    (hw : ¬ (sIx items.size 0 lo = 0 ∧ sIx items.size items.size hi = items.size))
    (h : Q (.ref s.heap.objs.size) { s with heap := s.heap.push { cls := .type "tuple", data := .seq ((items.toList.drop (sIx items.size 0 lo)).take (sIx items.size items.size hi - sIx items.size 0 lo)).toArray } })
    (hsz : items.size ≤ sizeLine) : wpAny (model prog w) A (getItem (.ref t) (.ref sl)) Q E s := by
  have htake : sizeOk (.seq ((items.toList.drop (sIx items.size 0 lo)).take (sIx items.size items.size hi - sIx items.size 0 lo)).toArray) := by
    show ((items.toList.drop (sIx items.size 0 lo)).take (sIx items.size items.size hi - sIx items.size 0 lo)).toArray.size ≤ sizeLine
    rw [List.size_toArray, List.length_take, List.length_drop, Array.length_toList]
    omega
  have hj : sIx items.size items.size hi ≤ items.size := sIx_le _ _ (Nat.le_refl _) hi
  obtain ⟨os, hos, hcs, hds⟩ := id hs
  have hTs : s.TypeIs (.ref sl) "slice" := ⟨os, hos, hcs⟩
  unfold getItem
  try with_reducible refine wpAny_holding ?_
  first | refine wpAny_bind (wpAny_pure ?_) | skip
  refine wpAny_bind (wpAny_sequenceKey ht.typeIs (by decide) ?_)
  refine wpAny_bind (wpAny_callSpecial?_slot (name := Str.ofString "__getitem__") ht.typeIs PyProof.Rows.slot_tuple_getitem
    (wpAny_call_entry PyProof.Rows.slot_tuple_getitem ht.typeIs entry_tuple_getitem ?_ (args_tuple_getitem _ _)))
  show wpAny _ _ (Builtin.Tuple.tupleItemsOf (.ref t) >>= _) _ _ s
  refine wpAny_bind (tupleItemsOf_ ht ?_)
  refine wpAny_bind (wpAny_typeOf hTs ?_)
  rw [if_pos (by decide)]
  refine wpAny_bind (sliceApplied_gen hs pl pu ?_)
  have hno : ¬ ((((sIx items.size 0 lo : Nat) : Int) == 0 && (1 : Int) == 1 && (sIx items.size items.size hi - sIx items.size 0 lo) == items.size) = true) := by
    intro q
    rw [Bool.and_eq_true, Bool.and_eq_true] at q
    have q1 : ((sIx items.size 0 lo : Nat) : Int) = 0 := eq_of_beq q.1.1
    have q2 : sIx items.size items.size hi - sIx items.size 0 lo = items.size := eq_of_beq q.2
    exact hw ⟨by omega, by omega⟩
  show wpAny _ _ (if (((sIx items.size 0 lo : Nat) : Int) == 0 && (1 : Int) == 1 && (sIx items.size items.size hi - sIx items.size 0 lo) == items.size) = true then _ else _) _ _ s
  rw [if_neg hno, pick_gen]
  first
    | exact wpAny_bind (m := Builtin.Tuple.tupleExact _) (wpAny_newObj_type (wpAny_pure ⟨_, rfl, wpAny_pure h⟩) htake)
    | exact wpAny_bind (m := Builtin.Tuple.tupleExact _) (wpAny_newObj_type (wpAny_bind (wpAny_pure (wpAny_pure ⟨_, rfl, wpAny_pure h⟩))) htake)
    | exact wpAny_bind (wpAny_bind (m := Builtin.Tuple.tupleExact _) (wpAny_newObj_type (wpAny_pure (wpAny_pure ⟨_, rfl, wpAny_pure h⟩)) htake))
    | exact wpAny_bind (wpAny_bind (m := Builtin.Tuple.tupleExact _) (wpAny_newObj_type (wpAny_pure ⟨_, rfl, wpAny_pure h⟩) htake))
end
end HT
namespace L2
open PySem PySem.Spec PyProof.Rows
abbrev TO := St → Hp → (Option Int → Hp → Prop) → Prop
def PO (X : Cx) (e : Option Expr) (t : TO) : Prop :=
  ∀ (pins : List (Addr × Obj)) (s : Shared) (σ : St) (H : Hp) (Q : Option Int → Hp → Prop), Inv X pins σ H s → t σ H Q →
    wpAny (model X.prog X.w) X.A (evalPart e X.env) (fun u s' => ∃ o H', Inv X pins σ H' s' ∧ IsPart u o ∧ Q o H') X.xe s
def tNoPart : TO := fun _ H Q => Q none H
def tPart (t : TE) : TO := fun σ H Q => t σ H fun x H1 => ∃ i, x = .int i ∧ Q (some i) H1
section
variable {X : Cx} {e : Expr} {te : TE} {lo hi : Option Expr} {tl th : TO} {pos p2 : Pos}
theorem po_none : PO X none tNoPart := by
  intro pins s σ H Q I h
  rw [evalPart_none]
  exact wpAny_pure ⟨none, H, I, .none, h⟩
theorem po_some (h : PE X e te) : PO X (some e) (tPart te) := by
  intro pins s σ H Q I hw
  rw [evalPart_some]
  refine thn (h pins s σ H _ I hw) fun u s1 ⟨x, H1, I1, r1, q1⟩ => ?_
  obtain ⟨i, rfl, q⟩ := q1
  obtain ⟨t, rfl⟩ := r1
  exact ⟨some i, H1, I1, .int i t, q⟩
def SlR (X : Cx) (r : V → Option Int → Option Int → Hp → VK → Prop) : Prop :=
  ∀ (pins : List (Addr × Obj)) (s : Shared) (σ : St) (H : Hp) (x : V) (v vl vu : Value) (lo hi : Option Int) (sl : Addr) (Q : VK), Inv X pins σ H s → RelV x v → s.heap.IsSliceOf sl vl vu .none → IsPart vl lo → IsPart vu hi → r x lo hi H Q →
    ∃ T id, typeLookup (.type T) "__getitem__" = pure (some (.builtin id)) ∧ s.TypeIs v T ∧ wpAny (model X.prog X.w) X.A (getItem v (.ref sl)) (EP X pins σ Q) X.xe s
def tSl (r : V → Option Int → Option Int → Hp → VK → Prop) (te : TE) (tl th : TO) : TE := fun σ H Q => te σ H fun x H1 => tl σ H1 fun l H2 => th σ H2 fun u H3 => r x l u H3 Q
theorem pe_slice {r : V → Option Int → Option Int → Hp → VK → Prop} (hr : SlR X r) (he : PE X e te) (hl : PO X lo tl) (hu : PO X hi th) : PE X (.Subscript e (.Slice lo hi none p2) pos) (tSl r te tl th) := by
  intro pins s σ H Q I h
  refine Subscript_ (thn (he pins s σ H _ I h) fun v s1 ⟨x, H1, I1, r1, q1⟩ => ?_)
  refine wpAny_Slice (thn (hl pins s1 σ H1 _ I1 q1) fun vl s2 ⟨l, H2, I2, pl, q2⟩ => thn (hu pins s2 σ H2 _ I2 q2) fun vu s3 ⟨u, H3, I3, pu, q3⟩ => ?_)
  rw [evalPart_none]
  refine wpAny_pure ?_
  have I4 : Inv X pins σ H3 { s3 with heap := s3.heap.push { cls := .type "slice", data := .fields #[vl, vu, .none] } } := I3.kept (t' := s3.toks) fun b ob q => Heap.get?_push_of_some _ q
  obtain ⟨T, id, hT, ht, hg⟩ := hr pins { s3 with heap := s3.heap.push { cls := .type "slice", data := .fields #[vl, vu, .none] } } σ H3 x v vl vu l u s3.heap.objs.size Q I4 r1 (Heap.IsSliceOf.new ..) pl pu q3
  show wpAny (model X.prog X.w) X.A (subscriptTail e (.Slice lo hi none p2) v (.ref s3.heap.objs.size)) (EP X pins σ Q) X.xe { s3 with heap := s3.heap.push { cls := .type "slice", data := .fields #[vl, vu, .none] } }
  exact tail_any (ops := [.ref s3.heap.objs.size, v]) ht hT hg (by with_unfolding_all rfl)
def cutV (xs : List V) (lo hi : Option Int) : List V := (xs.drop (HT.sIx xs.length 0 lo)).take (HT.sIx xs.length xs.length hi - HT.sIx xs.length 0 lo)
theorem cutV_length (xs : List V) (lo hi : Option Int) : (cutV xs lo hi).length ≤ xs.length := by
  unfold cutV
  rw [List.length_take, List.length_drop]
  omega
def rSlT (K : PySem.W.Frag) : V → Option Int → Option Int → Hp → VK → Prop := fun x lo hi H Q => ∃ a xs, x = .ref a ∧ SqT K H a xs ∧
  ¬ (HT.sIx xs.length 0 lo = 0 ∧ HT.sIx xs.length xs.length hi = xs.length) ∧ ∀ p, H p = none → Q (.ref p) (upd H p (.tup (cutV xs lo hi)))
theorem sl_tup : SlR X (rSlT X.K) := by
  intro pins s σ H x v vl vu lo hi sl Q I rx hs pl pu h
  obtain ⟨a, xs, rfl, hx, hw, q⟩ := h
  cases rx
  obtain ⟨its, r, ht, hz⟩ := I.tuple hx
  have hlen : its.toArray.size = xs.length := by rw [List.size_toArray]; exact r.length.symm
  refine ⟨"tuple", _, PyProof.Rows.slot_tuple_getitem.lookup, ht.typeIs, ?_⟩
  refine HT.getItem_tuple_cut ht hs pl pu (by rw [hlen]; exact hw) ?_ (by rw [hlen]; exact hz)
  rw [hlen]
  refine ⟨.ref s.heap.objs.size, _, I.laid (t' := s.toks) (o := .tup (cutV xs lo hi)) (fun b ob q => Heap.get?_push_of_some _ q) (Nat.le_refl _) ?_, rfl, q _ (I.hok.fresh (Nat.le_refl _))⟩
  exact ⟨Nat.le_trans (cutV_length xs lo hi) hz, _, (r.drop (HT.sIx xs.length 0 lo)).take (HT.sIx xs.length xs.length hi - HT.sIx xs.length 0 lo), IsTup.new _ _⟩
def rCatT (K : PySem.W.Frag) : R2 := fun x y H Q => ∃ a b xs ys, x = .ref a ∧ y = .ref b ∧ SqT K H a xs ∧ SqT K H b ys ∧ xs ≠ [] ∧ xs.length + ys.length ≤ sizeLine ∧
  (ys = [] → Q (.ref a) H) ∧ (ys ≠ [] → ∀ p, H p = none → Q (.ref p) (upd H p (.tup (xs ++ ys))))
theorem Vals.nil_iff {xs : List V} {us : List Value} (r : Vals xs us) : us = [] ↔ xs = [] := by
  cases r with
  | nil => simp
  | cons _ _ => simp
theorem op_catT : OpR X (binaryOp .Add) (rCatT X.K) := by
  intro pins s σ H x y v u Q I rx ry h
  obtain ⟨a, b, xs, ys, rfl, rfl, ha, hb, hx, hz, q1, q2⟩ := h
  cases rx
  cases ry
  obtain ⟨its, r1, p1, _⟩ := I.tuple ha
  obtain ⟨its2, r2, p2, _⟩ := I.tuple hb
  refine HT.cat_tup p1 p2 (fun z => hx (r1.nil_iff.mp z)) (fun z => ⟨.ref a, H, I, rfl, q1 (r2.nil_iff.mp z)⟩) (fun z => ?_) (by rw [← r1.length, ← r2.length]; exact hz)
  refine ⟨.ref s.heap.objs.size, _, I.laid (t' := s.toks) (o := .tup (xs ++ ys)) (fun b ob q => Heap.get?_push_of_some _ q) (Nat.le_refl _) ?_, rfl, q2 (fun w => z (r2.nil_iff.mpr w)) _ (I.hok.fresh (Nat.le_refl _))⟩
  exact ⟨by rw [List.length_append]; exact hz, _, r1.append r2, IsTup.new _ _⟩
end
end L2
namespace L2
open PySem PySem.Spec PyProof.Rows
def ixN (n : Nat) (i : Int) : Option Nat := if 0 ≤ i then (if i < n then some i.toNat else none) else if -(n : Int) ≤ i then some (i + n).toNat else none
def atI {α : Type} (xs : List α) (i : Int) : Option α := (ixN xs.length i).bind fun j => xs[j]?
theorem ixN_seq {n : Nat} {i : Int} {j : Nat} (h : ixN n i = some j) : seqIndex? i n = some j ∧ j < n ∧ -(n : Int) ≤ i ∧ i < n := by
  unfold ixN at h
  by_cases h0 : 0 ≤ i
  · rw [if_pos h0] at h
    by_cases h1 : i < n
    · rw [if_pos h1] at h
      have e : i.toNat = j := Option.some.inj h
      exact ⟨by rw [seqIndex_of h0 h1, e], by omega, by omega, h1⟩
    · rw [if_neg h1] at h; cases h
  · rw [if_neg h0] at h
    by_cases h1 : -(n : Int) ≤ i
    · rw [if_pos h1] at h
      have e : (i + n).toNat = j := Option.some.inj h
      exact ⟨by rw [seqIndex_neg (by omega) h1, e], by omega, h1, by omega⟩
    · rw [if_neg h1] at h; cases h
theorem atI_get {α : Type} {xs : List α} {i : Int} {v : α} (h : atI xs i = some v) : ∃ j, seqIndex? i xs.length = some j ∧ xs[j]? = some v ∧ j < xs.length ∧ -(xs.length : Int) ≤ i ∧ i < xs.length := by
  unfold atI at h
  cases e : ixN xs.length i with
  | none => rw [e] at h; cases h
  | some j =>
    rw [e] at h
    obtain ⟨h1, h2, h3, h4⟩ := ixN_seq e
    exact ⟨j, h1, h, h2, h3, h4⟩
theorem atI_nat {α : Type} {xs : List α} {j : Nat} {v : α} (h : xs[j]? = some v) : atI xs (j : Int) = some v := by
  have hj : j < xs.length := (List.getElem?_eq_some_iff.mp h).1
  have e : ixN xs.length (j : Int) = some j := by
    unfold ixN
    rw [if_pos (by omega), if_pos (by omega)]; simp
  unfold atI; rw [e]; exact h
def PlainIx (b : Expr) : Prop := ∀ o i, subscripted b false o i = operate [o, i] (getItem o i)
def IxR (X : Cx) (r : R2) : Prop :=
  ∀ (value slice : Expr) (pins : List (Addr × Obj)) (s : Shared) (σ : St) (H : Hp) (x y : V) (v u : Value) (Q : VK), Inv X pins σ H s → RelV x v → RelV y u → r x y H Q →
    subscripted slice false v u = operate [v, u] (getItem v u) → wpAny (model X.prog X.w) X.A (subscriptTail value slice v u) (EP X pins σ Q) X.xe s
def MtR (X : Cx) (id : String) (r : V → List V → Hp → VK → Prop) : Prop :=
  ∀ (pins : List (Addr × Obj)) (s : Shared) (σ : St) (H : Hp) (x : V) (xs : List V) (v : Value) (us : List Value) (Q : VK), Inv X pins σ H s → RelV x v → Vals xs us → r x xs H Q →
    wpAny (model X.prog X.w) X.A (call (.builtin id) (v :: us)) (EP X pins σ Q) X.xe s
section
variable {X : Cx} {a b : Expr} {ta tb : TE} {pos : Pos}
theorem pe_ix {r : R2} (hr : IxR X r) (ha : PE X a ta) (hb : PE X b tb) (hs : PlainIx b) : PE X (.Subscript a b pos) (tOp r ta tb) := by
  intro pins s σ H Q I h
  exact Subscript_ (binT ha hb I h fun v u s2 x y H2 I2 rx ry q => hr a b pins s2 σ H2 x y v u Q I2 rx ry q (hs _ _))
def rIxL (K : PySem.W.Frag) : R2 := fun x y H Q => ∃ p xs i v, x = .ref p ∧ y = .int i ∧ SqL K H p xs ∧ atI xs i = some v ∧ Q v H
def rIxT (K : PySem.W.Frag) : R2 := fun x y H Q => ∃ p xs i v, x = .ref p ∧ y = .int i ∧ SqT K H p xs ∧ atI xs i = some v ∧ Q v H
theorem ix_list : IxR X (rIxL X.K) := by
  intro value slice pins s σ H x y v u Q I rx ry h hs
  obtain ⟨p, xs, i, z, rfl, rfl, hq, he, q⟩ := h
  cases rx
  obtain ⟨t, rfl⟩ := ry
  obtain ⟨its, r, pl, hz⟩ := I.list hq
  obtain ⟨j, h1, h2, h3, h4, h5⟩ := atI_get he
  obtain ⟨w, ew, rw'⟩ := r.get h2
  have hl := r.length
  have hn := line63
  have fin : EP X pins σ Q w s := ⟨z, H, I, rw', q⟩
  by_cases h0 : 0 ≤ i
  · have hj : i.toNat = j := by
      rw [seqIndex_of h0 h5] at h1
      exact Option.some.inj h1
    exact item_listR pl.isList h0 (by omega) (by rw [hj]; simpa using ew) fin hs
  · have hj : (i + (its.toArray.size : Int)).toNat = j := by
      rw [seqIndex_neg (by omega) h4] at h1
      rw [List.size_toArray, ← hl]
      exact Option.some.inj h1
    exact subscriptTail_builtinR (x := w) pl.isList.typeIs slot_list_getitem.lookup
      (wpAny_getItem_list_neg (Q := fun r s' => r = w ∧ EP X pins σ Q r s') pl.isList (by omega) (by rw [List.size_toArray] <;> omega) (by omega) (by rw [hj]; simpa using ew) ⟨rfl, fin⟩) hs
theorem ix_tup : IxR X (rIxT X.K) := by
  intro value slice pins s σ H x y v u Q I rx ry h hs
  obtain ⟨p, xs, i, z, rfl, rfl, hq, he, q⟩ := h
  cases rx
  obtain ⟨t, rfl⟩ := ry
  obtain ⟨its, r, pl, hz⟩ := I.tuple hq
  obtain ⟨j, h1, h2, h3, h4, h5⟩ := atI_get he
  obtain ⟨w, ew, rw'⟩ := r.get h2
  have hl := r.length
  have hn := line63
  have fin : EP X pins σ Q w s := ⟨z, H, I, rw', q⟩
  exact subscriptTail_builtinR (x := w) pl.typeIs slot_tuple_getitem.lookup
    (getItem_tuple (j := j) (Q := fun r s' => r = w ∧ EP X pins σ Q r s') pl (by omega) (by omega) (by rw [List.size_toArray, ← hl]; exact h1) (by simpa using ew) ⟨rfl, fin⟩) hs
theorem mapSeq_set (its : List Value) (n j : Nat) (u : Value) : Obj.mapSeq (·.setIfInBounds j u) { cls := .type "list", data := .seq its.toArray n } = { cls := .type "list", data := .seq (its.set j u).toArray n } := by
  simp [Obj.mapSeq]
theorem Inv.lst {pins : List (Addr × Obj)} {σ : St} {H : Hp} {s : Shared} {p : Addr} {xs : List V} (I : Inv X pins σ H s) (h : H p = some (.lst xs)) :
    ∃ (its : List Value) (n : Nat), Vals xs its ∧ s.heap.get? p = some { cls := .type "list", data := .seq its.toArray n } ∧ xs.length ≤ sizeLine := by
  obtain ⟨z, its, n, r, e⟩ := I.hok p _ h
  exact ⟨its, n, r, e, z⟩
theorem Inv.lstUpd {pins : List (Addr × Obj)} {σ : St} {H : Hp} {s : Shared} {p : Addr} {xs ys : List V} {its its' : List Value} {n n' : Nat} {f : Obj → Obj} (I : Inv X pins σ H s) (h : H p = some (.lst xs))
    (ho : s.heap.get? p = some { cls := .type "list", data := .seq its.toArray n }) (hf : f { cls := .type "list", data := .seq its.toArray n } = { cls := .type "list", data := .seq its'.toArray n' }) (r : Vals ys its') (hz : ys.length ≤ sizeLine) (t : Nat) :
    Inv X pins σ (upd H p (.lst ys)) { s with heap := s.heap.update p f, toks := t } := by
  have e : (s.heap.update p f).get? p = some { cls := .type "list", data := .seq its'.toArray n' } := by
    rw [Heap.get?_update_self f ho (by rw [hf] <;> rfl), hf]
  refine I.write (x := p) (e := p) (by rw [h]; trivial) (.inl rfl) (fun b u hb q => (Heap.get?_update_other _ _ (Ne.symm hb)).trans q) ⟨_, e⟩ ?_
  exact ⟨hz, its', n', r, e⟩
def rSetL : V → V → V → Hp → (Hp → Prop) → Prop := fun o i v H Q => ∃ p xs k j, o = .ref p ∧ i = .int k ∧ H p = some (.lst xs) ∧ ixN xs.length k = some j ∧ Q (upd H p (.lst (xs.set j v)))
theorem set_list : PSet X rSetL := by
  intro pins s σ H o i v ov iv u Q I ro ri rv h
  obtain ⟨p, xs, k, j, rfl, rfl, hp, hj, q⟩ := h
  cases ro
  obtain ⟨t, rfl⟩ := ri
  obtain ⟨its, n, r, ho, hz⟩ := I.lst hp
  obtain ⟨h1, h2, h3, h4⟩ := ixN_seq hj
  have hl := r.length
  have hn := line63
  have I' : Inv X pins σ (upd H p (.lst (xs.set j v))) { s with heap := s.heap.update p (Obj.mapSeq (·.setIfInBounds j u)) } :=
    I.lstUpd hp ho (mapSeq_set its n j u) (r.set rv j) (by rw [List.length_set]; exact hz) s.toks
  by_cases h0 : 0 ≤ k
  · have hk : k.toNat = j := by
      rw [seqIndex_of h0 h4] at h1
      exact Option.some.inj h1
    exact PySem.W.ki_setAt ho h0 (by omega) (by rw [List.size_toArray, ← hl]; exact h4) (by rw [hk]; exact ⟨_, I', q⟩)
  · have hk : (k + (its.toArray.size : Int)).toNat = j := by
      rw [seqIndex_neg (by omega) h3] at h1
      rw [List.size_toArray, ← hl]
      exact Option.some.inj h1
    exact PySem.W.ki_setBack ho (by omega) (by rw [List.size_toArray, ← hl]; exact h3) (by omega) (by rw [hk]; exact ⟨_, I', q⟩)
theorem slice_bounds (lo hi : Option Int) (n : Nat) : (sliceBounds lo hi none n).1 = ((HT.sIx n 0 lo : Nat) : Int) ∧ (sliceBounds lo hi none n).2.1 = ((HT.sIx n n hi : Nat) : Int) ∧ (sliceBounds lo hi none n).2.2 = 1 := by
  refine ⟨?_, ?_, rfl⟩
  · cases lo with
    | none => simp [sliceBounds, HT.sIx]
    | some i =>
      simp only [sliceBounds, HT.sIx, Option.getD_none, show (1 : Int) > 0 by decide, if_true]
      by_cases h : i < 0
      · simp only [h, if_true] <;> omega
      · simp only [h, if_false] <;> omega
  · cases hi with
    | none => simp [sliceBounds, HT.sIx]
    | some i =>
      simp only [sliceBounds, HT.sIx, Option.getD_none, show (1 : Int) > 0 by decide, if_true]
      by_cases h : i < 0
      · simp only [h, if_true] <;> omega
      · simp only [h, if_false] <;> omega
theorem slicePick_cut (its : List Value) (lo hi : Option Int) : slicePick its.toArray lo hi none = ((its.drop (HT.sIx its.length 0 lo)).take (HT.sIx its.length its.length hi - HT.sIx its.length 0 lo)).toArray := by
  obtain ⟨h1, h2, h3⟩ := slice_bounds lo hi its.toArray.size
  unfold slicePick
  rw [h1, h2, h3]
  simp only [sliceRange_one, pick_run, List.size_toArray] <;> rfl
def rSlL (K : PySem.W.Frag) : V → Option Int → Option Int → Hp → VK → Prop := fun x lo hi H Q => ∃ a xs, x = .ref a ∧ SqL K H a xs ∧ ∀ p, H p = none → Q (.ref p) (upd H p (.lst (cutV xs lo hi)))
theorem sl_list : SlR X (rSlL X.K) := by
  intro pins s σ H x v vl vu lo hi sl Q I rx hs pl pu h
  obtain ⟨a, xs, rfl, hx, q⟩ := h
  cases rx
  obtain ⟨its, r, ht, hz⟩ := I.list hx
  have hlen := r.length
  refine ⟨"list", _, slot_list_getitem.lookup, ht.isList.typeIs, ?_⟩
  refine wpAny_getItem_list_slice ht.isList hs pl pu .none (by simp) ?_ (by rw [List.size_toArray] <;> omega)
  rw [slicePick_cut, ← hlen]
  refine ⟨.ref s.heap.objs.size, _, I.laid (t' := s.toks) (o := .lst (cutV xs lo hi)) (fun b ob q => Heap.get?_push_of_some _ q) (Nat.le_refl _) ?_, rfl, q _ (I.hok.fresh (Nat.le_refl _))⟩
  exact ⟨Nat.le_trans (cutV_length xs lo hi) hz, _, 0, (r.drop (HT.sIx xs.length 0 lo)).take (HT.sIx xs.length xs.length hi - HT.sIx xs.length 0 lo), Heap.get?_push_size _ rfl⟩
theorem call_len_seq : CallR X (.builtin "len") (fun xs H Q => ∃ p ys, xs = [.ref p] ∧ (SqL X.K H p ys ∨ SqT X.K H p ys) ∧ Q (.int ys.length) H) := by
  intro pins s σ H xs us Q I r h
  obtain ⟨p, ys, rfl, hq, q⟩ := h
  obtain ⟨u, rfl, rx⟩ := vals1 r
  cases rx
  have hn := line63
  rcases hq with hq | hq
  · obtain ⟨its, r', pl, hz⟩ := I.list hq
    have hlen := r'.length
    exact Calls.call_len_list pl.isList (by simp only [List.size_toArray] <;> omega) ⟨.int ys.length, H, I.tok _, ⟨s.toks + 1, by rw [List.size_toArray, hlen]⟩, q⟩
  · obtain ⟨its, r', pl, hz⟩ := I.tuple hq
    have hlen := r'.length
    exact len_tuple pl (by simp only [List.size_toArray] <;> omega) ⟨.int ys.length, H, I.tok _, ⟨s.toks + 1, by rw [List.size_toArray, hlen]⟩, q⟩
def tyV (K : PySem.W.Frag) (T : String) (x : V) (H : Hp) : Prop := match x with
  | .str _ => T = "str"
  | .int _ => T = "int"
  | .ref p => (T = "list" ∧ ∃ xs, SqL K H p xs) ∨ (T = "tuple" ∧ ∃ o, K.lookup p = some o ∧ o.cls = .type "tuple" ∧ o.dict = none) ∨
      (T = "dict" ∧ ((∃ kvs, H p = some (.dK kvs)) ∨ ∃ kvs, H p = some (.dT kvs))) ∨ (T = "set" ∧ ∃ S n, H p = some (.set S n))
  | _ => False
theorem tyV_is {pins : List (Addr × Obj)} {σ : St} {H : Hp} {s : Shared} {T : String} {x : V} {v : Value} (I : Inv X pins σ H s) (r : RelV x v) (ty : tyV X.K T x H) :
    s.TypeIs v T ∧ ∀ a, v = .ref a → ∃ ob, s.heap.get? a = some ob ∧ ob.dict = none := by
  cases x with
  | str z =>
    obtain ⟨t, rfl⟩ := r
    cases (show T = "str" from ty)
    exact ⟨typeIs_str s z t, fun _ e => nomatch e⟩
  | int i =>
    obtain ⟨t, rfl⟩ := r
    cases (show T = "int" from ty)
    exact ⟨typeIs_int s i t, fun _ e => nomatch e⟩
  | ref p =>
    cases r
    rcases ty with ⟨rfl, xs, hq⟩ | ⟨rfl, o, hk, hc, hd⟩ | ⟨rfl, hk⟩ | ⟨rfl, S, n, hk⟩
    · obtain ⟨its, _, pl, _⟩ := I.list hq
      refine ⟨pl.isList.typeIs, fun a e => ?_⟩
      cases e
      obtain ⟨o, n, e, c, hd, _⟩ := pl
      exact ⟨o, e, hd⟩
    · refine ⟨⟨o, I.kIn p o hk, hc⟩, fun a e => ?_⟩
      cases e
      exact ⟨o, I.kIn _ o hk, hd⟩
    · have z : ∃ o, s.heap.get? p = some o ∧ o.ExactDict := by
        rcases hk with ⟨kvs, hk⟩ | ⟨kvs, hk⟩
        · obtain ⟨_, _, _, _, o, _, _, e, ex, _⟩ := I.hok p _ hk
          exact ⟨o, e, ex⟩
        · obtain ⟨_, _, _, _, o, _, _, e, ex, _⟩ := I.hok p _ hk
          exact ⟨o, e, ex⟩
      obtain ⟨o, e, ex⟩ := z
      refine ⟨⟨o, e, ex.1⟩, fun a e2 => ?_⟩
      cases e2
      exact ⟨o, e, ex.2.1⟩
    · obtain ⟨o, _, _, _, e, ex, _⟩ := I.hok p _ hk
      refine ⟨⟨o, e, ex.1⟩, fun a e2 => ?_⟩
      cases e2
      exact ⟨o, e, ex.2.1⟩
  | _ => exact False.elim ty
def tBM (K : PySem.W.Frag) (T : String) (r : V → List V → Hp → VK → Prop) (to : TE) (t : TA) : TE := fun σ H Q => to σ H fun x H1 => tyV K T x H1 ∧ t σ H1 fun xs H2 => r x xs H2 Q
variable {o e : Expr} {es : List Expr} {to : TE} {t : TA} {name : Str} {apos cpos : Pos} {T id : String} {r : V → List V → Hp → VK → Prop}
theorem pe_bm (pa : PlainAttrs T) (slot : Slot T name id) (hty : typeOf (.builtin id) = pure (.type "method_descriptor")) (hm : MtR X id r) (ho : PE X o to) (ha : PA X (e :: es) t)
    (hbase : attributeBase o name X.env (eval o X.env) = eval o X.env := by rfl)
    (hfew : ((backTo cpos (starEach (e :: es) X.env)).all (fun x => !x.1) && (backToKw cpos (keywordEach [] X.env)).all (fun x => x.1.isSome)
      && decide ((e :: es).length + ([] : List Keyword).length + (if ([] : List Keyword).isEmpty then 0 else 1) < 30)) = true := by rfl)
    (hline : (apos.endLine == cpos.line) = true := by rfl) (hs : starEach (e :: es) X.env = (false, eval e X.env) :: starEach es X.env := by rfl) (hplain : (backTo cpos (starEach es X.env)).any (·.1) = false := by rfl) :
    PE X (.Call (.Attribute o name apos) (e :: es) [] cpos) (tBM X.K T r to t) := by
  intro pins s σ H Q I h
  refine wpAny_Call_method_late hbase hfew hline rfl (thn (ho pins s σ H _ I h) fun v s1 ⟨x, H1, I1, r1, ty, q1⟩ => ?_)
  obtain ⟨h1, h2⟩ := tyV_is I1 r1 ty
  refine ⟨T, id, pa, slot, hty, h1, h2, ?_⟩
  have hA := ha cpos pins s1 σ H1 _ I1 q1
  rw [hs] at hA ⊢
  refine Calls.callWith_builtin (by show (false || (backTo cpos (starEach es X.env)).any (·.1)) = false; rw [hplain] <;> rfl) (Calls.evalArgs_plain ?_)
  exact thn hA fun us s2 ⟨vs, H2, I2, r2, q2⟩ => hm pins s2 σ H2 x vs v us Q I2 r1 r2 q2
/- xs.append(e), list.index on a module's tuple .. are MtR facts of 06m -/
end
end L2
namespace L2
open PySem PySem.Spec PyProof.Rows
def MtM (X : Cx) (id : String) (r : V → List V → Hp → VK → Prop) : Prop :=
  ∀ (pins : List (Addr × Obj)) (s : Shared) (σ : St) (H : Hp) (x : V) (xs : List V) (v : Value) (us : List Value) (Q : VK), Inv X pins σ H s → RelV x v → Vals xs us → r x xs H Q →
    wpAny (model X.prog X.w) X.A (call (.builtin id) (v :: us)) (EP X pins σ Q) X.xe s
theorem Vals.one : ∀ {x : V} {us : List Value}, Vals [x] us → ∃ u, us = [u] ∧ RelV x u
  | _, _, .cons r .nil => ⟨_, rfl, r⟩
theorem Vals.two : ∀ {x y : V} {us : List Value}, Vals [x, y] us → ∃ u v, us = [u, v] ∧ RelV x u ∧ RelV y v
  | _, _, _, .cons r (.cons q .nil) => ⟨_, _, rfl, r, q⟩
section
variable {X : Cx} {pins : List (Addr × Obj)} {σ : St} {H : Hp} {s : Shared} {l b : Addr} {xs ys zs : List V}
theorem Inv.lset {its its' : List Value} {n : Nat} {f : Array Value → Array Value} {t' : Nat} (I : Inv X pins σ H s) (hH : H l = some (.lst xs))
    (e : s.heap.get? l = some { cls := .type "list", data := .seq its.toArray n }) (hf : f its.toArray = its'.toArray) (hv : Vals ys its') (hz : ys.length ≤ sizeLine) :
    Inv X pins σ (upd H l (.lst ys)) { s with heap := s.heap.update l (Obj.mapSeq f), toks := t' } := by
  have q := PySem.IsL.update e f
  rw [hf] at q
  refine I.write (x := l) (e := l) (by rw [hH]; exact trivial) (.inl rfl) (fun b' u hb hu => (Heap.get?_update_other s.heap (Obj.mapSeq f) (Ne.symm hb)).trans hu) ⟨_, q⟩ ?_
  exact ⟨hz, its', _, hv, q⟩
theorem Inv.lnew {its : List Value} {t' : Nat} (I : Inv X pins σ H s) (hv : Vals ys its) (hz : ys.length ≤ sizeLine) :
    Inv X pins σ (upd H s.heap.objs.size (.lst ys)) { s with heap := s.heap.push { cls := .type "list", data := .seq its.toArray }, toks := t' } :=
  I.laid (fun _ _ q => Heap.get?_push_of_some _ q) (Nat.le_refl _) ⟨hz, its, 0, hv, Heap.get?_push_size _ rfl⟩
theorem Inv.fresh (I : Inv X pins σ H s) : H s.heap.objs.size = none := I.hok.fresh (Nat.le_refl _)
theorem Inv.lstM (I : Inv X pins σ H s) (hH : H l = some (.lst xs)) : xs.length ≤ sizeLine ∧ ∃ (its : List Value) (n : Nat), Vals xs its ∧ xs.length = its.length ∧ s.heap.get? l = some { cls := .type "list", data := .seq its.toArray n } := by
  obtain ⟨z, its, n, r, e⟩ := I.hok l _ hH
  exact ⟨z, its, n, r, r.length, e⟩
end
section
variable {X : Cx}
def rAppend : V → List V → Hp → VK → Prop := fun x vs H Q => ∃ l xs y, x = .ref l ∧ vs = [y] ∧ H l = some (.lst xs) ∧ xs.length < sizeLine ∧ Q .non (upd H l (.lst (xs ++ [y])))
theorem mt_append : MtM X "list.append" rAppend := by
  intro pins s σ H x vs v us Q I rx rv h
  obtain ⟨l, xs, y, rfl, rfl, hH, hz, q⟩ := h
  cases rx
  obtain ⟨u, rfl, ru⟩ := rv.one
  obtain ⟨z, its, n, r, hl, e⟩ := I.lstM hH
  refine call_meets F.slot_list_append ⟨_, e, rfl⟩ F.entry_list_append (F.args_list_append_2 _ _) (PySem.list_append l its.toArray n u (by rw [List.size_toArray]; omega)) ⟨e, ?_⟩
  refine ⟨.non, _, I.lset (its' := its ++ [u]) hH e (by simp) (r.append (.cons ru .nil)) ?_, rfl, q⟩
  rw [List.length_append, List.length_singleton]
  omega
end
section
variable {prog : Program} {w : World} {A : Around} {E : Value → Shared → Prop} {s : Shared}
set_option maxRecDepth 100000 in
end
section
variable {X : Cx}
end
end L2
namespace Att
open PySem PySem.W PySem.Calls PyProof.Rows
theorem ints_of_wellAll {P : Params} {h : Heap} : ∀ (ns : List Int) (vs : List Value), WellAll P h vs (ns.map WData.int) → IntsAre vs ns := by
  intro ns
  induction ns with
  | nil =>
    intro vs w
    rw [List.map_nil] at w
    cases w
    exact .nil
  | cons n ns ih =>
    intro vs w
    rw [List.map_cons] at w
    cases w with
    | cons a b =>
      cases a
      exact .cons _ _ (ih _ b)
theorem script_of {l : OpenLaw} {n : Nat} (hn : l.most = some n) {P : Params} {h : Heap} {args : List WData} {vals : List Value}
    (hpre : l.row.toRowW.claim.pre args = true) (hwl : WellAll P h vals args) :
    ∃ a vs ns, vals = [Value.ref a] ∧ args = [WData.list (ns.map WData.int)] ∧ h.get? a = some { cls := .type "list", data := .seq vs.toArray } ∧ IntsAre vs ns ∧ ns.length ≤ n := by
  have hsh : WShape.hasAll [] args [.list .int] = true := (pre_splitW hpre).1
  have hc : l.pre.holds [] { args := args } = true := (pre_splitW hpre).2
  obtain ⟨d, r, rfl, h1, h2⟩ := hasAllW_cons hsh
  obtain rfl := hasAllW_nil h2
  obtain ⟨xs, rfl, h3⟩ := hasW_list h1
  obtain ⟨ns, rfl⟩ := items_int h3
  have hlen : ns.length ≤ n := by
    unfold OpenLaw.pre at hc
    have h4 : (WTm.not (.lt (.lit (.int (n : Int))) (.len (.arg 0)))).holds [] { args := [.list (ns.map .int)] } = true := by
      have h4 := (holds_andW hc).1
      rw [hn] at h4
      exact h4
    have h5 := condW_of h4 (w_not (w_lt w_lit (w_len_list (w_arg rfl))))
    rw [List.length_map] at h5
    refine Nat.le_of_not_lt fun q => ?_
    have q' : (n : Int) < ((ns.length : Nat) : Int) := by omega
    first
      | (rw [decide_eq_true q'] at h5; exact absurd h5 (by decide))
      | (simp at h5; omega)
  cases hwl with
  | cons w1 w2 =>
    cases w2
    cases w1 with
    | list ho hall => exact ⟨_, _, ns, rfl, rfl, ho, ints_of_wellAll ns _ hall, hlen⟩
theorem post_true (l : OpenLaw) (args : List WData) : l.row.toRowW.claim.post args (.bool true) args = true :=
  postW_of (r := l.row.toRowW) (X := (true == true))
    (show WShape.has [] (.bool true) .bool = true by first | rfl | decide | simp [WShape.has, WShape.arms, WShape.armsAll])
    (show (WTm.eq .res (.lit (.bool true))).value [] { args := args, res := some (.bool true), after := args } = some (.bool (true == true)) from w_eq_bool (w_res rfl) w_lit) rfl
theorem attach_call {l : OpenLaw} {n : Nat} {q : Program} {loose : List Str} {XP : (Str → Option Value) → Heap → Prop} {YP : World → Heap → Prop} {d : DefRec}
    (hn : l.most = some n) (hdf : d.params.defaults = [])
    (call : ∀ (w : World) (s₀ s₁ : Shared) (mg mb : Str → Option Value) (fa : Addr) (o : Obj) (pm cd doc : Value) (a : Addr) (vs : List Value) (ns : List Int),
      Ground q loose [] XP w s₀ mg mb s₁.heap → YP w s₁.heap →
      s₁.heap.get? fa = some o → o.data = .func (docDef d.name d.params d.body d.scope pm cd doc) → s₁.heap.CodeRec cd d.name → mg d.name = some (.ref fa) →
      s₁.heap.get? a = some { cls := .type "list", data := .seq vs.toArray } → IntsAre vs ns → ns.length ≤ n → s₁.gens = #[] →
      codeAny (model l.prog w) callerA (.call (.ref fa) ⟨[.ref a], []⟩) (fun r s' => r = .ok (.ret (.bool true)) ∧ OldK s₁.heap s'.heap ∧ s'.os = s₁.os ∧ AllBare s'.gens) s₁) :
    WalkO q loose XP YP l.row.toRowW d [] (fun f vs => PySem.call f vs) := by
  intro w s₀ s₁ mg mb G Y fa o pm cd doc dV kV ho hd hcd hD hmg hg args vals as hpre hlay hrd hwl hlo
  obtain rfl : dV = .none := Dflts.none hD hdf
  obtain rfl : kV = .none := Dflts.noKw hD
  obtain ⟨a, vs, ns, rfl, rfl, hobj, hints, hlen⟩ := script_of hn hpre hwl
  refine enter_call (codeAny_mono (call w s₀ s₁ mg mb fa o pm cd doc a vs ns G Y ho (fd_plain hd) hcd hmg hobj hints hlen hg) fun r s' hq => ?_)
  obtain ⟨rfl, h2, h3, h4⟩ := hq
  exact ⟨.inl ⟨.bool true, .bool true, [], rfl, fun _ => rfl, .bool true, post_true l _, fun _ => ⟨List.Pairwise.nil, fun _ hm => (nomatch hm)⟩⟩, h2, h3, h4⟩
section
variable {prog : Program} {w : World} {A : Around} {E : Value → Shared → Prop} {s : Shared} {K : Frag}
end
end Att
namespace L2
open PySem PySem.Spec PyProof.Rows
theorem vals_ints : ∀ {vs : List Value} {ns : List Int}, IntsAre vs ns → Vals (ns.map V.int) vs
  | _, _, .nil => .nil
  | _, _, .cons n t h => .cons ⟨t, rfl⟩ (vals_ints h)
def Only (H : Hp) : Prop := ∀ b, H b = none ∨ ∃ o xs, H b = some (.frz o (.lst xs))
theorem law_call {P : Program} {w : World} {K : PySem.W.Frag} {mg mb : Str → Option Value} {CX : CXT} {k : Nat} {fa a : Addr} {fd : FuncData} {x : Str} {sp : Sp} {s₁ : Shared} {vs : List Value} {ns : List Int}
    (KX : K.In s₁.heap) (hns : s₁.heap.Ns mainGlobals mg) (hb : s₁.heap.Ns builtinsNs mb) (hbb : ∀ x : Str, x ≠ "__name__" → mb x = bootBuiltins x) (hlim : s₁.heap.NoLimit) (hg : s₁.gens = #[])
    (ha : s₁.heap.get? a = some { cls := .type "list", data := .seq vs.toArray }) (hi : IntsAre vs ns) (hl : ns.length ≤ sizeLine) (hr : Room k callerA)
    (F : ∀ base : Heap, K.In base → base.Ns mainGlobals mg → FnOk P w K mg base CX k fa fd [x] sp) (hbind : ∀ (s : Shared) (u : Value), BindsTo s fd ⟨[u], []⟩ [(x, u)])
    (hsp : ∀ H : Hp, Only H → SqL K H a (ns.map V.int) → sp [.ref a] H (fun v _ => v = .bl true) fun _ _ _ => False)
    (hCX : ∀ H e s', CX [] H s₁ (fun _ _ _ => False) e s' → False) :
    codeAny (model P w) callerA (.call (.ref fa) ⟨[.ref a], []⟩) (fun r s' => r = .ok (.ret (.bool true)) ∧ OldK s₁.heap s'.heap ∧ s'.os = s₁.os ∧ AllBare s'.gens) s₁ := by
  have rv := vals_ints hi
  have lenV := hi.length
  -- from an abstract heap in which nothing but the script may be tracked
  have core : ∀ H : Hp, Only H → SqL K H a (ns.map V.int) → HOk P w H s₁.heap → (∀ b, H b ≠ none → b = a) → (H a ≠ none → K.lookup a = none) →
      codeAny (model P w) callerA (.call (.ref fa) ⟨[.ref a], []⟩) (fun r s' => r = .ok (.ret (.bool true)) ∧ OldK s₁.heap s'.heap ∧ s'.os = s₁.os ∧ AllBare s'.gens) s₁ := by
    intro H hO hS hok hA hK
    have base_of : ∀ {b : Addr} {o : Obj}, s₁.heap.get? b = some o → H b = none → (hidT s₁.heap H).get? b = some o := fun e n => hidT_get e n
    have noA : ∀ {b : Addr} {o : Obj} {es : Array DictEntry} {ep : Nat}, s₁.heap.get? b = some o → o.data = .dict es ep → H b = none := fun {b o es ep} e d => by
      cases q : H b with
      | none => rfl
      | some u =>
        have e' : b = a := hA b (by rw [q]; simp)
        subst e'
        rw [ha] at e; cases e
        have d' : Data.seq vs.toArray _ = Data.dict es ep := d
        cases d'
    have nsK : ∀ {b : Addr} {m : Str → Option Value}, s₁.heap.Ns b m → (hidT s₁.heap H).Ns b m := fun {b m} ⟨o, es, ep, e, d, r⟩ => ⟨o, es, ep, base_of e (noA e d), d, r⟩
    have hKb : K.In (hidT s₁.heap H) := fun b o e => base_of (KX b o e) (by
      cases q : H b with
      | none => rfl
      | some u =>
        have e' : b = a := hA b (by rw [q]; simp)
        subst e'
        rw [hK (by rw [q]; simp)] at e; cases e)
    have hM : Mod K mg (hidT s₁.heap H) := ⟨hKb, nsK hns, ⟨mb, nsK hb, hbb⟩, let ⟨mc, h1, h2⟩ := hlim; ⟨mc, nsK h1, h2⟩⟩
    have e0 : Env0 P w K mg (hidT s₁.heap H) callerA [] s₁ H := ⟨rfl, hM, fun b o e => of_hidT e, Nat.le_of_eq (hidT_size _ _), trivial, fun b hb => absurd (show b ∈ ([] : List Addr) from hb) (by simp), hok, .of_eq hg⟩
    refine codeAny_mono ((F _ hKb (nsK hns)).run callerA [] s₁ H ⟨[.ref a], []⟩ [.ref a] [.ref a] _ _ hr e0 (hbind s₁ (.ref a)) (.cons rfl .nil) (hsp H hO hS)) fun r s' h => ?_
    cases r with
    | error e => exact (hCX H e s' h).elim
    | ok fl =>
      cases fl with
      | next => exact False.elim h
      | brk => exact False.elim h
      | cont => exact False.elim h
      | ret u =>
        obtain ⟨v, H', os, bare, un, hok', r', q⟩ := h
        have q' : v = .bl true := q
        subst q'
        obtain rfl : u = Value.bool true := r'
        refine ⟨rfl, OldK.of_keep fun b o e => ?_, os, bare⟩
        cases q : H b with
        | none => exact un.keep b o e q (by intro z; exact absurd (show b ∈ ([] : List Addr) from z) (by simp)) (by simp)
        | some u =>
          rcases hO b with z | ⟨ob, xs, z⟩
          · rw [q] at z; cases z
          · have z2 := un.frzs b ob _ z
            obtain ⟨e1, _⟩ := hok b _ z
            obtain ⟨e2, _⟩ := hok' b _ z2
            rw [e] at e1; cases e1
            exact e2
  cases hk : K.lookup a with
  | some o =>
    -- the script is one of the module's own objects
    have e := KX a o hk
    rw [ha] at e
    cases e
    refine core (fun _ => none) (fun _ => .inl rfl) (.inr ⟨_, vs.toArray, _, hk, rfl, rfl, rfl, by rw [List.size_toArray, lenV]; exact hl, by simpa using rv⟩) (fun b u z => by have z' : (none : Option HO) = some u := z; cases z') (fun b z => absurd rfl z) fun z => absurd rfl z
  | none =>
    refine core (fun b => if b = a then some (.frz { cls := .type "list", data := .seq vs.toArray } (.lst (ns.map V.int))) else none) (fun b => ?_) (.inl (.inr ⟨{ cls := .type "list", data := .seq vs.toArray }, if_pos rfl⟩)) (fun b u z => ?_) (fun b z => ?_) fun _ => hk
    · by_cases hb : b = a
      · exact .inr ⟨_, _, if_pos hb⟩
      · exact .inl (if_neg hb)
    · by_cases hb : b = a
      · have z' := (if_pos hb).symm.trans z
        cases z'
        subst hb
        exact ⟨ha, by rw [List.length_map]; exact hl, vs, _, rv, ha⟩
      · have z' := (if_neg hb).symm.trans z
        cases z'
    · by_cases hb : b = a
      · exact hb
      · exact absurd (if_neg hb) z
end L2
namespace L2
open PySem PySem.Spec PyProof.Rows
theorem walk_of {l : PySem.W.OpenLaw} {n k : Nat} {q : Program} {loose : List Str} {XP : (Str → Option Value) → Heap → Prop} {YP : World → Heap → Prop} {d : DefRec} {K : Params → PySem.W.Frag} {CX : World → CXT} {sp : World → Sp} {x : Str}
    (hn : l.most = some n) (hn2 : n ≤ sizeLine) (hdf : d.params.defaults = []) (hr : Room k callerA)
    (hY : ∀ (w : World) (h : Heap), YP w h → (K w.params).In h)
    (F : ∀ (w : World) (mg : Str → Option Value) (fa : Addr) (h : Heap), (K w.params).In h → h.Ns mainGlobals mg → mg d.name = some (.ref fa) →
      ∃ fd : FuncData, (∀ (s : Shared) (u : Value), BindsTo s fd ⟨[u], []⟩ [(x, u)]) ∧
        ∀ base : Heap, (K w.params).In base → base.Ns mainGlobals mg → FnOk l.prog w (K w.params) mg base (CX w) k fa fd [x] (sp w))
    (hsp : ∀ (w : World) (H : Hp) (a : Addr) (ns : List Int), ns.length ≤ n → Only H → SqL (K w.params) H a (ns.map V.int) → sp w [.ref a] H (fun v _ => v = .bl true) fun _ _ _ => False)
    (hCX : ∀ (w : World) (H : Hp) (s : Shared) (e : Value) (s' : Shared), CX w [] H s (fun _ _ _ => False) e s' → False) :
    PySem.W.WalkO q loose XP YP l.row.toRowW d [] (fun f vs => PySem.call f vs) := by
  refine Att.attach_call hn hdf fun w s₀ s₁ mg mb fa o pm cd doc a vs ns G Y ho hd hcd hmg hobj hints hlen hg => ?_
  have KX := hY w _ Y
  obtain ⟨fd, hb, hF⟩ := F w mg fa _ KX G.T.g hmg
  exact law_call KX G.T.g G.T.b G.T.builtins G.T.nolimit hg hobj hints (Nat.le_trans hlen hn2) hr hF hb (fun H hO hS => hsp w H a ns hlen hO hS) fun H e s' => hCX w H s₁ e s'
end L2
/- THE LAST THEOREM (shape; LID, My.* are yours):
   My.Adr: a structure of the addresses that your layer names (classes, functions); My.Txt K t: a structure (Prop) of the equations over K;
   My.txt_mk : {K} {implicit addresses ..} (e1 : nsIn K mainGlobals "law" = some (some (.ref f))) (e2 : K.lookup f = some ⟨oc, od, .func (fnOf "law" "law" params body scope dV kV doc pm an cdv ct), sl⟩) (e3 : codeIn K cdv "law" = true) .. : ∃ t, My.Txt K t
set_option maxRecDepth 100000 in
set_option maxHeartbeats 0 in
theorem PySem.Challenge.cw_LID_holds : PySem.Challenge.rw_LID.Holds := by
  w_on; o_law; k_head; (case hw => w_witness2)
  k_fill
  refine L2.walk_of (l := PySem.Challenge.rw_LID) (n := 63) (k := 40) (x := "script") (CX := fun w => ..) (sp := fun _ => My.sp_law) rfl (by decide) rfl ⟨rfl, by decide, by decide⟩ (fun w h Y => PySem.W.kIn_of Y) ?F ?S ?C
  case F =>
    intro w mg fa h KX G hmg
    have T : ∃ t, My.Txt (L2.KOf KX) t := by
      dsimp only [L2.KOf]                          -- K must stand as «<heap const> w.params» for k_is
      refine' My.txt_mk ?e1 ?e2 ?e3 ..
      (case e1 => PySem.W.k_is)                    -- in the order: a name -> its address -> its object -> its parts
      (case e2 => PySem.W.k_is)
      ..
    obtain ⟨t, T⟩ := T
    have e0 := hmg.symm.trans (PySem.W.mg_of KX G T.law)
    cases e0                                       -- fa is the law's own address
    exact ⟨_, fun s u => .of_eq rfl, fun base kb nb => My.law_fn T kb nb⟩     -- if «.of_eq rfl» comes too early: refine' ⟨_, ?b, fun base kb nb => My.law_fn T kb nb⟩; exact fun s u => .of_eq rfl
  case S => exact fun w H a ns hl hO hS => ..
  case C => exact ..
(the tactic k_is has no namespace: write k_is) -/
namespace L2
open PySem PySem.Spec PyProof.Rows
def inClass (s : Stmt) (j : Nat) : Stmt := match s with
  | .ClassDef _ _ _ body _ _ _ _ _ _ _ => body.getD j (.Pass ⟨0, 0, 0, 0⟩)
  | _ => .Pass ⟨0, 0, 0, 0⟩
def defArgs (s : Stmt) : Arguments := match s with
  | .FunctionDef _ a _ _ _ _ _ _ _ _ => a
  | _ => { posonlyargs := [], args := [], vararg := none, kwonlyargs := [], kw_defaults := [], kwarg := none, defaults := [] }
def defBody (s : Stmt) : List Stmt := match s with
  | .FunctionDef _ _ b _ _ _ _ _ _ _ => b
  | _ => []
def defScope (s : Stmt) : Scope := match s with
  | .FunctionDef _ _ _ _ _ _ sc _ _ _ => sc
  | _ => { kind := .function, names := [], isGenerator := false, isCoroutine := false }
abbrev CX0 : CXT := fun _ _ _ _ _ _ => False
abbrev E0 : XK := fun _ _ _ => False
theorem pass0 {X : Cx} : Passes CX0 X E0 := fun _ _ _ _ _ _ _ h => h.elim
structure Fun (K : PySem.W.Frag) (x qual : Str) (st : Stmt) (f : Addr) (fd : FuncData) : Prop where
  ex : ∃ (oc : Value) (od : Option Addr) (kV doc pm : Value) (an : Option Addr) (cdv ct : Value) (osl : Array (Option Value)),
    fd = PySem.W.fnOf x qual (defArgs st) (defBody st) (defScope st) .none kV doc pm an cdv ct ∧ K.lookup f = some ⟨oc, od, .func fd, osl⟩ ∧ PySem.W.codeIn K cdv qual = true
  kp : PySem.W.keepIn K (.ref f) = true
section
variable {P : Program} {w : World} {K : PySem.W.Frag} {mg : Str → Option Value} {base : Heap}
theorem Fun.ok {x qual : Str} {st : Stmt} {f : Addr} {fd : FuncData} {N ps : List Str} {k : Nat} {sp : Sp} (F : Fun K x qual st f fd) (S : FnScope N ps (defScope st)) (len : ∀ vs H Q E, sp vs H Q E → vs.length = ps.length)
    (hbody : ∀ (cdv : Value) (A : Around) (outer : List Env) (s : Shared) (H : Hp) (vs : List V) (Q : VK) (E : XK), Room k (A.deeper (envOfC qual (defScope st) s.heap.objs.size f cdv)) → sp vs H Q E →
      ∃ t, PSs (cxOf CX0 P w K mg base N qual (defScope st) f cdv A outer s H E).nox (defBody st) t ∧ t { nx := fun _ H' => Q .non H', rt := Q } (start N vs) H) : FnOk P w K mg base CX0 (k + 1) f fd ps sp := by
  obtain ⟨oc, od, kV, doc, pm, an, cdv, ct, osl, rfl, lk, hcd⟩ := F.ex
  refine fn_of lk hcd S len fun A outer s H vs Q E hr hsp => ?_
  obtain ⟨t, h, q⟩ := hbody cdv A outer s H vs Q E hr hsp
  exact ⟨t, h.nox, q⟩
theorem Fun.binds {x qual : Str} {st : Stmt} {f : Addr} {fd : FuncData} {ps : List Str} (F : Fun K x qual st f fd)
    (h : ∀ (kV doc pm : Value) (an : Option Addr) (cdv ct : Value) (us : List Value), us.length = ps.length → bindArgs (PySem.W.fnOf x qual (defArgs st) (defBody st) (defScope st) .none kV doc pm an cdv ct) ⟨us, []⟩ = pure (ps.zip us)) : Binds K fd ps [] := by
  obtain ⟨oc, od, kV, doc, pm, an, cdv, ct, osl, rfl, lk, hcd⟩ := F.ex
  exact .all (h kV doc pm an cdv ct)
theorem fun_mk {x qual : Str} {st : Stmt} {f : Addr} {oc : Value} {od an : Option Addr} {osl : Array (Option Value)} {kV doc pm cdv ct : Value} (l : K.lookup f = some ⟨oc, od, .func (PySem.W.fnOf x qual (defArgs st) (defBody st) (defScope st) .none kV doc pm an cdv ct), osl⟩)
    (c : PySem.W.codeIn K cdv qual = true) (k : PySem.W.keepIn K (.ref f) = true) : Fun K x qual st f (PySem.W.fnOf x qual (defArgs st) (defBody st) (defScope st) .none kV doc pm an cdv ct) := ⟨⟨oc, od, kV, doc, pm, an, cdv, ct, osl, rfl, l, c⟩, k⟩
end
theorem hu_of {A : Around} {k : Nat} (hr : Room k A) : A.units + 1 < cLine := Nat.lt_of_le_of_lt (Nat.add_le_add_left (by decide : 1 ≤ 64) _) hr.units
theorem small1000 {n : Nat} (h : n ≤ 1000) : n < sizeLine := Nat.lt_of_le_of_lt h (by decide)
section
variable {X : Cx}
theorem pv (i : Nat) {x : Str} {pos : Pos} (hN : X.N[i]? = some x := by rfl) (hv : Vis X.env.scope x := by first | exact Or.inl rfl | exact Or.inr (Or.inl rfl) | exact Or.inr (Or.inr rfl)) (hd : (x == ("__debug__" : Str)) = false := by decide)
    (hcd : (x == ("__classdict__" : Str)) = false := by decide) : PE X (.Name x pos) (tVar i) := pe_var hN hv hd hcd
end
def Same (H H' : Hp) : Prop := ∀ b o, H b = some o → H' b = some o
theorem Same.refl (H : Hp) : Same H H := fun _ _ h => h
theorem Same.trans {H H1 H2 : Hp} (a : Same H H1) (b : Same H1 H2) : Same H H2 := fun c o h => b c o (a c o h)
theorem Same.free {H H' : Hp} (e : Same H H') {l : Addr} (h : H' l = Option.none) : H l = Option.none := by
  cases q : H l with
  | none => rfl
  | some o =>
    rw [e l o q] at h
    cases h
theorem Same.seq {K : PySem.W.Frag} {H H' : Hp} {a : Addr} {xs : List V} (e : Same H H') (h : SqL K H a xs) : SqL K H' a xs := by
  rcases h with (h | ⟨o, h⟩) | h
  · exact .inl (.inl (e _ _ h))
  · exact .inl (.inr ⟨o, e _ _ h⟩)
  · exact .inr h
end L2
section
end
set_option maxHeartbeats 4000000
namespace Sv
open PySem PySem.Spec PyProof.Rows L2
section
variable {X : Cx}
def CDivW (_ j : Int) : Prop := 0 < j ∧ j < 18446744073709551616
theorem op_divW : OpR X (binaryOp .FloorDiv) (rI CDivW fun i j => .int (i / j)) := opI fun i j _ _ _ _ _ hc q => by
  have p1 : (0 : Int) < j := hc.1
  have p2 : j < 18446744073709551616 := hc.2
  have lg : j.natAbs.log2 < 9000 := by
    have a : j.natAbs ≠ 0 := by omega
    have b : j.natAbs < 2 ^ 64 := by omega
    have c := (Nat.log2_lt a).mpr b
    omega
  refine floordiv_int (by omega) ?_ (.inl (PyProof.noPylong_of_log2 lg))
  rw [Int.fdiv_eq_ediv_of_nonneg i (by omega)]
  exact q
def Its (lo c : Int) (n : Nat) : It := ⟨fun i _ => i < n, fun i H x H' => H' = H ∧ x = .int (lo + (i : Int) * c), fun i _ => n ≤ i⟩
def evens (hi : Int) : Nat := ((hi + 1) / 2).toNat
def rIsi (K : PySem.W.Frag) : List V → Hp → VK → Prop := fun xs H Q => ∃ x T t b, xs = [x, .ty T] ∧ TyOf K H x t ∧ PySem.W.kitOne K t (.type T) = some b ∧ Q (.bl b) H
theorem call_isi : CallR X (.builtin "isinstance") (rIsi X.K) := by
  intro pins s σ H xs us Q I r h
  obtain ⟨x, T, t, b, rfl, ty, e, q⟩ := h
  obtain ⟨u, v, rfl, ru, rv⟩ := Vals.two r
  obtain rfl : v = Value.type T := rv
  exact isinst_ok I ru ty e fun tk => ⟨.bl b, H, I.tok tk, rfl, q⟩
theorem kit_same (K : PySem.W.Frag) (T : String) : PySem.W.kitOne K (.type T) (.type T) = some true := by
  unfold PySem.W.kitOne
  rw [if_pos (beq_self_eq_true _)]
theorem kit_int_bool (K : PySem.W.Frag) : PySem.W.kitOne K (.type "int") (.type "bool") = some false := by
  first
  | decide +kernel
  | rfl
mutual
inductive Dt (H : Hp) : V → PyData → Prop where
  | non : Dt H .non .none
  | bl (b : Bool) : Dt H (.bl b) (.bool b)
  | int (i : Int) : Dt H (.int i) (.int i)
  | str (x : Str) : Dt H (.str x) (.str x)
  | tup {a : Addr} {xs : List V} {ds : List PyData} (e : Rd H a (.tup xs)) (r : Dts H xs ds) : Dt H (.ref a) (.tuple ds)
  | lst {a : Addr} {xs : List V} {ds : List PyData} (e : Rd H a (.lst xs)) (r : Dts H xs ds) : Dt H (.ref a) (.list ds)
inductive Dts (H : Hp) : List V → List PyData → Prop where
  | nil : Dts H [] []
  | cons {x : V} {d : PyData} {xs : List V} {ds : List PyData} (h : Dt H x d) (t : Dts H xs ds) : Dts H (x :: xs) (d :: ds)
end
mutual
theorem Dt.reads {pins : List (Addr × Obj)} {σ : L2.St} {H : Hp} {s : Shared} (I : Inv X pins σ H s) : ∀ {x : V} {d : PyData} {u : Value}, Dt H x d → RelV x u → ∃ as, Reads s.heap u d as
  | _, _, _, .non, r => by cases r; exact ⟨_, .none⟩
  | _, _, _, .bl b, r => by cases r; exact ⟨_, .bool b⟩
  | _, _, _, .int i, r => by obtain ⟨t, rfl⟩ := r; exact ⟨_, .int i t⟩
  | _, _, _, .str x, r => by obtain ⟨t, rfl⟩ := r; exact ⟨_, .str x t⟩
  | _, _, _, .tup e q, r => by
    cases r
    obtain ⟨_, its, rv, o, h1, h2, n, h3⟩ := e.ok I.hok
    obtain ⟨as, ra⟩ := Dts.reads I q rv
    exact ⟨_, .tuple h1 h2 h3 (by simpa using ra)⟩
  | _, _, _, .lst e q, r => by
    cases r
    obtain ⟨_, its, n, rv, h1⟩ := e.ok I.hok
    obtain ⟨as, ra⟩ := Dts.reads I q rv
    exact ⟨_, .list h1 rfl rfl (by simpa using ra)⟩
theorem Dts.reads {pins : List (Addr × Obj)} {σ : L2.St} {H : Hp} {s : Shared} (I : Inv X pins σ H s) : ∀ {xs : List V} {ds : List PyData} {us : List Value}, Dts H xs ds → Vals xs us → ∃ as, ReadsAll s.heap us ds as
  | _, _, _, .nil, r => by cases r; exact ⟨_, .nil⟩
  | _, _, _, .cons h t, r => by
    cases r with
    | cons r1 r2 =>
      obtain ⟨a1, q1⟩ := Dt.reads I h r1
      obtain ⟨a2, q2⟩ := Dts.reads I t r2
      exact ⟨_, .cons q1 q2⟩
end
def rEqD (neg : Bool) : R2 := fun x y H Q => ∃ d e, Dt H x d ∧ Dt H y e ∧ SeqAt.shaped d = true ∧ SeqAt.shaped e = true ∧ Q (.bl (if neg then !PyData.eqv d e else PyData.eqv d e)) H
theorem op_eqD (hu : X.A.units + 64 < cLine) : OpR X (compareOp .Eq) (rEqD false) := by
  intro pins s σ H x y v u Q I rx ry h
  obtain ⟨d, e, hd, he, sd, se, q⟩ := h
  obtain ⟨as, ra⟩ := hd.reads I rx
  obtain ⟨bs, rb⟩ := he.reads I ry
  exact SeqAt.eqOverData X.prog X.w X.A _ s v u d e as bs _ ra rb (SeqAt.canLay_of_shaped sd) (SeqAt.canLay_of_shaped se) (SeqAt.room_of_shaped sd hu) ⟨.bl _, H, I, rfl, q⟩
theorem op_neD (hu : X.A.units + 64 < cLine) : OpR X (compareOp .NotEq) (rEqD true) := by
  intro pins s σ H x y v u Q I rx ry h
  obtain ⟨d, e, hd, he, sd, se, q⟩ := h
  obtain ⟨as, ra⟩ := hd.reads I rx
  obtain ⟨bs, rb⟩ := he.reads I ry
  exact SeqAt.neOverData X.prog X.w X.A _ s v u d e as bs _ ra rb (SeqAt.canLay_of_shaped sd) (SeqAt.canLay_of_shaped se) (SeqAt.room_of_shaped sd hu) ⟨.bl _, H, I, rfl, q⟩
end
end Sv
namespace Sv
open PySem PySem.Spec PyProof.Rows L2
def BrS (b : Bool) (f g : L2.St → Hp → Prop) (σ : L2.St) (H : Hp) : Prop := if b = true then f σ H else g σ H
def BrA (b : Bool) (u : TT) (σ : L2.St) (H : Hp) (Q : Bool → Hp → Prop) : Prop := if b = true then u σ H Q else Q false H
def BrO (b : Bool) (u : TT) (σ : L2.St) (H : Hp) (Q : Bool → Hp → Prop) : Prop := if b = true then Q true H else u σ H Q
def BrAV (b : Bool) (u : TE) (σ : L2.St) (H : Hp) (Q : VK) : Prop := if b = true then u σ H Q else Q (.bl false) H
def BrOV (b : Bool) (u : TE) (σ : L2.St) (H : Hp) (Q : VK) : Prop := if b = true then Q (.bl true) H else u σ H Q
section
variable {f g : L2.St → Hp → Prop} {σ : L2.St} {H : Hp} {u : TT} {ue : TE} {Q : Bool → Hp → Prop} {Qv : VK} {b : Bool}
theorem brS_t : BrS true f g σ H = f σ H := rfl
theorem brS_f : BrS false f g σ H = g σ H := rfl
theorem brA_t : BrA true u σ H Q = u σ H Q := rfl
theorem brA_f : BrA false u σ H Q = Q false H := rfl
theorem brO_t : BrO true u σ H Q = Q true H := rfl
theorem brO_f : BrO false u σ H Q = u σ H Q := rfl
theorem brAV_t : BrAV true ue σ H Qv = ue σ H Qv := rfl
theorem brAV_f : BrAV false ue σ H Qv = Qv (.bl false) H := rfl
theorem brOV_t : BrOV true ue σ H Qv = Qv (.bl true) H := rfl
theorem brOV_f : BrOV false ue σ H Qv = ue σ H Qv := rfl
theorem BrS.go (h1 : b = true → f σ H) (h2 : b = false → g σ H) : BrS b f g σ H := by
  cases b with
  | true => exact h1 rfl
  | false => exact h2 rfl
theorem BrS.dec {c : Prop} [Decidable c] (h1 : c → f σ H) (h2 : ¬ c → g σ H) : BrS (decide c) f g σ H :=
  BrS.go (fun e => h1 (of_decide_eq_true e)) fun e => h2 (of_decide_eq_false e)
theorem BrO.dec {c : Prop} [Decidable c] (h1 : c → Q true H) (h2 : ¬ c → u σ H Q) : BrO (decide c) u σ H Q := by
  by_cases z : c
  · rw [decide_eq_true z]; exact h1 z
  · rw [decide_eq_false z]; exact h2 z
end
def ForR (J : It) (g : TG) (tb : TS) (D : Ends) (σ : L2.St) (H : Hp) : Prop := ∃ W : Nat → Nat → L2.St → Hp → Prop, (∃ m, W 0 m σ H) ∧ ∀ i m σ H, W i m σ H →
  (J.stop i H ∧ D.nx σ H) ∨ (J.go i H ∧ ∃ N : L2.St → Hp → Prop, (∀ σ' H', N σ' H' → ∃ m', m' < m ∧ W (i + 1) m' σ' H') ∧ ∀ x H', J.yld i H x H' → g x σ H' fun σ2 H2 => tb { D with nx := N, ct := N, bk := D.nx } σ2 H2)
theorem ForR.range {lo : Int} {n : Nat} {g : TG} {tb : TS} {D : Ends} {σ : L2.St} {H : Hp} (Pv : Nat → L2.St → Hp → Prop) (h0 : Pv 0 σ H)
    (hs : ∀ i σ H, i < n → Pv i σ H → g (.int (lo + i)) σ H fun σ2 H2 => tb { D with nx := Pv (i + 1), ct := Pv (i + 1), bk := D.nx } σ2 H2) (hd : ∀ σ H, Pv n σ H → D.nx σ H) : ForR (Itr lo n) g tb D σ H :=
  for_range Pv h0 hs hd
theorem ForR.list {K : PySem.W.Frag} {a : Addr} {xs : List V} {g : TG} {tb : TS} {D : Ends} {σ : L2.St} {H : Hp} (Pv : Nat → L2.St → Hp → Prop) (h0 : Pv 0 σ H) (hl : ∀ i σ H, i ≤ xs.length → Pv i σ H → SqL K H a xs)
    (hs : ∀ i x σ H, xs[i]? = some x → Pv i σ H → g x σ H fun σ2 H2 => tb { D with nx := Pv (i + 1), ct := Pv (i + 1), bk := D.nx } σ2 H2) (hd : ∀ σ H, Pv xs.length σ H → D.nx σ H) : ForR (Itl K a) g tb D σ H :=
  for_list Pv h0 hl hs hd
section
variable {t u : TS} {D : Ends} {σ : L2.St} {H : Hp} {te ta tb tc : TE} {Q : VK} {tr : TA} {c tt tu : TT} {Qb : Bool → Hp → Prop} {Ql : List V → Hp → Prop} {G : TG} {v x : V} {r r' : R2} {wi : TI}
theorem seq_ : tSeq t u D σ H = t { D with nx := u D } σ H := rfl
theorem next_ : tNext D σ H = D.nx σ H := rfl
theorem ret_ : tRet te D σ H = te σ H D.rt := rfl
theorem drop_ : tDrop te D σ H = te σ H fun _ H1 => D.nx σ H1 := rfl
theorem ifS_ : tIfS c t u D σ H = c σ H fun b H1 => BrS b (t D) (u D) σ H1 := rfl
theorem asg_ : tAsg te G D σ H = te σ H fun x H1 => G x σ H1 D.nx := rfl
theorem gname_ {i : Nat} {R : L2.St → Hp → Prop} : gName i v σ H R = R (σ.set i (some v)) H := rfl
theorem var_ {i : Nat} : tVar i σ H Q = ∃ v, σ[i]? = some (some v) ∧ Q v H := rfl
theorem ex_ {α : Type} {x : α} {P : α → Prop} : (∃ v, some (some x) = some (some v) ∧ P v) = P x := by
  apply propext
  constructor
  · intro h
    obtain ⟨v, e, p⟩ := h
    cases e
    exact p
  · exact fun p => ⟨x, rfl, p⟩
theorem exb_ {b : Bool} {P : Bool → Prop} : (∃ k, V.bl b = V.bl k ∧ P k) = P b := by
  apply propext
  constructor
  · intro h
    obtain ⟨v, e, p⟩ := h
    cases e
    exact p
  · exact fun p => ⟨b, rfl, p⟩
theorem c_ : tC v σ H Q = Q v H := rfl
theorem op_ : tOp r ta tb σ H Q = ta σ H fun x H1 => tb σ H1 fun y H2 => r x y H2 Q := rfl
theorem un_ {f : V → Hp → VK → Prop} : tUn f ta σ H Q = ta σ H fun x H1 => f x H1 Q := rfl
theorem test_ : tTest te σ H Qb = te σ H fun x H1 => ∃ k, x = .bl k ∧ Qb k H1 := rfl
theorem tB_ : tB te σ H Qb = te σ H fun x H1 => ∃ k, x = .bl k ∧ Qb k H1 := rfl
theorem and_ : tAnd tt tu σ H Qb = tt σ H fun b H1 => BrA b tu σ H1 Qb := rfl
theorem or_ : tOr tt tu σ H Qb = tt σ H fun b H1 => BrO b tu σ H1 Qb := rfl
theorem not_ : tNot tt σ H Qb = tt σ H fun b H1 => Qb (!b) H1 := rfl
theorem andV_ : tAndV ta tb σ H Q = ta σ H fun x H1 => ∃ k, x = .bl k ∧ BrAV k tb σ H1 Q := rfl
theorem orV_ : tOrV ta tb σ H Q = ta σ H fun x H1 => ∃ k, x = .bl k ∧ BrOV k tb σ H1 Q := rfl
theorem notV_ : tNotV ta σ H Q = ta σ H fun x H1 => ∃ k, x = .bl k ∧ Q (.bl (!k)) H1 := rfl
theorem rI0_ {g : Int → Int → V} {i j : Int} : rI0 g (.int i) (.int j) H Q = Q (g i j) H := by
  apply propext
  constructor
  · intro h
    obtain ⟨a, b, e1, e2, q⟩ := h
    cases e1; cases e2
    exact q
  · exact fun q => ⟨i, j, rfl, rfl, q⟩
theorem rI_ {C : Int → Int → Prop} {g : Int → Int → V} {i j : Int} : rI C g (.int i) (.int j) H Q = (C i j ∧ Q (g i j) H) := by
  apply propext
  constructor
  · intro h
    obtain ⟨a, b, e1, e2, q⟩ := h
    cases e1; cases e2
    exact q
  · exact fun q => ⟨i, j, rfl, rfl, q⟩
theorem rEqI_ {i j : Int} : rEq (.int i) (.int j) H Q = Q (.bl (decide (i = j))) H := by
  have e : decide (V.int i = V.int j) = decide (i = j) := by rw [dec_int, Bool.beq_eq_decide_eq]
  unfold rEq
  rw [e]
  exact propext ⟨fun h => h.2, fun h => ⟨rfl, h⟩⟩
theorem rNeI_ {i j : Int} : rNe (.int i) (.int j) H Q = Q (.bl (!decide (i = j))) H := by
  have e : decide (V.int i = V.int j) = decide (i = j) := by rw [dec_int, Bool.beq_eq_decide_eq]
  unfold rNe
  rw [e]
  exact propext ⟨fun h => h.2, fun h => ⟨rfl, h⟩⟩
theorem rEqS_ {i j : Str} : rEq (.str i) (.str j) H Q = Q (.bl (decide (i = j))) H := by
  have e : decide (V.str i = V.str j) = decide (i = j) := by rw [dec_str, Bool.beq_eq_decide_eq]
  unfold rEq
  rw [e]
  exact propext ⟨fun h => h.2, fun h => ⟨rfl, h⟩⟩
theorem rNeS_ {i j : Str} : rNe (.str i) (.str j) H Q = Q (.bl (!decide (i = j))) H := by
  have e : decide (V.str i = V.str j) = decide (i = j) := by rw [dec_str, Bool.beq_eq_decide_eq]
  unfold rNe
  rw [e]
  exact propext ⟨fun h => h.2, fun h => ⟨rfl, h⟩⟩
theorem rU_ {g : Int → V} {i : Int} : rU g (.int i) H Q = Q (g i) H := by
  apply propext
  constructor
  · intro h
    obtain ⟨a, e, q⟩ := h
    cases e
    exact q
  · exact fun q => ⟨i, rfl, q⟩
theorem nil_ : tNil σ H Ql = Ql [] H := rfl
theorem cons_ : tCons te tr σ H Ql = te σ H fun x H1 => tr σ H1 fun xs H2 => Ql (x :: xs) H2 := rfl
def TupR (xs : List V) (H : Hp) (Q : VK) : Prop := xs.length ≤ sizeLine ∧ ∀ p, H p = none → Q (.ref p) (upd H p (.tup xs))
def LstR (xs : List V) (H : Hp) (Q : VK) : Prop := xs.length ≤ sizeLine ∧ ∀ p, H p = none → Q (.ref p) (upd H p (.lst xs))
theorem tup_ : tTup tr σ H Q = tr σ H fun xs H1 => TupR xs H1 Q := rfl
theorem lst_ : tLst tr σ H Q = tr σ H fun xs H1 => LstR xs H1 Q := rfl
theorem TupR.go {xs : List V} (h : xs.length ≤ 1000) (q : ∀ p, H p = none → Q (.ref p) (upd H p (.tup xs))) : TupR xs H Q := ⟨Nat.le_of_lt (small1000 h), q⟩
theorem LstR.go {xs : List V} (h : xs.length ≤ 1000) (q : ∀ p, H p = none → Q (.ref p) (upd H p (.lst xs))) : LstR xs H Q := ⟨Nat.le_of_lt (small1000 h), q⟩
theorem call_ {sp : Sp} {E : XK} : tCall sp [] E tr σ H Q = tr σ H fun vs H1 => sp vs H1 Q E := by
  unfold tCall
  simp only [List.append_nil]
theorem cb_ {f : List V → Hp → VK → Prop} : tCB f tr σ H Q = tr σ H fun vs H1 => f vs H1 Q := rfl
theorem for_ : tFor wi G t D σ H = wi σ H fun J H1 => ForR J G t D σ H1 := rfl
def RngR (vs : List V) (H : Hp) (R : It → Hp → Prop) : Prop := ∃ j : Int, vs = [.int j] ∧ -(2 ^ 62) ≤ j ∧ j < 2 ^ 62 ∧ R (Itr 0 j.toNat) H
theorem rng1_ {R : It → Hp → Prop} : iRng1 tr σ H R = tr σ H fun vs H1 => RngR vs H1 R := rfl
theorem RngR.go {j : Int} {R : It → Hp → Prop} (h1 : -(2 ^ 62) ≤ j) (h2 : j < 2 ^ 62) (q : R (Itr 0 j.toNat) H) : RngR [.int j] H R := ⟨j, rfl, h1, h2, q⟩
def Rng3R (vs : List V) (H : Hp) (R : It → Hp → Prop) : Prop := ∃ j : Int, vs = [.int 0, .int j, .int 2] ∧ 0 ≤ j ∧ j < 1000000 ∧ R (Its 0 2 (evens j)) H
theorem Rng3R.go {j : Int} {R : It → Hp → Prop} (h1 : 0 ≤ j) (h2 : j < 1000000) (q : R (Its 0 2 (evens j)) H) : Rng3R [.int 0, .int j, .int 2] H R := ⟨j, rfl, h1, h2, q⟩
def LenR (K : PySem.W.Frag) : List V → Hp → VK → Prop := fun xs H Q => ∃ p ys, xs = [.ref p] ∧ (SqL K H p ys ∨ SqT K H p ys) ∧ Q (.int ys.length) H
theorem call_lenR {X : Cx} : CallR X (.builtin "len") (LenR X.K) := call_len_seq
theorem LenR.lst {K : PySem.W.Frag} {a : Addr} {ys : List V} (h : SqL K H a ys) (q : Q (.int ys.length) H) : LenR K [.ref a] H Q := ⟨a, ys, rfl, .inl h, q⟩
theorem LenR.tup {K : PySem.W.Frag} {a : Addr} {ys : List V} (h : SqT K H a ys) (q : Q (.int ys.length) H) : LenR K [.ref a] H Q := ⟨a, ys, rfl, .inr h, q⟩
def MaxR : List V → Hp → VK → Prop := fun xs H Q => ∃ i j, xs = [.int i, .int j] ∧ Q (.int (if j > i then j else i)) H
theorem call_maxR {X : Cx} (hc : X.calm = true) : CallR X (.builtin "max") MaxR := call_max2 hc
theorem max_ {i j : Int} : MaxR [.int i, .int j] H Q = Q (.int (max i j)) H := by
  have e : (if j > i then j else i) = max i j := by split <;> omega
  apply propext
  constructor
  · intro h
    obtain ⟨a, b, e1, q⟩ := h
    cases e1
    rw [e] at q
    exact q
  · intro q
    refine ⟨i, j, rfl, ?_⟩
    rw [e]
    exact q
theorem ixT_go {K : PySem.W.Frag} {a : Addr} {xs : List V} {i : Nat} (h : SqT K H a xs) (e : xs[i]? = some v) (q : Q v H) : rIxT K (.ref a) (.int (i : Int)) H Q := ⟨a, xs, _, v, rfl, rfl, h, atI_nat e, q⟩
theorem ixL_go {K : PySem.W.Frag} {a : Addr} {xs : List V} {i : Nat} (h : SqL K H a xs) (e : xs[i]? = some v) (q : Q v H) : rIxL K (.ref a) (.int (i : Int)) H Q := ⟨a, xs, _, v, rfl, rfl, h, atI_nat e, q⟩
theorem bm_ {K : PySem.W.Frag} {T : String} {f : V → List V → Hp → VK → Prop} : tBM K T f te tr σ H Q = te σ H fun x H1 => tyV K T x H1 ∧ tr σ H1 fun xs H2 => f x xs H2 Q := rfl
theorem tyInt_ {K : PySem.W.Frag} {i : Int} : tyV K "int" (.int i) H = True := propext ⟨fun _ => True.intro, fun _ => rfl⟩
theorem tyStr_ {K : PySem.W.Frag} {z : Str} : tyV K "str" (.str z) H = True := propext ⟨fun _ => True.intro, fun _ => rfl⟩
end
theorem isi_int {K : PySem.W.Frag} {H : Hp} {Q : VK} {i : Int} (q : Q (.bl true) H) : rIsi K [.int i, .ty "int"] H Q := ⟨_, _, _, _, rfl, .int i, kit_same K "int", q⟩
theorem isi_int_bool {K : PySem.W.Frag} {H : Hp} {Q : VK} {i : Int} (q : Q (.bl false) H) : rIsi K [.int i, .ty "bool"] H Q := ⟨_, _, _, _, rfl, .int i, kit_int_bool K, q⟩
theorem isi_tup {K : PySem.W.Frag} {H : Hp} {Q : VK} {a : Addr} {xs : List V} (e : H a = some (.tup xs)) (q : Q (.bl true) H) : rIsi K [.ref a, .ty "tuple"] H Q := ⟨_, _, _, _, rfl, .tup e, kit_same K "tuple", q⟩
theorem isi_lst {K : PySem.W.Frag} {H : Hp} {Q : VK} {a : Addr} {xs : List V} (e : H a = some (.lst xs)) (q : Q (.bl true) H) : rIsi K [.ref a, .ty "list"] H Q := ⟨_, _, _, _, rfl, .lst e, kit_same K "list", q⟩
theorem cxK {CX : CXT} {P : Program} {w : World} {K : PySem.W.Frag} {mg : Str → Option Value} {base : Heap} {N : List Str} {qual : Str} {sc : Scope} {f : Addr} {cd : Value} {A : Around} {outer : List Env} {s : Shared} {H : Hp} {E : XK} :
    (cxOf CX P w K mg base N qual sc f cd A outer s H E).nox.K = K := rfl
theorem same_new {H : Hp} {p : Addr} (h : H p = none) (o : HO) : Same H (upd H p o) := fun b u q => by
  rw [upd_ne (ne_of_none q h)]
  exact q
end Sv
namespace Sv
open PySem L2
end Sv
namespace Sv
open PySem L2
theorem gtup2 {K : PySem.W.Frag} {a : Addr} {x y : V} {i j : Nat} {σ : L2.St} {H : Hp} {R : L2.St → Hp → Prop} (h : SqT K H a [x, y]) (q : R ((σ.set i (some x)).set j (some y)) H) :
    gTup K 2 (gCons (gName i) (gCons (gName j) gNil)) (.ref a) σ H R := ⟨a, _, rfl, h, rfl, _, _, rfl, _, _, rfl, rfl, q⟩
theorem app_go {l : Addr} {xs : List V} {y : V} {H : Hp} {Q : VK} (h : H l = some (.lst xs)) (z : xs.length ≤ 1000) (q : Q .non (upd H l (.lst (xs ++ [y])))) : rAppend (.ref l) [y] H Q :=
  ⟨l, xs, y, rfl, rfl, h, small1000 z, q⟩
theorem ty_lst {K : PySem.W.Frag} {l : Addr} {xs : List V} {H : Hp} (h : H l = some (.lst xs)) : tyV K "list" (.ref l) H := .inl ⟨rfl, xs, SqL.of h⟩
end Sv
namespace Sv
open PySem L2
def IlR (K : PySem.W.Frag) (x : V) (H : Hp) (R : It → Hp → Prop) : Prop := ∃ a, x = .ref a ∧ (∃ xs, SqL K H a xs) ∧ R (Itl K a) H
theorem ilist_ {K : PySem.W.Frag} {te : TE} {σ : L2.St} {H : Hp} {R : It → Hp → Prop} : iList K te σ H R = te σ H fun x H1 => IlR K x H1 R := rfl
theorem IlR.go {K : PySem.W.Frag} {a : Addr} {xs : List V} {H : Hp} {R : It → Hp → Prop} (h : SqL K H a xs) (q : R (Itl K a) H) : IlR K (.ref a) H R := ⟨a, rfl, ⟨xs, h⟩, q⟩
end Sv
namespace Sv
open PySem L2
theorem cxK2 {CX : CXT} {P : Program} {w : World} {K : PySem.W.Frag} {mg : Str → Option Value} {base : Heap} {N : List Str} {qual : Str} {sc : Scope} {f : Addr} {cd : Value} {A : Around} {outer : List Env} {s : Shared} {H : Hp} {E : XK} :
    (cxOf CX P w K mg base N qual sc f cd A outer s H E).K = K := rfl
end Sv
namespace Sv
open PySem PySem.Spec PyProof.Rows L2
theorem bo_len : bootBuiltins "len" = some (.builtin "len") := by decide +kernel
theorem bo_max : bootBuiltins "max" = some (.builtin "max") := by decide +kernel
theorem bo_isinstance : bootBuiltins "isinstance" = some (.builtin "isinstance") := by decide +kernel
theorem bo_int : bootBuiltins "int" = some (.type "int") := by decide +kernel
theorem bo_bool : bootBuiltins "bool" = some (.type "bool") := by decide +kernel
theorem bo_tuple : bootBuiltins "tuple" = some (.type "tuple") := by decide +kernel
theorem bo_list : bootBuiltins "list" = some (.type "list") := by decide +kernel
structure Fn (P : Program) (w : World) (K : PySem.W.Frag) (mg : Str → Option Value) (base : Heap) (x : Str) (k : Nat) (ps : List Str) (sp : Sp) : Prop where
  ex : ∃ (f : Addr) (fd : FuncData), FnOk P w K mg base CX0 k f fd ps sp ∧ mg x = some (.ref f) ∧ PySem.W.keepIn K (.ref f) = true ∧ Binds K fd ps []
section
variable {X : Cx} {x : Str} {k j : Nat} {ps : List Str} {sp : Sp} {e : Expr} {es : List Expr} {t : TA} {p pos : Pos}
theorem pe_fn (F : Fn X.prog X.w X.K X.mg X.base x k ps sp) (hr : Room j X.A) (hk : k ≤ j) (hg : Gl X x) (ha : PA X (e :: es) t) (hdb : (x == ("__debug__" : Str)) = false := by decide)
    (he : starEach (e :: es) X.env = (false, eval e X.env) :: starEach es X.env := by rfl) (hpl : (backTo pos (starEach es X.env)).any (·.1) = false := by rfl) : PE X (.Call (.Name x p) (e :: es) [] pos) (tCall sp [] E0 t) := by
  obtain ⟨f, fd, G, m, kp, b⟩ := F.ex
  exact pe_call G (hr.mono hk) hg m kp b .nil pass0 ha hdb he hpl
end
structure Def (K : PySem.W.Frag) (mg : Str → Option Value) (x : Str) (st : Stmt) : Prop where
  ex : ∃ (f : Addr) (fd : FuncData), Fun K x x st f fd ∧ mg x = some (.ref f)
theorem mk_def {K : PySem.W.Frag} {h : Heap} {mg : Str → Option Value} {x : Str} {st : Stmt} {f : Addr} {oc kV dc pm cd ct : Value} {od an : Option Addr} {sl : Array (Option Value)} (X : K.In h) (G : h.Ns mainGlobals mg)
    (a : PySem.W.nsIn K mainGlobals x = some (some (.ref f))) (l : K.lookup f = some ⟨oc, od, .func (PySem.W.fnOf x x (defArgs st) (defBody st) (defScope st) .none kV dc pm an cd ct), sl⟩)
    (c : PySem.W.codeIn K cd x = true) (k : PySem.W.keepIn K (.ref f) = true) : Def K mg x st := ⟨⟨f, _, fun_mk l c k, PySem.W.mg_of X G a⟩⟩
theorem Def.fn {P : Program} {w : World} {K : PySem.W.Frag} {mg : Str → Option Value} {base : Heap} {x : Str} {st : Stmt} {k : Nat} {ps : List Str} {sp : Sp} (D : Def K mg x st)
    (b : ∀ (kV doc pm : Value) (an : Option Addr) (cdv ct : Value) (us : List Value), us.length = ps.length → bindArgs (PySem.W.fnOf x x (defArgs st) (defBody st) (defScope st) .none kV doc pm an cdv ct) ⟨us, []⟩ = pure (ps.zip us))
    (ok : ∀ (f : Addr) (fd : FuncData), Fun K x x st f fd → FnOk P w K mg base CX0 k f fd ps sp) : Fn P w K mg base x k ps sp := by
  obtain ⟨f, fd, F, m⟩ := D.ex
  exact ⟨⟨f, fd, ok f fd F, m, F.kp, F.binds b⟩⟩
def cell (ns : List Int) (k : Int) : Int := ns.getD k.toNat 0
def spCell (K : PySem.W.Frag) : Sp := fun vs H Q _ => ∃ (a : Addr) (ns : List Int) (k : Int), vs = [.ref a, .int k] ∧ SqL K H a (ns.map V.int) ∧ 0 ≤ k ∧ Q (.int (cell ns k)) H
def spWhole : Sp := fun vs H Q _ => ∃ i : Int, vs = [.int i] ∧ Q (.bl true) H
def spLaw (K : PySem.W.Frag) : Sp := fun vs H Q _ => ∃ (a : Addr) (ns : List Int), vs = [.ref a] ∧ SqL K H a (ns.map V.int) ∧ ns.length ≤ 63 ∧ ∀ H', Q (.bl true) H'
theorem spCell.go {K : PySem.W.Frag} {H : Hp} {Q : VK} {E : XK} {a : Addr} {ns : List Int} {k : Int} (h : SqL K H a (ns.map V.int)) (h0 : 0 ≤ k) (q : Q (.int (cell ns k)) H) : spCell K [.ref a, .int k] H Q E := ⟨a, ns, k, rfl, h, h0, q⟩
theorem spWhole.go {H : Hp} {Q : VK} {E : XK} {i : Int} (q : Q (.bl true) H) : spWhole [.int i] H Q E := ⟨i, rfl, q⟩
end Sv
namespace Sv
theorem us1 {α : Type} {us : List α} (h : us.length = 1) : ∃ a, us = [a] := by
  cases us with
  | nil => cases h
  | cons a us => cases us with
    | nil => exact ⟨a, rfl⟩
    | cons b us => cases h
theorem us2 {α : Type} {us : List α} (h : us.length = 2) : ∃ a b, us = [a, b] := by
  cases us with
  | nil => cases h
  | cons a us =>
    obtain ⟨b, rfl⟩ := us1 (Nat.succ.inj h)
    exact ⟨a, b, rfl⟩
theorem us3 {α : Type} {us : List α} (h : us.length = 3) : ∃ a b c, us = [a, b, c] := by
  cases us with
  | nil => cases h
  | cons a us =>
    obtain ⟨b, c, rfl⟩ := us2 (Nat.succ.inj h)
    exact ⟨a, b, c, rfl⟩
theorem us4 {α : Type} {us : List α} (h : us.length = 4) : ∃ a b c d, us = [a, b, c, d] := by
  cases us with
  | nil => cases h
  | cons a us =>
    obtain ⟨b, c, d, rfl⟩ := us3 (Nat.succ.inj h)
    exact ⟨a, b, c, d, rfl⟩
theorem us5 {α : Type} {us : List α} (h : us.length = 5) : ∃ a b c d e, us = [a, b, c, d, e] := by
  cases us with
  | nil => cases h
  | cons a us =>
    obtain ⟨b, c, d, e, rfl⟩ := us4 (Nat.succ.inj h)
    exact ⟨a, b, c, d, e, rfl⟩
end Sv
namespace Sv
open PySem PySem.Spec PyProof.Rows L2
def VarQ (o : Option (Option V)) (H : Hp) (Q : VK) : Prop := match o with
  | some (some v) => Q v H
  | _ => False
theorem VarQ.ex {o : Option (Option V)} {H : Hp} {Q : VK} (h : VarQ o H Q) : ∃ v, o = some (some v) ∧ Q v H := by
  match o, h with
  | some (some v), h => exact ⟨v, rfl, h⟩
def jI0 (g : Int → Int → V) : R2 := fun x y H Q => match x, y with
  | .int i, .int j => Q (g i j) H
  | _, _ => False
def jI (C : Int → Int → Prop) (g : Int → Int → V) : R2 := fun x y H Q => match x, y with
  | .int i, .int j => C i j ∧ Q (g i j) H
  | _, _ => False
theorem jI0.ex {g : Int → Int → V} {x y : V} {H : Hp} {Q : VK} (h : jI0 g x y H Q) : rI0 g x y H Q := by
  match x, y, h with
  | .int i, .int j, h => exact ⟨i, j, rfl, rfl, h⟩
theorem jI.ex {C : Int → Int → Prop} {g : Int → Int → V} {x y : V} {H : Hp} {Q : VK} (h : jI C g x y H Q) : rI C g x y H Q := by
  match x, y, h with
  | .int i, .int j, h => exact ⟨i, j, rfl, rfl, h.1, h.2⟩
section
variable {X : Cx}
variable {x : Str} {k j : Nat} {ps : List Str} {sp : Sp} {e : Expr} {es : List Expr} {t : TA} {p pos : Pos}
end
end Sv
namespace Sv
open PySem PySem.Spec PyProof.Rows L2
theorem forIn_foldl {α β : Type} {f : α → β → Sem (ForInStep β)} (g : β → α → β) : ∀ (l : List α) (c : β), (∀ x ∈ l, ∀ c, f x c = pure (.yield (g c x))) → forIn l c f = pure (l.foldl g c)
  | [], _, _ => rfl
  | x :: l, c, h => by
    rw [List.forIn_cons, h x List.mem_cons_self, pure_bind]
    exact forIn_foldl g l (g c x) fun y hy => h y (List.mem_cons_of_mem _ hy)
def clStep (env : Env) (b : List (Str × Addr)) (x : Str × NameKind) : List (Str × Addr) := if x.2 == .free then (x.1, (env.cells.lookup x.1).getD 0) :: b else b
def clOf (env : Env) (sc : Scope) : List (Str × Addr) := sc.names.foldl (clStep env) []
theorem closure_eq {env : Env} {sc : Scope} (hf : ∀ x ∈ sc.names, x.2 = .free → ∃ c, env.cells.lookup x.1 = some c) : closureFor sc env = pure (clOf env sc) := by
  simp only [closureFor]
  rw [forIn_foldl (clStep env) sc.names [] (fun x hx c => by
    obtain ⟨n, k⟩ := x
    cases hk : k == NameKind.free with
    | true =>
      obtain ⟨a, ha⟩ := hf (n, k) hx (by simpa using hk)
      have ha' : env.cells.lookup n = some a := ha
      simp only [clStep, hk, if_true, cellOf, ha', Option.getD_some, pure_bind]
    | false => simp only [clStep, hk, Bool.false_eq_true, if_false])]
  rfl
theorem cl_all {env : Env} : ∀ (names : List (Str × NameKind)) (acc : List (Str × Addr)), (∀ x ∈ names, x.2 = .free → ∃ c, env.cells.lookup x.1 = some c) → (∀ p ∈ acc, env.cells.lookup p.1 = some p.2) →
    ∀ p ∈ names.foldl (clStep env) acc, env.cells.lookup p.1 = some p.2
  | [], _, _, ha, p, hp => ha p hp
  | (n, k) :: r, acc, hf, ha, p, hp => by
    refine cl_all r (clStep env acc (n, k)) (fun x hx => hf x (List.mem_cons_of_mem _ hx)) (fun q hq => ?_) p hp
    unfold clStep at hq
    split at hq
    · rename_i hk
      rcases List.mem_cons.mp hq with e | hq
      · obtain ⟨c, hc⟩ := hf (n, k) List.mem_cons_self (by simpa using hk)
        have hc' : env.cells.lookup n = some c := hc
        rw [e]
        show env.cells.lookup n = some ((env.cells.lookup n).getD 0)
        rw [hc']
        rfl
      · exact ha q hq
    · exact ha q hq
theorem cl_sub {env : Env} : ∀ (names : List (Str × NameKind)) (acc : List (Str × Addr)) (p : Str × Addr), p ∈ acc → p ∈ names.foldl (clStep env) acc
  | [], _, _, h => h
  | (n, k) :: r, acc, p, h => by
    refine cl_sub r (clStep env acc (n, k)) p ?_
    unfold clStep
    split
    · exact List.mem_cons_of_mem _ h
    · exact h
theorem cl_mem {env : Env} : ∀ (names : List (Str × NameKind)) (acc : List (Str × Addr)) (x : Str), (x, NameKind.free) ∈ names → ∃ c, (x, c) ∈ names.foldl (clStep env) acc
  | [], _, _, h => nomatch h
  | (n, k) :: r, acc, x, h => by
    rcases List.mem_cons.mp h with e | h
    · have e1 : x = n := congrArg Prod.fst e
      have e2 : k = .free := (congrArg Prod.snd e).symm
      refine ⟨(env.cells.lookup n).getD 0, cl_sub r (clStep env acc (n, k)) _ ?_⟩
      simp [clStep, e1, e2]
    · exact cl_mem r (clStep env acc (n, k)) x h
theorem lookup_some {β : Type} : ∀ {l : List (Str × β)} {x : Str} {c : β}, (x, c) ∈ l → ∃ c', l.lookup x = some c'
  | [], _, _, h => nomatch h
  | (y, d) :: r, x, c, h => by
    rw [List.lookup_cons]
    cases e : x == y with
    | true => exact ⟨d, rfl⟩
    | false =>
      rcases List.mem_cons.mp h with q | q
      · cases q
        simp at e
      · exact lookup_some q
theorem relabel_back {env : Env} : ∀ {names : List (Str × NameKind)} {x : Str} {k' : NameKind},
    (names.map fun (n, k) => if (k == NameKind.free && env.scope.kind == .function && env.kindOf n == some .cell) then (n, NameKind.cell) else (n, k)).lookup x = some k' →
      names.lookup x = some k' ∨ (names.lookup x = some .free ∧ k' = .cell)
  | [], _, _, h => by simp at h
  | (n, k) :: r, x, k', h => by
    have ih := @relabel_back env r x k'
    rw [List.map_cons] at h
    dsimp only at h
    by_cases hc : (k == NameKind.free && env.scope.kind == .function && env.kindOf n == some .cell) = true
    · rw [if_pos hc] at h
      have hk : k = .free := by
        rw [Bool.and_eq_true, Bool.and_eq_true] at hc
        simpa using hc.1.1
      cases e : x == n with
      | true =>
        simp only [List.lookup_cons, e] at h ⊢
        rw [hk]
        exact .inr ⟨rfl, (Option.some.inj h).symm⟩
      | false =>
        simp only [List.lookup_cons, e] at h ⊢
        exact ih h
    · rw [if_neg hc] at h
      cases e : x == n with
      | true =>
        simp only [List.lookup_cons, e] at h ⊢
        exact .inl h
      | false =>
        simp only [List.lookup_cons, e] at h ⊢
        exact ih h
theorem relabel_free {env : Env} : ∀ {names : List (Str × NameKind)} {x : Str}, names.lookup x = some .free →
    (names.map fun (n, k) => if (k == NameKind.free && env.scope.kind == .function && env.kindOf n == some .cell) then (n, NameKind.cell) else (n, k)).lookup x = some .cell ∨
    (names.map fun (n, k) => if (k == NameKind.free && env.scope.kind == .function && env.kindOf n == some .cell) then (n, NameKind.cell) else (n, k)).lookup x = some .free
  | [], _, h => by simp at h
  | (n, k) :: r, x, h => by
    have ih := @relabel_free env r x
    rw [List.map_cons]
    dsimp only
    by_cases hc : (k == NameKind.free && env.scope.kind == .function && env.kindOf n == some .cell) = true
    · rw [if_pos hc]
      cases e : x == n with
      | true =>
        simp only [List.lookup_cons, e]
        exact .inl trivial
      | false =>
        simp only [List.lookup_cons, e] at h ⊢
        exact ih h
    · rw [if_neg hc]
      cases e : x == n with
      | true =>
        simp only [List.lookup_cons, e] at h ⊢
        exact .inr h
      | false =>
        simp only [List.lookup_cons, e] at h ⊢
        exact ih h
def cxC (X : Cx) (sc : Scope) (T : List Str) (cap : List Nat) (fp : List Addr) (s : Shared) (H : Hp) : Cx where
  prog := X.prog
  w := X.w
  K := X.K
  mg := X.mg
  base := X.base
  A := X.A
  N := T ++ cap.map fun i => X.N.getD i Str.empty
  s₀ := s
  H₀ := H
  env := compEnvC sc (clOf X.env sc) s.heap.objs.size X.env
  outer := X.stack
  stack := X.stack
  ex := fp
  fn := fun _ => false
  calm := X.calm
  pn := []
  xe := fun _ _ => False
structure COk (X : Cx) (sc : Scope) (cap : List Nat) : Prop where
  kind : sc.kind = .function
  nocell : ∀ y ∈ sc.names, y.2 ≠ .cell
  loc : ∀ y ∈ sc.names, y.2 = .local → sc.names.lookup y.1 = some .local
  free : ∀ y ∈ sc.names, y.2 = .free → X.env.kindOf y.1 = some .cell ∨ X.env.kindOf y.1 = some .free
  cap : ∀ i ∈ cap, ∃ x, X.N[i]? = some x ∧ sc.names.lookup x = some .free
def cChk (sc out : Scope) (N : List Str) (cap : List Nat) : Bool :=
  sc.kind == .function && (sc.names.all fun y => y.2 != .cell && (y.2 != .local || sc.names.lookup y.1 == some .local) && (y.2 != .free || (out.names.lookup y.1 == some .cell || out.names.lookup y.1 == some .free))) &&
    cap.all fun i => match N[i]? with | some x => sc.names.lookup x == some .free | none => false
theorem COk.of {X : Cx} {sc out : Scope} {N : List Str} {cap : List Nat} (ho : X.env.scope = out) (hN : X.N = N) (h : cChk sc out N cap = true) : COk X sc cap := by
  unfold cChk at h
  rw [Bool.and_eq_true, Bool.and_eq_true, List.all_eq_true, List.all_eq_true] at h
  obtain ⟨⟨h1, h2⟩, h3⟩ := h
  have h2' : ∀ y ∈ sc.names, y.2 ≠ .cell ∧ (y.2 = .local → sc.names.lookup y.1 = some .local) ∧ (y.2 = .free → out.names.lookup y.1 = some .cell ∨ out.names.lookup y.1 = some .free) := fun y hy => by
    have q := h2 y hy
    rw [Bool.and_eq_true, Bool.and_eq_true] at q
    obtain ⟨⟨q1, q2⟩, q3⟩ := q
    refine ⟨by simpa using q1, fun e => ?_, fun e => ?_⟩
    · rw [e] at q2
      simpa using q2
    · rw [e] at q3
      simpa using q3
  refine ⟨by simpa using h1, fun y hy => (h2' y hy).1, fun y hy => (h2' y hy).2.1, fun y hy e => ?_, fun i hi => ?_⟩
  · have q := (h2' y hy).2.2 e
    rw [← ho] at q
    exact q
  · have q := h3 i hi
    rw [hN]
    cases e : N[i]? with
    | none =>
      rw [e] at q
      cases q
    | some x =>
      rw [e] at q
      exact ⟨x, rfl, by simpa using q⟩
section
variable {X : Cx} {sc : Scope} {T : List Str} {cap : List Nat} {fp : List Addr} {pins : List (Addr × Obj)} {σ : L2.St} {H : Hp} {s : Shared} {h₁ : Heap} {t' : Nat} {m : Str → Option Value}
theorem COk.cells (O : COk X sc cap) (ok : X.Ok) : ∀ x ∈ sc.names, x.2 = .free → ∃ c, X.env.cells.lookup x.1 = some c := fun x hx e => ok.has x.1 (O.free x hx e)
theorem COk.cl (O : COk X sc cap) (ok : X.Ok) {x : Str} {c : Addr} (h : (clOf X.env sc).lookup x = some c) : X.env.cells.lookup x = some c :=
  cl_all sc.names [] (O.cells ok) (fun p hp => nomatch hp) (x, c) (PySem.mem_of_lookup h)
theorem COk.has (O : COk X sc cap) {x : Str} (h : sc.names.lookup x = some .free) : ∃ c, (clOf X.env sc).lookup x = some c := by
  obtain ⟨c, hc⟩ := cl_mem (env := X.env) sc.names [] x (PySem.mem_of_lookup h)
  exact lookup_some hc
theorem inv_comp (O : COk X sc cap) (I : Inv X pins σ H s) (hf : ∀ b ∈ fp, FpOk X pins H b) (hfo : ∀ b ∈ fp, ∃ o, s.heap.get? b = some o) (hn : h₁.Ns s.heap.objs.size m) (keep : ∀ b o, s.heap.get? b = some o → h₁.get? b = some o) :
    Inv (cxC X sc T cap fp s H) [] (List.replicate T.length none ++ cap.map fun i => σ.getD i none) H { s with heap := h₁, toks := t' } := by
  have cle : ∀ x c, (clOf X.env sc).lookup x = some c → X.env.cells.lookup x = some c := fun x c h => O.cl I.ok h
  have fr : ∀ x, (cxC X sc T cap fp s H).env.kindOf x = some .cell ∨ (cxC X sc T cap fp s H).env.kindOf x = some .free → sc.names.lookup x = some .free := fun x h => by
    rcases h with h | h
    · rcases relabel_back (env := X.env) (names := sc.names) (x := x) h with q | q
      · exact absurd rfl (O.nocell _ (PySem.mem_of_lookup q))
      · exact q.1
    · rcases relabel_back (env := X.env) (names := sc.names) (x := x) h with q | q
      · exact q
      · exact q.1
  refine ⟨⟨I.ok.mod, O.kind, I.ok.glob, I.ok.blt, Nat.le_refl _, fun x y c h1 h2 => I.ok.inj x y c (cle x c h1) (cle y c h2), fun x h => O.has (fr x h), fun x c h => absurd h Bool.false_ne_true, I.ok.hd, I.ok.frames, .inl rfl,
    fun b hb => ?_, I.bs, Nat.le_trans I.ok.bsz I.sz, fun b o e hb => ?_, fun b hb h => ?_, I.stack, I.stkFree⟩, rfl, I.bare, Un.kept keep, ⟨m, hn, fun i x v e1 e2 e3 => ?_⟩, fun x c e => ?_, I.hok.fresh (Nat.le_refl _), fun x c e => I.freeC x c (cle x c e),
    fun p hp => absurd hp (by simp [cxC]), I.hok.kept keep, ?_⟩
  · obtain ⟨o, ho⟩ := hfo b hb
    exact ⟨Nat.ne_of_lt (Heap.lt_size ho), fun x c e => (hf b hb).2.2.2.2.1 x c (cle x c e)⟩
  · rcases (hf b hb).2.2.2.1 with z | z
    · exact I.ok.noex b o e z
    · exact absurd (Nat.lt_of_lt_of_le (Heap.lt_size e) (Nat.le_trans I.ok.bsz z)) (Nat.lt_irrefl _)
  · rcases List.mem_cons.mp (I.stkSub b h) with z | z
    · exact (hf b hb).2.1 z
    · exact (hf b hb).2.2.1 z
  · have e1' : (T ++ cap.map fun i => X.N.getD i Str.empty)[i]? = some x := e1
    by_cases hi : i < T.length
    · rw [List.getElem?_append_left (by simpa using hi), List.getElem?_replicate] at e2
      split at e2 <;> cases e2
    · rw [List.getElem?_append_right (by simpa using hi), List.length_replicate, List.getElem?_map] at e2
      rw [List.getElem?_append_right (by simpa using hi), List.getElem?_map] at e1'
      cases q : cap[i - T.length]? with
      | none => rw [q] at e2; cases e2
      | some j =>
        rw [q] at e1' e2
        obtain ⟨x', hx', hfr⟩ := O.cap j (List.mem_of_getElem? q)
        have ex : x' = x := by
          have z : X.N.getD j Str.empty = x := Option.some.inj e1'
          rw [List.getD_eq_getElem?_getD, hx'] at z
          exact z
        subst ex
        have ev : σ[j]? = some (some v) := by
          have z : σ.getD j none = some v := Option.some.inj e2
          rw [List.getD_eq_getElem?_getD] at z
          cases q2 : σ[j]? with
          | none => rw [q2] at z; cases z
          | some y => rw [q2] at z; exact congrArg some z
        have vis := O.free (x', .free) (PySem.mem_of_lookup hfr) rfl
        obtain ⟨m0, hn0, hl0⟩ := I.loc
        obtain ⟨u, r, l⟩ := hl0 j x' v hx' ev (.inr vis)
        refine ⟨u, r, .inr ⟨relabel_free (env := X.env) hfr, ?_⟩⟩
        obtain ⟨c', hc'⟩ := O.has hfr
        rcases l with ⟨kk, _⟩ | ⟨_, c, ec, z⟩
        · rcases vis with z | z
          · rw [show X.env.kindOf x' = some .local from kk] at z; cases z
          · rw [show X.env.kindOf x' = some .local from kk] at z; cases z
        · have e := cle x' c' hc'
          rw [ec] at e
          cases e
          obtain ⟨o, ho, hd⟩ := z
          exact ⟨_, hc', o, keep _ o ho, hd⟩
  · obtain ⟨v, o, ho, hd⟩ := I.cell x c (cle x c e)
    exact ⟨v, o, keep c o ho, hd⟩
  · show _ = (T ++ cap.map fun i => X.N.getD i Str.empty).length
    simp
end
section
variable {prog : Program} {w : World} {A : Around} {R : Result → Shared → Prop} {s : Shared}
theorem compLoop_any {elt target iter : Expr} {ifs : List Expr} {scope : Scope} {pos : Pos} {it acc : Value} {env : Env} (I : Nat → Shared → Prop)
    (turn : ∀ n s, I n s → wpAny (model prog w) A (pyNext it) (fun r s₁ => match r with
      | none => R (.ok .next) s₁
      | some v => wpAny (model prog w) A (letOwnedTupleGo target it v) (fun _ s₀ => wpAny (model prog w) A (assign target env v) (fun _ s₂ =>
          wpAny (model prog w) A (forIn ifs true fun c r => if r = true then do let ok ← isTrue c env (eval c env); pure (ForInStep.yield ok) else pure (ForInStep.yield r)) (fun ok s₃ =>
            if ok = true then wpAny (model prog w) A (eval elt env) (fun x s₄ => wpAny (model prog w) A (call (.builtin "list.append") [acc, x]) (fun _ s₅ => ∃ m, m < n ∧ I m s₅) (fun _ _ => False) s₄) (fun _ _ => False) s₃
            else ∃ m, m < n ∧ I m s₃) (fun _ _ => False) s₂) (fun _ _ => False) s₀) (fun _ _ => False) s₁) (fun _ _ => False) s)
    (n : Nat) (h : I n s) : codeAny (model prog w) A (.compLoop (.ListComp elt [⟨target, iter, ifs, 0⟩] scope pos) 0 it acc env) R s := by
  refine codeAny_loop rfl I (fun n s hI => ?_) n h
  show wpAny _ A ((compTurn (.ListComp elt [⟨target, iter, ifs, 0⟩] scope pos) 0 it acc env).onRaise (fun x => do noteFrame x env; theTreesLotGoes x)) _ _ s
  refine wpAny_noted ?_
  rw [compTurn_list]
  have nf : ∀ {E : Value → Shared → Prop} (x : Value) (s : Shared), (fun _ _ => False : Value → Shared → Prop) x s → E x s := fun _ _ z => z.elim
  refine wpAny_bind (wpAny_standAt (wpAny_bind (wpAny_mono (turn n s hI) (fun r s₁ h₁ => ?_) nf)))
  cases r with
  | none => exact wpAny_pure h₁
  | some v =>
    refine wpAny_bind (wpAny_mono h₁ (fun _ s₀ h₀ => wpAny_bind (wpAny_mono h₀ (fun _ s₂ h₂ => wpAny_bind (wpAny_mono h₂ (fun ok s₃ h₃ => ?_) nf)) nf)) nf)
    cases ok with
    | false => exact wpAny_pure ⟨rfl, h₃⟩
    | true => exact wpAny_bind (wpAny_bind (wpAny_mono h₃ (fun x s₄ h₄ => wpAny_bind (wpAny_mono h₄ (fun _ s₅ h₅ => wpAny_pure (wpAny_pure ⟨rfl, h₅⟩)) nf)) nf))
end
def PIfs (X : Cx) (ifs : List Expr) (tc : TT) : Prop := ∀ (pins : List (Addr × Obj)) (s : Shared) (σ : L2.St) (H : Hp) (Q : Bool → Hp → Prop), Inv X pins σ H s → tc σ H Q →
  wpAny (model X.prog X.w) X.A (forIn ifs true fun c r => if r = true then do let ok ← isTrue c X.env (eval c X.env); pure (ForInStep.yield ok) else pure (ForInStep.yield r)) (TP X pins σ Q) X.xe s
def tYes : TT := fun _ H Q => Q true H
theorem pifs_nil {X : Cx} : PIfs X [] tYes := fun _ _ _ H _ I h => wpAny_tests_nil ⟨H, I, h⟩
theorem pifs_one {X : Cx} {c : Expr} {tc : TT} (hc : PT X c tc) : PIfs X [c] tc := fun pins s σ H Q I h => wpAny_tests_one (hc pins s σ H Q I h)
def CompR (D : Addr) (J : It) (g : TG) (tc : TT) (te : TE) (σ : L2.St) (H : Hp) (Q : VK) : Prop :=
  ∃ W : Nat → Nat → L2.St → Hp → Prop, (∃ m, W 0 m σ H) ∧ ∀ i m σ H, W i m σ H →
    (J.stop i H ∧ Q (.ref D) H) ∨ (J.go i H ∧ ∃ N : L2.St → Hp → Prop, (∀ σ' H', N σ' H' → ∃ m', m' < m ∧ W (i + 1) m' σ' H') ∧
      ∀ x H', J.yld i H x H' → g x σ H' fun σ2 H2 => tc σ2 H2 fun b H3 => if b = true then te σ2 H3 fun y H4 => ∃ ys, H4 D = some (.lst ys) ∧ ys.length < sizeLine ∧ N σ2 (upd H4 D (.lst (ys ++ [y]))) else N σ2 H3)
def CmpR (nT : Nat) (cap : List Nat) (g : TG) (tc : TT) (te : TE) (J : It) (σ : L2.St) (H : Hp) (Q : VK) : Prop :=
  ∀ D, H D = none → CompR D J g tc te (List.replicate nT none ++ cap.map fun i => σ.getD i none) (upd H D (.lst [])) Q
def tComp (wi : TI) (nT : Nat) (cap : List Nat) (g : TG) (tc : TT) (te : TE) : TE := fun σ H Q => wi σ H fun J H1 => CmpR nT cap g tc te J σ H1 Q
section
variable {X : Cx} {sc : Scope} {T : List Str} {cap : List Nat} {tg elt iter : Expr} {ifs : List Expr} {pos : Pos} {g : TG} {tc : TT} {te : TE} {wi : TI}
theorem comp_core {pins : List (Addr × Obj)} {s₂ : Shared} {σ : L2.St} {H2 : Hp} {it : Addr} {fp : List Addr} {tn : Nat → Heap → Prop} {J : It} {Q : VK} {RR : Value → Addr → Result → Shared → Prop} {E : Value → Shared → Prop}
    (hc : X.calm = true) (O : COk X sc cap) (hg : ∀ fp s H, PG (cxC X sc T cap fp s H) tg g) (hifs : ∀ fp s H, PIfs (cxC X sc T cap fp s H) ifs tc) (helt : ∀ fp s H, PE (cxC X sc T cap fp s H) elt te)
    (I2 : Inv X pins σ H2 s₂) (Tn : Turn X.prog X.w X.K tg J fp it tn) (st2 : tn 0 s₂.heap) (f2 : ∀ b ∈ fp, FpOk X pins H2 b) (h : CmpR T.length cap g tc te J σ H2 Q)
    (hRR : ∀ D C s' H', Inv X pins σ H' s' → FpOk X pins H' C → (∃ m, s'.heap.Ns C m) → Q (.ref D) H' → RR (.ref D) C (.ok .next) s') :
    wpAny (model X.prog X.w) X.A (newList []) (fun acc s₃ => wpAny (model X.prog X.w) X.A (newFunctionEnv sc X.env.globals (clOf X.env sc) [] X.env.qual none .none (some X.env)) (fun cenv s₄ =>
      codeAny (model X.prog X.w) X.A (.compStart (.ListComp elt [⟨tg, iter, ifs, 0⟩] sc pos) 0 (.ref it) acc { cenv with scope := relabel sc X.env }) (RR acc cenv.locals) s₄) E s₃) E s₂ := by
  have I3 := I2.lnew (its := []) (ys := []) (t' := s₂.toks) .nil (Nat.zero_le _)
  have hD : H2 s₂.heap.objs.size = none := I2.fresh
  obtain ⟨W, ⟨m0, w0⟩, turn⟩ := h _ hD
  refine wpAny_newObj_type (wpAny_newFunctionEnv O.nocell (by intro y hy; simp at hy) (fun h₁ hns₁ hsb₁ => ?_) O.kind)
  dsimp only at hns₁ hsb₁ ⊢
  generalize hs3 : ({ s₂ with heap := s₂.heap.push { cls := .type "list", data := .seq ([] : List Value).toArray }, toks := s₂.toks } : Shared) = s3 at I3
  have eh : s₂.heap.push { cls := .type "list", dict := none, data := .seq ([] : List Value).toArray } = s3.heap := by rw [← hs3]
  have e3 : s3.os = s₂.os := by rw [← hs3]
  have keep2 : ∀ b o, s₂.heap.get? b = some o → s3.heap.get? b = some o := fun b o e => by rw [← eh]; exact Heap.get?_push_of_some _ e
  have keep : ∀ b o, s3.heap.get? b = some o → h₁.get? b = some o := fun b o e => by
    rw [eh] at hsb₁
    rw [hsb₁.2 b (Nat.ne_of_lt (Heap.lt_size e))]
    exact Heap.get?_push_of_some _ e
  have f3 : ∀ b ∈ fp, FpOk X pins (upd H2 s₂.heap.objs.size (.lst [])) b := fun b hb => by
    refine ⟨?_, (f2 b hb).2⟩
    obtain ⟨o, ho, _⟩ := Tn.obj 0 _ st2 b hb
    rw [upd_ne (Nat.ne_of_lt (Heap.lt_size ho))]
    exact (f2 b hb).1
  have fo3 : ∀ b ∈ fp, ∃ o, s3.heap.get? b = some o := fun b hb => by
    obtain ⟨o, ho, _⟩ := Tn.obj 0 _ st2 b hb
    exact ⟨o, keep2 b o ho⟩
  have hns : h₁.Ns s3.heap.objs.size (fun x => ([] : List (Str × Value)).reverse.lookup x) := by rw [← eh]; exact hns₁
  have I4 := fun t' => inv_comp (T := T) (fp := fp) (t' := t') O I3 f3 fo3 hns keep
  have st4 : tn 0 h₁ := Tn.keep 0 _ _ st2 fun b _ o e => keep b o (keep2 b o e)
  generalize hX : cxC X sc T cap fp s3 (upd H2 s₂.heap.objs.size (.lst [])) = X' at I4
  have ex : X'.ex = fp := by rw [← hX]; rfl
  have stat : ∀ {H' : Hp}, (∀ b ∈ fp, H' b = none) → ∀ b ∈ fp, FpOk X' [] H' b := fun hn b hb => by
    have ok := (I4 0).ok
    have q := ok.exf b (by rw [ex]; exact hb)
    refine ⟨hn b hb, q.1, ok.exfs b (by rw [ex]; exact hb), .inl (by rw [ex]; exact hb), q.2, fun p hp => ?_⟩
    subst hX
    exact absurd hp (by simp [cxC])
  have nf : ∀ {E : Value → Shared → Prop} (x : Value) (s : Shared), X'.xe x s → E x s := fun x s z => by
    subst hX
    exact False.elim z
  have loop : ∀ s4 : Shared, (∃ t', s4 = { s3 with heap := h₁, toks := t' }) → codeAny (model X.prog X.w) X.A (.compLoop (.ListComp elt [⟨tg, iter, ifs, 0⟩] sc pos) 0 (.ref it) (.ref s₂.heap.objs.size) (compEnvC sc (clOf X.env sc) s3.heap.objs.size X.env))
      (RR (.ref s₂.heap.objs.size) s3.heap.objs.size) s4 := by
    rintro s4 ⟨t', rfl⟩
    refine compLoop_any (fun n s' => ∃ i σ' H', Inv X' [] σ' H' s' ∧ tn i s'.heap ∧ (∀ b ∈ fp, H' b = none) ∧ W i n σ' H') ?_ m0 ⟨0, _, _, I4 t', st4, fun b hb => (f3 b hb).1, w0⟩
    rintro n s5 ⟨i, σ5, H5, I5, st5, fr5, w5⟩
    rcases turn i n σ5 H5 w5 with ⟨stop, qn⟩ | ⟨go, N, hN, step⟩
    · have ep : X'.prog = X.prog := by rw [← hX]; rfl
      have ew : X'.w = X.w := by rw [← hX]; rfl
      have eK : X'.K = X.K := by rw [← hX]; rfl
      have ec : X'.calm = true := by rw [← hX]; exact hc
      have eA : X'.A = X.A := by rw [← hX]; rfl
      have d := Tn.done X' ep ew eK ec i [] s5 σ5 H5 (fun _ _ => False) I5 (stat fr5) st5 stop
      rw [eA] at d
      refine thn d fun r s6 ⟨hr, I6⟩ => ?_
      subst hr
      have un := (Un.laid (fs := frs X.stack) (ex := fp) (o := .lst []) keep2 (Nat.le_refl _) hD).trans (by
        have b := I6.base
        subst hX
        exact b : Un (frs X.stack) fp (upd H2 s₂.heap.objs.size (.lst [])) H5 s3.heap s6.heap)
      have os6 : s6.os = s₂.os := by
        have q := I6.os
        subst hX
        exact q.trans e3
      have hok : HOk X.prog X.w H5 s6.heap := by
        have q := I6.hok
        rw [ep, ew] at q
        exact q
      have J1 : Inv X pins σ H5 s6 := I2.call' os6 un hok I6.bare fun b hb => ⟨(f2 b hb).2.2.2.1, (f2 b hb).2.1, (f2 b hb).2.2.2.2.1, (f2 b hb).2.2.2.2.2⟩
      have eL : X'.env.locals = s3.heap.objs.size := by rw [← hX]; rfl
      have sz : s₂.heap.objs.size ≤ s3.heap.objs.size := by rw [← eh, Heap.size_push]; exact Nat.le_succ _
      refine hRR _ _ s6 H5 J1 (I2.fpOk sz ?_) ?_ qn
      · rw [← eL]; exact I6.free
      · obtain ⟨m6, hm6, _⟩ := I6.loc
        rw [eL] at hm6
        exact ⟨m6, hm6⟩
    · have ep : X'.prog = X.prog := by rw [← hX]; rfl
      have ew : X'.w = X.w := by rw [← hX]; rfl
      have eK : X'.K = X.K := by rw [← hX]; rfl
      have ec : X'.calm = true := by rw [← hX]; exact hc
      have d := Tn.item X' ep ew eK ec i [] s5 σ5 H5 (fun _ _ => False) I5 (stat fr5) st5 go
      subst hX
      refine thn d fun r s6 ⟨u, hr, h6⟩ => ?_
      subst hr
      refine thn h6 fun _ s7 ⟨x, H7, I7, r7, y7, st7, fr7⟩ => ?_
      have I7' := I7.pinned (stat fr7) (Tn.obj _ _ st7)
      refine wpAny_mono (hg _ _ _ _ s7 σ5 H7 x u _ I7' r7 (step x H7 y7)) (fun _ s8 ⟨σ8, H8, I8, q8⟩ => ?_) nf
      refine wpAny_mono (hifs _ _ _ _ s8 σ8 H8 _ I8 q8) (fun b s9 ⟨H9, I9, q9⟩ => ?_) nf
      have again : ∀ {s' : Shared} {σ' : L2.St} {H' : Hp}, Inv (cxC X sc T cap fp s3 (upd H2 s₂.heap.objs.size (.lst []))) ([] ++ pinsAt fp s7.heap) σ' H' s' → N σ' H' →
          ∃ m, m < n ∧ ∃ i σ' H', Inv (cxC X sc T cap fp s3 (upd H2 s₂.heap.objs.size (.lst []))) [] σ' H' s' ∧ tn i s'.heap ∧ (∀ b ∈ fp, H' b = none) ∧ W i m σ' H' := fun {s' σ' H'} Ia na => by
        obtain ⟨m', hm, w'⟩ := hN σ' H' na
        refine ⟨m', hm, i + 1, σ', H', Ia.unpinned, Tn.keep _ _ _ st7 fun b hb o e => (Ia.pin (b, o) (List.mem_append_right _ (List.mem_append_right _ (mem_pinsAt hb e)))).1, fun b hb => ?_, w'⟩
        obtain ⟨o, e, _⟩ := Tn.obj _ _ st7 b hb
        exact (Ia.pin (b, o) (List.mem_append_right _ (List.mem_append_right _ (mem_pinsAt hb e)))).2.1
      cases b with
      | false =>
        rw [if_neg Bool.false_ne_true] at q9 ⊢
        exact again I9 q9
      | true =>
        rw [if_pos rfl] at q9 ⊢
        refine wpAny_mono (helt _ _ _ _ s9 σ8 H9 _ I9 q9) (fun y s10 ⟨yv, H10, I10, ry, ys, hl, hz, n10⟩ => ?_) nf
        refine wpAny_mono (mt_append (X := cxC X sc T cap fp s3 (upd H2 s₂.heap.objs.size (.lst []))) _ s10 σ8 H10 (.ref s₂.heap.objs.size) [yv] (.ref s₂.heap.objs.size) [y] (fun _ H' => N σ8 H') I10 rfl (.cons ry .nil) ⟨_, ys, yv, rfl, rfl, hl, hz, n10⟩)
          (fun _ s11 ⟨_, H11, I11, _, n11⟩ => again I11 n11) nf
  subst hs3
  exact codeAny_compStart_list (loop _ ⟨_, rfl⟩) (Tn.self X.A 0 _ _ _ st4 (loop _ ⟨_, rfl⟩))
theorem pe_comp (hc : X.calm = true) (O : COk X sc cap) (hi : PI X tg iter wi) (hg : ∀ fp s H, PG (cxC X sc T cap fp s H) tg g) (hifs : ∀ fp s H, PIfs (cxC X sc T cap fp s H) ifs tc) (helt : ∀ fp s H, PE (cxC X sc T cap fp s H) elt te)
    (hs : ∀ x, foldedSetIterable iter X.env x = pure x := by intro _; rfl) : PE X (.ListComp elt [⟨tg, iter, ifs, 0⟩] sc pos) (tComp wi T.length cap g tc te) := by
  intro pins s σ H Q I h
  rw [eval_ListComp]
  refine wpAny_comprehension_free (use := none) rfl hs (closure_eq (O.cells I.ok)) O.kind O.loc (wpAny_mono (hi pins s σ H _ I h) (fun v s1 h1 => wpAny_mono h1 (fun itv s2 h2 => ?_) fun _ _ e => e) fun _ _ e => e)
  obtain ⟨it, fp, tn, J, H2, e, I2, Tn, st2, f2, R⟩ := h2
  subst e
  refine comp_core (RR := fun acc C => compPost (model X.prog X.w) X.A X.xe none (EP X pins σ Q) acc C) hc O hg hifs helt I2 Tn st2 f2 R fun D C s' H' I' f' hm q => ?_
  obtain ⟨m, hm⟩ := hm
  refine ⟨m, hm, fun h' hs' => ⟨.ref D, H', ?_, rfl, q⟩⟩
  exact I'.turned (t' := s'.toks) (fun b o hb e => (hs'.2 b hb).trans e) f'.1 f'.2.1 f'.2.2.2.1 f'.2.2.2.2.1 f'.2.2.2.2.2
def tSetComp (i : Nat) (te : TE) : TS := fun D σ H => te σ H fun x H1 => D.nx (σ.set i (some x)) H1
theorem ps_setComp {i : Nat} {x : Str} {px spos : Pos} (hc : X.calm = true) (O : COk X sc cap) (hN : X.N.Nodup) (hix : X.N[i]? = some x) (hx : Loc X.env.scope x) (hi : PI X tg iter wi) (hg : ∀ fp s H, PG (cxC X sc T cap fp s H) tg g) (hifs : ∀ fp s H, PIfs (cxC X sc T cap fp s H) ifs tc)
    (helt : ∀ fp s H, PE (cxC X sc T cap fp s H) elt te) (hsw : swapsWith (.ListComp elt [⟨tg, iter, ifs, 0⟩] sc pos) (some (.Name x px)) spos.line X.env = pure true := by rfl)
    (hf : X.fn x = true ∨ X.env.scope.names.lookup x = some .local := by first | exact .inl rfl | exact .inr rfl | assumption)
    (hs : ∀ x, foldedSetIterable iter X.env x = pure x := by intro _; rfl) : PS X (.Assign [.Name x px] (.ListComp elt [⟨tg, iter, ifs, 0⟩] sc pos) spos) (tSetComp i (tComp wi T.length cap g tc te)) := by
  intro pins s σ H D I h
  rw [exec_Assign_Name_used _ _ _ _ hsw]
  refine wpAny_bind (wpAny_standAt (wpAny_bind ?_))
  show wpAny _ X.A (do let _ ← comprehension (.ListComp elt [⟨tg, iter, ifs, 0⟩] sc pos) sc X.env _ (newList []) false (eval iter X.env) (some (assign (.Name x px) X.env))) _ _ s
  refine wpAny_bind (wpAny_mono (wpAny_comprehension_free (use := some (assign (.Name x px) X.env)) (Q := fun _ s' => SP X pins D .next s') rfl hs (closure_eq (O.cells I.ok)) O.kind O.loc
    (wpAny_mono (hi pins s σ H _ I h) (fun v s1 h1 => wpAny_mono h1 (fun itv s2 h2 => ?_) fun _ _ e => e) fun _ _ e => e)) (fun _ s' hq => wpAny_pure (wpAny_pure hq)) fun _ _ e => e)
  obtain ⟨it, fp, tn, J, H2, e, I2, Tn, st2, f2, R⟩ := h2
  subst e
  refine comp_core (RR := fun acc C => compPost (model X.prog X.w) X.A X.xe (some (assign (.Name x px) X.env)) (fun _ s' => SP X pins D .next s') acc C) hc O hg hifs helt I2 Tn st2 f2 R fun Dl C s' H' I' f' hm q => ?_
  obtain ⟨m, hm⟩ := hm
  show wpAny _ X.A (assign (.Name x px) X.env (.ref Dl)) _ _ s'
  refine wpAny_assign_Name (store_ok2 (v := .ref Dl) I' hN hix hx rfl (fun s'' I'' hsb => ?_) hf)
  obtain ⟨a, hsb, ha⟩ := hsb
  have hCa : C ≠ a := by
    rcases ha with z | z
    · rw [z]; exact f'.2.1
    · exact fun e => f'.2.2.2.2.1 x a z e.symm
  refine ⟨m, hm.sameBut hsb hCa, fun h' hs' => ⟨_, H', ?_, q⟩⟩
  exact I''.turned (t' := s''.toks) (fun b o hb e => (hs'.2 b hb).trans e) f'.1 f'.2.1 f'.2.2.2.1 f'.2.2.2.2.1 f'.2.2.2.2.2
end
structure ItOf (J : It) (xs : List V) (Ok : Hp → Prop) : Prop where
  go : ∀ i H, Ok H → i < xs.length → J.go i H
  yld : ∀ i H x H', Ok H → i < xs.length → J.yld i H x H' → H' = H ∧ xs[i]? = some x
  stop : ∀ i H, Ok H → xs.length ≤ i → J.stop i H
theorem itl {K : PySem.W.Frag} {a : Addr} {xs : List V} : ItOf (Itl K a) xs (fun H => SqL K H a xs) :=
  ⟨fun i _ h l => ⟨xs, xs[i], h, List.getElem?_eq_getElem l⟩, fun _ _ _ _ h _ y => ⟨y.1, y.2 xs h⟩, fun _ _ h l => ⟨xs, h, l⟩⟩
theorem CmpR.map {cap : List Nat} {te : TE} {J : It} {σ : L2.St} {H : Hp} {Q : VK} {xs : List V} {Ok : Hp → Prop} (f : V → V) (it : ItOf J xs Ok) (hz : xs.length ≤ 1000) (ok : ∀ D ys, H D = none → Ok (upd H D (.lst ys)))
    (hs : ∀ D x ys (Q' : VK), H D = none → x ∈ xs → Q' (f x) (upd H D (.lst ys)) → te (some x :: cap.map fun i => σ.getD i none) (upd H D (.lst ys)) Q')
    (hd : ∀ D, H D = none → Q (.ref D) (upd H D (.lst (xs.map f)))) : CmpR 1 cap (gName 0) tYes te J σ H Q := by
  intro D hD
  refine ⟨fun i m σ' H' => m = xs.length - i ∧ i ≤ xs.length ∧ ∃ t, σ' = t :: (cap.map fun i => σ.getD i none) ∧ H' = upd H D (.lst ((xs.take i).map f)), ⟨_, rfl, Nat.zero_le _, none, rfl, rfl⟩, fun i m σ' H' hw => ?_⟩
  obtain ⟨rfl, hi, t, rfl, rfl⟩ := hw
  by_cases lt : i < xs.length
  · refine .inr ⟨it.go i _ (ok D _ hD) lt, fun σ2 H2 => ∃ t, σ2 = t :: (cap.map fun i => σ.getD i none) ∧ H2 = upd H D (.lst ((xs.take (i + 1)).map f)), fun σ2 H2 n2 => ⟨_, ?_, rfl, lt, n2⟩, fun x H2 y => ?_⟩
    · omega
    · obtain ⟨rfl, hx⟩ := it.yld i _ x H2 (ok D _ hD) lt y
      show te (some x :: (cap.map fun i => σ.getD i none)) _ _
      refine hs D x _ _ hD (List.mem_of_getElem? hx) ⟨_, upd_same, ?_, _, rfl, ?_⟩
      · rw [List.length_map, List.length_take]
        exact small1000 (by omega)
      · rw [upd_upd, List.take_add_one, hx, List.map_append]
        rfl
  · obtain rfl : i = xs.length := by omega
    refine .inl ⟨it.stop _ _ (ok D _ hD) (Nat.le_refl _), ?_⟩
    rw [List.take_length]
    exact hd D hD
section
variable {wi : TI} {nT : Nat} {cap : List Nat} {g : TG} {tc : TT} {te : TE} {σ : L2.St} {H : Hp} {Q : VK} {D : Ends} {i : Nat} {Qb : Bool → Hp → Prop}
theorem comp_ : tComp wi nT cap g tc te σ H Q = wi σ H fun J H1 => CmpR nT cap g tc te J σ H1 Q := rfl
theorem setComp_ : tSetComp i te D σ H = te σ H fun x H1 => D.nx (σ.set i (some x)) H1 := rfl
theorem yes_ : tYes σ H Qb = Qb true H := rfl
end
theorem gsub_ {to ti : TE} {t : TSet} {v : V} {σ : L2.St} {H : Hp} {R : L2.St → Hp → Prop} : gSub to ti t v σ H R = to σ H fun o H1 => ti σ H1 fun i H2 => t o i v H2 fun H3 => R σ H3 := rfl
theorem setL_go {p : Addr} {xs : List V} {i : Nat} {v : V} {H : Hp} {Q : Hp → Prop} (h : H p = some (.lst xs)) (hi : i < xs.length) (q : Q (upd H p (.lst (xs.set i v)))) : rSetL (.ref p) (.int (i : Int)) v H Q := by
  refine ⟨p, xs, i, i, rfl, rfl, h, ?_, q⟩
  unfold ixN
  rw [if_pos (by omega), if_pos (by omega)]
  simp
def ItR (K : PySem.W.Frag) (x : V) (H : Hp) (R : It → Hp → Prop) : Prop := ∃ a, x = .ref a ∧ (∃ xs, SqT K H a xs) ∧ R (Itt K a) H
theorem ItR.go {K : PySem.W.Frag} {a : Addr} {xs : List V} {H : Hp} {R : It → Hp → Prop} (h : SqT K H a xs) (q : R (Itt K a) H) : ItR K (.ref a) H R := ⟨a, rfl, ⟨xs, h⟩, q⟩
theorem ForR.items {J : It} {xs : List V} {Ok : Hp → Prop} {g : TG} {tb : TS} {D : Ends} {σ : L2.St} {H : Hp} (it : ItOf J xs Ok) (Pv : Nat → L2.St → Hp → Prop) (h0 : Pv 0 σ H) (hok : ∀ i σ H, Pv i σ H → Ok H)
    (hs : ∀ i x σ H, xs[i]? = some x → Pv i σ H → g x σ H fun σ2 H2 => tb { D with nx := Pv (i + 1), ct := Pv (i + 1), bk := D.nx } σ2 H2) (hd : ∀ σ H, Pv xs.length σ H → D.nx σ H) : ForR J g tb D σ H := by
  refine ⟨fun i m σ H => m = xs.length - i ∧ i ≤ xs.length ∧ Pv i σ H, ⟨_, rfl, Nat.zero_le _, h0⟩, fun i m σ H hw => ?_⟩
  obtain ⟨rfl, hi, p⟩ := hw
  by_cases lt : i < xs.length
  · refine .inr ⟨it.go i H (hok i σ H p) lt, Pv (i + 1), fun σ' H' p' => ⟨_, ?_, rfl, lt, p'⟩, fun x H' y => ?_⟩
    · omega
    · obtain ⟨rfl, hx⟩ := it.yld i H x H' (hok i σ H p) lt y
      exact hs i x σ H' hx p
  · obtain rfl : i = xs.length := by omega
    exact .inl ⟨it.stop _ _ (hok _ _ _ p) (Nat.le_refl _), hd σ H p⟩
def Itc (z : Str) : It := ⟨fun i _ => i < z.cps.size, fun i H x H' => H' = H ∧ ∃ c, z.cps[i]? = some c ∧ x = .str ⟨#[c]⟩, fun i _ => z.cps.size ≤ i⟩
def IsR (x : V) (H : Hp) (R : It → Hp → Prop) : Prop := ∃ z, x = .str z ∧ R (Itc z) H
theorem IsR.go {z : Str} {H : Hp} {R : It → Hp → Prop} (q : R (Itc z) H) : IsR (.str z) H R := ⟨z, rfl, q⟩
end Sv
namespace Sv
open PySem PySem.Spec PyProof.Rows L2
open PySem.Builtin PySem.Builtin.Str
section
variable {X : Cx}
theorem log_small {i : Int} (h0 : 0 ≤ i) (h1 : i < 10 ^ 100) : i.natAbs.log2 < 1920 := by
  by_cases z : i.natAbs = 0
  · rw [z]; decide
  · rw [Nat.log2_lt z]
    have a : i.natAbs < 10 ^ 100 := by omega
    exact Nat.lt_of_lt_of_le (Nat.lt_of_lt_of_le a (by decide +kernel : 10 ^ 100 ≤ 2 ^ 400)) (Nat.pow_le_pow_right (by decide) (by decide))
def rCatQ (K : PySem.W.Frag) : R2 := fun x y H Q => ∃ l b xs zs, x = .ref l ∧ y = .ref b ∧ SqL K H l xs ∧ SqL K H b zs ∧ xs.length + zs.length ≤ sizeLine ∧ ∀ p, H p = none → Q (.ref p) (upd H p (.lst (xs ++ zs)))
theorem op_catQ : OpR X (binaryOp .Add) (rCatQ X.K) := by
  intro pins s σ H x y v u Q I rx ry h
  obtain ⟨l, b, xs, zs, rfl, rfl, h1, h2, hz, q⟩ := h
  cases rx
  cases ry
  obtain ⟨its, r, p, _⟩ := I.list h1
  obtain ⟨its2, r2, p2, _⟩ := I.list h2
  obtain ⟨⟨c, d, dt, sl⟩, n, e, hc, hd, hdt⟩ := p
  obtain ⟨⟨c2, d2, dt2, sl2⟩, n2, e2, hc2, hd2, hdt2⟩ := p2
  simp only at hc hd hdt hc2 hd2 hdt2
  subst hc hd hdt hc2 hd2 hdt2
  have l1 := r.length
  have l2 := r2.length
  refine concat_meets ⟨_, e, rfl⟩ ⟨_, e2, rfl⟩ noFill_list_add seq_list_add PySem.F.slot_list_add PySem.F.entry_list_add (PySem.F.args_list_add_2 _ _) (list_addW l b its.toArray its2.toArray n n2 none none sl sl2 (by rw [List.size_toArray, List.size_toArray]; omega)) ⟨e, e2, ?_⟩
  have ea : its.toArray ++ its2.toArray = (its ++ its2).toArray := by simp
  rw [ea]
  exact ⟨.ref _, _, I.lnew (t' := s.toks) (r.append r2) (by rw [List.length_append]; omega), rfl, q _ I.fresh⟩
theorem catQ_go {K : PySem.W.Frag} {l b : Addr} {xs zs : List V} {H : Hp} {Q : VK} (h1 : SqL K H l xs) (h2 : SqL K H b zs) (hz : xs.length + zs.length ≤ 1000000) (q : ∀ p, H p = none → Q (.ref p) (upd H p (.lst (xs ++ zs)))) : rCatQ K (.ref l) (.ref b) H Q :=
  ⟨l, b, xs, zs, rfl, rfl, h1, h2, Nat.le_trans hz (by decide), q⟩
end
end Sv
namespace Sv
open PySem PySem.Spec PyProof.Rows L2
def Chn : List (Addr × Obj) → Value → Prop
  | [], v => v = .none
  | p :: l, v => v = .ref p.1 ∧ ∃ (ws : Array Value) (c : Value), p.2.data = .fields ws ∧ ws[2]? = some c ∧ Chn l c
def Ctx2 (B : Heap) (U : Addr → Prop) (vs : Array Value) : Prop := ∃ (c : Value) (l : List (Addr × Obj)), vs[2]? = some c ∧ Chn l c ∧ ∀ p ∈ l, B.get? p.1 = some p.2 ∧ U p.1
theorem Ctx2.no {B : Heap} {U : Addr → Prop} {vs : Array Value} (h : vs[2]? = some .none) : Ctx2 B U vs := ⟨_, [], h, rfl, fun _ z => nomatch z⟩
theorem Ctx2.set {B : Heap} {U : Addr → Prop} {vs : Array Value} {x : Value} (h : Ctx2 B U vs) : Ctx2 B U (vs.setIfInBounds 1 x) := by
  obtain ⟨c, l, h1, r⟩ := h
  exact ⟨c, l, by rw [Array.getElem?_setIfInBounds_ne (by decide)]; exact h1, r⟩
def Tr (h B : Heap) (U : Addr → Prop) (e : Addr) (cls : Value) (dd : Option Addr) (fl : Value) : Prop :=
  ∃ (sl : Array (Option Value)) (vs : Array Value) (T : Addr) (oT : Obj) (ts : Array Value), h.get? e = some ⟨cls, dd, .fields vs, sl⟩ ∧ vs[1]? = some (.ref T) ∧ B.get? T = none ∧ T ≠ e ∧ h.get? T = some oT ∧ oT.data = .fields ts ∧ ts[3]? = some fl ∧ Ctx2 B U vs
def Raw (h B : Heap) (U : Addr → Prop) (e : Addr) (cls : Value) (dd : Option Addr) : Prop := ∃ (sl : Array (Option Value)) (vs : Array Value), h.get? e = some ⟨cls, dd, .fields vs, sl⟩ ∧ vs[1]? = some .none ∧ Ctx2 B U vs
structure FlyD (B : Heap) (U : Addr → Prop) (l : List Env) (e : Addr) (cls : Value) (dd : Option Addr) (fl : Value) (h : Heap) : Prop where
  st : B.StaysIn h
  ne : B.get? e = none
  fr : h.FunFrames B l
  tr : Tr h B U e cls dd fl
theorem upd_rest {h : Heap} {a : Addr} {o : Obj} {vs : Array Value} {f : Array Value → Array Value} (ha : h.get? a = some o) (hd : o.data = .fields vs) :
    (∀ b, b ≠ a → (h.update a (Obj.mapFields f)).get? b = h.get? b) ∧ (h.update a (Obj.mapFields f)).get? a = some { o with data := .fields (f vs) } ∧ ∀ b ob, h.get? b = some ob → (∀ ws, ob.data ≠ .fields ws) → (h.update a (Obj.mapFields f)).get? b = some ob := by
  have other : ∀ b, b ≠ a → (h.update a (Obj.mapFields f)).get? b = h.get? b := fun b hb => Heap.get?_update_other _ _ (Ne.symm hb)
  refine ⟨other, ?_, fun b ob hb nf => ?_⟩
  · obtain ⟨c, d, dt, sl⟩ := o
    have hdt : dt = .fields vs := hd
    subst hdt
    exact Heap.get?_update_self _ ha rfl
  · refine (other b fun z => ?_).trans hb
    rw [z, ha] at hb
    cases hb
    exact nf vs hd
theorem frames_up {h h' B : Heap} {l : List Env} (hl : h.FunFrames B l) (up : h.UpToSlots h') : h'.FunFrames B l := hl.of_keeps fun b o hb nf => by
  obtain ⟨sl, e⟩ := up b o hb nf
  exact ⟨_, e, rfl⟩
section
variable {M : Model} {A : Around} {E : Value → Shared → Prop} {s : Shared} {B : Heap} {U : Addr → Prop} {env : Env} {outer : List Env} {L e : Addr} {cls : Value} {dd : Option Addr} {Q : Unit → Shared → Prop}
theorem entry_d {vs : Array Value} {sl : Array (Option Value)} {head : Value} {had : Bool} (hfr : A.frames = some (env :: outer)) (hl : s.heap.FunFrames B (env :: outer)) (hf : env.frame = some L) (he : s.heap.get? e = some ⟨cls, dd, .fields vs, sl⟩)
    (hB : B.StaysIn s.heap) (hn : B.get? e = none) (hz : 1 < vs.size) (hc : Ctx2 B U vs) (k : ∀ h', FlyD B U (env :: outer) e cls dd (rawInt L) h' → s.heap.UpToSlots h' → Q () { s with heap := h' }) :
    wpAny M A (do let fr ← frameOf env; let pl ← entryPlaceOf L had; let en ← EntryCells.newEntry head fr .none (rawInt L) .none pl; setField (.ref e) 1 en) Q E s := by
  have eN : e ∉ (env :: outer).filterMap (·.frame) := fun hm => by
    obtain ⟨_, o, ho, nf⟩ := hl.mem hm
    rw [he] at ho
    cases ho
    exact nf vs rfl
  refine wpAny_bind (wpAny_frameOf_fun hfr hl hf fun h1 so => wpAny_bind (wpAny_entryPlaceOf fun pl hpl => ?_))
  unfold EntryCells.newEntry newFields
  refine wpAny_bind (wpAny_newObj_type ?_ (hpl.sizeOk5 _ _ _ _ _))
  have t3 : (([head, Value.ref L, .none, rawInt L, .none] ++ (if pl.isEmpty then List.replicate 6 Value.none else pl)).toArray : Array Value)[3]? = some (rawInt L) := by simp
  generalize (([head, Value.ref L, .none, rawInt L, .none] ++ (if pl.isEmpty then List.replicate 6 Value.none else pl)).toArray : Array Value) = ts at t3 ⊢
  have he1 : h1.get? e = some ⟨cls, dd, .fields vs, sl⟩ := (so.2.1 e eN).trans he
  have he2 : (h1.push { cls := .type "traceback", dict := none, data := .fields ts }).get? e = some ⟨cls, dd, .fields vs, sl⟩ := Heap.get?_push_of_some _ he1
  have hT : h1.objs.size ≠ e := Nat.ne_of_gt (Heap.lt_size he1)
  obtain ⟨u1, u2, u3⟩ := upd_rest (f := fun w => w.setIfInBounds 1 (Value.ref h1.objs.size)) he2 rfl
  have up : s.heap.UpToSlots ((h1.push { cls := .type "traceback", dict := none, data := .fields ts }).update e (Obj.mapFields fun w => w.setIfInBounds 1 (Value.ref h1.objs.size))) := fun b o hb nf => by
    obtain ⟨sl', q⟩ := so.2.2 b o hb
    exact ⟨sl', u3 b _ (Heap.get?_push_of_some _ q) nf⟩
  refine wpAny_setField he2 rfl hz (k _ ⟨fun b o hb => ?_, hn, frames_up hl up, ?_⟩ up)
  · have ne : b ≠ e := fun z => by rw [z, hn] at hb; cases hb
    have nf : b ∉ (env :: outer).filterMap (·.frame) := fun hm => by rw [(hl.mem hm).1] at hb; cases hb
    exact (u1 b ne).trans (Heap.get?_push_of_some _ ((so.2.1 b nf).trans (hB b o hb)))
  · have fresh : B.get? h1.objs.size = none := by
      cases q : B.get? h1.objs.size with
      | none => rfl
      | some o =>
        have nf : h1.objs.size ∉ (env :: outer).filterMap (·.frame) := fun hm => by rw [(hl.mem hm).1] at q; cases q
        have := (so.2.1 _ nf).trans (hB _ o q)
        exact absurd (Heap.lt_size this) (Nat.lt_irrefl _)
    exact ⟨sl, _, h1.objs.size, _, ts, u2, by simp [hz], fresh, hT, (u1 _ hT).trans (Heap.get?_push_size _ rfl), rfl, t3, hc.set⟩
theorem note_d (hfr : A.frames = some (env :: outer)) (hl : s.heap.FunFrames B (env :: outer)) (hf : env.frame = some L) (hB : B.StaysIn s.heap) (hn : B.get? e = none) (x : Raw s.heap B U e cls dd ∨ Tr s.heap B U e cls dd .none)
    (k : ∀ h', FlyD B U (env :: outer) e cls dd (rawInt L) h' → s.heap.UpToSlots h' → Q () { s with heap := h' }) : wpAny M A (noteFrame (.ref e) env) Q E s := by
  unfold noteFrame
  simp only [hf]
  rcases x with ⟨sl, vs, he, h1, hc⟩ | ⟨sl, vs, T, oT, ts, he, h1, hT, hne, ho, hd, h3, hc⟩
  · refine wpAny_bind (wpAny_field he rfl h1 ?_)
    rw [if_neg (by decide)]
    exact entry_d hfr hl hf he hB hn (Array.getElem?_eq_some_iff.mp h1).1 hc k
  · refine wpAny_bind (wpAny_field he rfl h1 ?_)
    rw [if_pos (show (Value.ref T != Value.none) = true by simp)]
    refine wpAny_bind (wpAny_field ho hd h3 ?_)
    rw [if_neg (show ¬ (Value.none == rawInt L) = true by simp [rawInt])]
    refine wpAny_bind (wpAny_setField ho hd (Array.getElem?_eq_some_iff.mp h3).1 ?_)
    obtain ⟨u1, u2, u3⟩ := upd_rest (f := fun w => w.setIfInBounds 3 Value.none) ho hd
    have up : s.heap.UpToSlots (s.heap.update T (Obj.mapFields fun w => w.setIfInBounds 3 Value.none)) := fun b o hb nf => ⟨o.slots, u3 b o hb nf⟩
    refine entry_d (s := { s with heap := s.heap.update T (Obj.mapFields fun w => w.setIfInBounds 3 Value.none) }) hfr (frames_up hl up) hf ((u1 e (Ne.symm hne)).trans he) (fun b o hb => ?_) hn (Array.getElem?_eq_some_iff.mp h1).1 hc fun h' f up' => k h' f (up.trans up')
    exact (u1 b fun z => by rw [z, hT] at hb; cases hb).trans (hB b o hb)
theorem flight_d {l : List Env} {fl : Value} (x : FlyD B U l e cls dd fl s.heap) (k : ∀ h', FlyD B U l e cls dd .none h' → s.heap.UpToSlots h' → Q () { s with heap := h' }) : wpAny M A (setFlight (.ref e) none) Q E s := by
  obtain ⟨hB, hn, hl, sl, vs, T, oT, ts, he, h1, hT, hne, ho, hd, h3, hc⟩ := x
  have hz : 3 < ts.size := (Array.getElem?_eq_some_iff.mp h3).1
  unfold setFlight
  refine wpAny_bind (wpAny_field he rfl h1 ?_)
  rw [if_pos (show (Value.ref T != Value.none) = true by simp)]
  obtain ⟨u1, u2, u3⟩ := upd_rest (f := fun w => w.setIfInBounds 3 Value.none) ho hd
  have up : s.heap.UpToSlots (s.heap.update T (Obj.mapFields fun w => w.setIfInBounds 3 Value.none)) := fun b o hb nf => ⟨o.slots, u3 b o hb nf⟩
  refine wpAny_setField ho hd hz (k _ ⟨fun b o hb => ?_, hn, frames_up hl up, ?_⟩ up)
  · exact (u1 b fun z => by rw [z, hT] at hb; cases hb).trans (hB b o hb)
  · exact ⟨sl, vs, T, _, _, (u1 e (Ne.symm hne)).trans he, h1, hT, hne, u2, rfl, by simp [hz], hc⟩
theorem leaves_d (hfr : A.frames = some (env :: outer)) (hl : s.heap.FunFrames B (env :: outer)) (hf : env.frame = some L) (hB : B.StaysIn s.heap) (hn : B.get? e = none) (x : Raw s.heap B U e cls dd ∨ Tr s.heap B U e cls dd .none)
    (k : ∀ h', FlyD B U outer e cls dd .none h' → s.heap.UpToSlots h' → Q () { s with heap := h' }) : wpAny M A (leaving env (.ref e)) Q E s := by
  unfold leaving
  refine wpAny_bind (note_d hfr hl hf hB hn x fun h1 f1 up1 => ?_)
  refine flight_d (s := { s with heap := h1 }) f1 fun h2 f2 up2 => k h2 ⟨f2.st, f2.ne, ?_, f2.tr⟩ (up1.trans up2)
  obtain ⟨_, _, q⟩ := f2.fr
  exact q
theorem lands_d (hfr : A.frames = some (env :: outer)) (hl : s.heap.FunFrames B (env :: outer)) (hf : env.frame = some L) (hB : B.StaysIn s.heap) (hn : B.get? e = none) (x : Raw s.heap B U e cls dd ∨ Tr s.heap B U e cls dd .none)
    (k : ∀ h', FlyD B U (env :: outer) e cls dd .none h' → s.heap.UpToSlots h' → Q () { s with heap := h' }) : wpAny M A (noteFrame (.ref e) env) (fun _ s2 => wpAny M A (setFlight (.ref e) none) Q E s2) E s :=
  note_d hfr hl hf hB hn x fun h1 f1 up1 => flight_d (s := { s with heap := h1 }) f1 fun h2 f2 up2 => k h2 f2 (up1.trans up2)
end
end Sv
namespace Sv
open PySem PySem.Spec PyProof.Rows L2
theorem obj_there {P : Program} {w : World} {H : Hp} {h : Heap} {a : Addr} {o : HO} (x : ObjOk P w H h a o) : ∃ ob, h.get? a = some ob := by
  cases o with
  | lst xs => obtain ⟨_, _, _, _, e⟩ := x; exact ⟨_, e⟩
  | tup xs => obtain ⟨_, _, _, ob, e, _⟩ := x; exact ⟨ob, e⟩
  | dK kvs => obtain ⟨_, _, _, _, ob, _, _, e, _⟩ := x; exact ⟨ob, e⟩
  | dT kvs => obtain ⟨_, _, _, _, ob, _, _, e, _⟩ := x; exact ⟨ob, e⟩
  | set S n => obtain ⟨ob, _, _, _, e, _⟩ := x; exact ⟨ob, e⟩
  | ins C dx fs => obtain ⟨_, _, _, e, _⟩ := x; exact ⟨_, e⟩
  | own y => exact x
  | xd fs => obtain ⟨_, ⟨ob, _, _, e, _⟩, _⟩ := x; exact ⟨ob, e⟩
  | rng lo hi => obtain ⟨_, _, _, e⟩ := x; exact ⟨_, e⟩
  | frz ob u => exact ⟨ob, x.1⟩
  | tbl ps => exact ⟨_, x⟩
  | met f y => exact ⟨_, x⟩
  | ext φ => exact x.2.1
theorem hok_exact {P : Program} {w : World} {H : Hp} {h h' : Heap} (x : HOk P w H h) (k : ∀ b o u, h.get? b = some o → H b = some u → h'.get? b = some o) : HOk P w H h' := fun a o e =>
  (x a o e).stay (fun b u hb q => by
    rcases hb with rfl | hb
    · exact k b u o q e
    · exact k b u _ q hb) (fun _ q => q) fun _ _ q => q
def Cov (B : Heap) (H : Hp) (hs h' : Heap) (fs : List Addr) : Prop := ∀ b o, h'.get? b = some o → b ∉ fs → ((∃ u, hs.get? b = some u) ∨ ∃ u, H b = some u) → B.get? b = some o
structure Fly (P : Program) (w : World) (outer : List Env) (H : Hp) (s : Shared) (H' : Hp) (xa : Addr) (cls : Value) (dd : Option Addr) (s' : Shared) : Prop where
  os : s'.os = s.os
  bare : AllBare s'.gens
  un : Un (frs outer) [] H H' s.heap s'.heap
  hok : HOk P w H' s'.heap
  fly : ∃ B, FlyD B (fun b => H' b = none) outer xa cls dd .none s'.heap ∧ Cov B H' s.heap s'.heap (frs outer)
  free : H' xa = none
  dct : ∀ d, dd = some d → ∃ fs, H' d = some (.xd fs)
def CXe (P : Program) (w : World) : CXT := fun outer H s E e s' => ∃ xa cls dd H', e = .ref xa ∧ Fly P w outer H s H' xa cls dd s' ∧ E cls dd H'
structure DefCx (X : Cx) : Prop where
  stk : X.stack = X.env :: X.outer
  frm : X.env.frame = some X.env.locals
  ex : X.ex = []
structure XeOut (X : Cx) (E : XK) : Prop extends DefCx X where
  out : ∀ e s', wpAny (model X.prog X.w) X.A (leaving X.env e) (fun _ s'' => CXe X.prog X.w X.outer X.H₀ X.s₀ E e s'') (fun e' s'' => CXe X.prog X.w X.outer X.H₀ X.s₀ E e' s'') s' → X.xe e s'
theorem xeOut_cx {P : Program} {w : World} {K : PySem.W.Frag} {mg : Str → Option Value} {base : Heap} {N : List Str} {qual : Str} {sc : Scope} {f : Addr} {cd : Value} {A : Around} {outer : List Env} {s : Shared} {H : Hp} {E : XK} :
    XeOut (cxOf (CXe P w) P w K mg base N qual sc f cd A outer s H E) E := ⟨⟨rfl, rfl, rfl⟩, fun _ _ h => h⟩
theorem mem_frs {env : Env} {outer : List Env} {L b : Addr} (hf : env.frame = some L) : b ∈ frs (env :: outer) ↔ b = L ∨ b ∈ frs outer := by
  unfold frs
  rw [List.filterMap_cons, hf]
  exact List.mem_cons
section
variable {X : Cx} {E : XK} {pins : List (Addr × Obj)} {σ : L2.St} {H : Hp} {s s' : Shared} {h' B : Heap}
theorem left_ok (hX : DefCx X) (J : Inv X pins σ H s') (st : B.StaysIn h') (up : s'.heap.UpToSlots h')
    (cov : ∀ b o, s'.heap.get? b = some o → b ∉ frs X.stack → ((∃ u, X.s₀.heap.get? b = some u) ∨ ∃ u, H b = some u) → B.get? b = some o) :
    Un (frs X.outer) [] X.H₀ H X.s₀.heap h' ∧ HOk X.prog X.w H h' ∧ Cov B H X.s₀.heap h' (frs X.outer) := by
  have neL : ∀ b u, X.s₀.heap.get? b = some u → b ≠ X.env.locals := fun b u e => Nat.ne_of_lt (Nat.lt_of_lt_of_le (Heap.lt_size e) J.ok.above)
  have nst : ∀ b, b ≠ X.env.locals → b ∉ frs X.outer → b ∉ frs X.stack := fun b h1 h2 h3 => by
    rw [hX.stk, mem_frs hX.frm] at h3
    exact h3.elim h1 h2
  have nex : ∀ b : Addr, b ∉ X.ex := fun b z => by rw [hX.ex] at z; cases z
  have exact : ∀ b o u, X.s₀.heap.get? b = some u → b ∉ frs X.outer → s'.heap.get? b = some o → h'.get? b = some o := fun b o u e hb q => st b o (cov b o q (nst b (neL b u e) hb) (.inl ⟨u, e⟩))
  have slots : ∀ b o, b ∈ frs X.outer → s'.heap.get? b = some o → ∃ sl, h'.get? b = some { o with slots := sl } := fun b o hb q => by
    have fm := J.funs.mem (b := b) hb
    obtain ⟨_, o', ho', hd'⟩ := fm
    rw [q] at ho'
    cases ho'
    exact up b o q hd'
  have trk : ∀ b u, H b = some u → ∃ o, s'.heap.get? b = some o ∧ h'.get? b = some o ∧ B.get? b = some o := fun b u e => by
    obtain ⟨o, ho⟩ := obj_there (J.hok b u e)
    have nb : b ∉ frs X.stack := fun z => by rw [J.stkFree b z] at e; cases e
    have q := cov b o ho nb (.inr ⟨u, e⟩)
    exact ⟨o, ho, st b o q, q⟩
  refine ⟨⟨fun b o e n hb _ => ?_, fun b o e n hb _ => ?_, fun b o e n _ => J.base.free b o e n (nex b), fun b o e _ => ?_, J.base.tups, J.base.frzs, J.base.tbls⟩, hok_exact J.hok fun b o u q e => ?_, fun b o q hb hc => ?_⟩
  · exact exact b o o e hb (J.base.keep b o e n hb (nex b))
  · obtain ⟨sl, e1⟩ := J.base.slot b o e n hb (nex b)
    obtain ⟨sl', e2⟩ := slots b _ hb e1
    exact ⟨sl', e2⟩
  · obtain ⟨o', e1⟩ := J.base.there b o e (nex b)
    by_cases hb : b ∈ frs X.outer
    · obtain ⟨sl', e2⟩ := slots b _ hb e1
      exact ⟨_, e2⟩
    · exact ⟨o', exact b o' o e hb e1⟩
  · obtain ⟨o', q1, q2, _⟩ := trk b u e
    rw [q] at q1
    cases q1
    exact q2
  · rcases hc with ⟨u, e⟩ | ⟨u, e⟩
    · obtain ⟨o', e1⟩ := J.base.there b u e (nex b)
      have c := cov b o' e1 (nst b (neL b u e) hb) (.inl ⟨u, e⟩)
      have := st b o' c
      rw [q] at this
      cases this
      exact c
    · obtain ⟨o', _, q2, q3⟩ := trk b u e
      rw [q] at q2
      cases q2
      exact q3
theorem land_ok (hX : DefCx X) (J : Inv X [] σ H s') (st : B.StaysIn h') (up : s'.heap.UpToSlots h')
    (cov : ∀ b o, s'.heap.get? b = some o → b ∉ frs X.stack → ((∃ u, X.s₀.heap.get? b = some u) ∨ (∃ u, H b = some u) ∨ ∃ p ∈ X.pn, p.1 = b) → B.get? b = some o) : Inv X [] σ H { s' with heap := h' } := by
  obtain ⟨un, hok, _⟩ := left_ok hX J st up fun b o q hb hc => cov b o q hb (hc.elim .inl fun z => .inr (.inl z))
  have cellK : ∀ c v, s'.heap.IsCell c v → h'.IsCell c v := fun c v ⟨o, ho, hd⟩ => by
    obtain ⟨sl, e⟩ := up c o ho fun ws z => by rw [hd] at z; cases z
    exact ⟨_, e, hd⟩
  refine ⟨J.ok, J.os, J.bare, ?_, ?_, fun x c e => ?_, J.free, J.freeC, fun p hp => ?_, hok, J.len⟩
  · have e : X.ex = [] := hX.ex
    rw [e]
    exact un
  · obtain ⟨m, hn, hl⟩ := J.loc
    refine ⟨m, up.ns hn, fun i x v e1 e2 e3 => ?_⟩
    obtain ⟨u, r, l⟩ := hl i x v e1 e2 e3
    refine ⟨u, r, ?_⟩
    rcases l with l | ⟨k, c, e, z⟩
    · exact .inl l
    · exact .inr ⟨k, c, e, cellK c _ z⟩
  · obtain ⟨v, z⟩ := J.cell x c e
    exact ⟨v, cellK c v z⟩
  · obtain ⟨e, n, ne, nf, d⟩ := J.pin p hp
    have nb : p.1 ∉ frs X.stack := fun z => by
      rw [hX.stk, mem_frs hX.frm] at z
      exact z.elim ne nf
    have hp' : p ∈ X.pn := by simpa using hp
    exact ⟨st _ _ (cov _ _ e nb (.inr (.inr ⟨p, hp', rfl⟩))), n, ne, nf, d⟩
theorem leave_made {e : Addr} {cls : Value} {dd : Option Addr} (hX : XeOut X E) (J : Inv X pins σ H s) (hx : Raw s.heap (PySem.W.hideAll s.heap (e :: frs (X.env :: X.outer))) (fun b => H b = none) e cls dd) (h0 : X.s₀.heap.get? e = none) (hf : H e = none) (hd : ∀ d, dd = some d → ∃ fs, H d = some (.xd fs)) (hE : E cls dd H) : X.xe (.ref e) s := by
  refine hX.out _ _ ?_
  have stk := J.stack
  rw [hX.stk] at stk
  have hfr : X.A.frames = some (X.env :: X.outer) := by rw [← hX.stk]; exact J.ok.frames
  have hin : ∀ env ∈ (X.env :: X.outer), ∀ a, env.frame = some a → a ∈ e :: frs (X.env :: X.outer) := fun env he a ha => List.mem_cons_of_mem _ (List.mem_filterMap.mpr ⟨env, he, ha⟩)
  refine leaves_d (B := PySem.W.hideAll s.heap (e :: frs (X.env :: X.outer))) hfr (PySem.W.funFrames_hide stk hin) hX.frm (fun b o q => PySem.W.of_hideAll _ q) (PySem.W.hideAll_none _ List.mem_cons_self) (.inl hx) fun h' x1 x4 => ?_
  have cov : ∀ b o, s.heap.get? b = some o → b ∉ frs X.stack → ((∃ u, X.s₀.heap.get? b = some u) ∨ ∃ u, H b = some u) → (PySem.W.hideAll s.heap (e :: frs (X.env :: X.outer))).get? b = some o := fun b o q hb hc => by
    refine PySem.W.hideAll_get _ q fun z => ?_
    rcases List.mem_cons.mp z with z | z
    · rcases hc with ⟨u, e'⟩ | ⟨u, e'⟩
      · rw [z, h0] at e'; cases e'
      · rw [z, hf] at e'; cases e'
    · rw [hX.stk] at hb
      exact hb z
  obtain ⟨un, hok, cv⟩ := left_ok hX.toDefCx J x1.st x4 cov
  exact ⟨e, cls, dd, H, rfl, ⟨J.os, J.bare, un, hok, ⟨_, x1, cv⟩, hf, hd⟩, hE⟩
end
theorem fun_okX {P : Program} {w : World} {K : PySem.W.Frag} {mg : Str → Option Value} {base : Heap} {x qual : Str} {st : Stmt} {f : Addr} {fd : FuncData} {N ps : List Str} {k : Nat} {sp : Sp} (F : Fun K x qual st f fd) (S : FnScope N ps (defScope st)) (len : ∀ vs H Q E, sp vs H Q E → vs.length = ps.length)
    (hbody : ∀ (cdv : Value) (A : Around) (outer : List Env) (s : Shared) (H : Hp) (vs : List V) (Q : VK) (E : XK), Room k (A.deeper (envOfC qual (defScope st) s.heap.objs.size f cdv)) → sp vs H Q E →
      ∃ t, PSs (cxOf (CXe P w) P w K mg base N qual (defScope st) f cdv A outer s H E) (defBody st) t ∧ t { nx := fun _ H' => Q .non H', rt := Q } (start N vs) H) : FnOk P w K mg base (CXe P w) (k + 1) f fd ps sp := by
  obtain ⟨oc, od, kV, doc, pm, an, cdv, ct, osl, rfl, lk, hcd⟩ := F.ex
  exact fn_of lk hcd S len fun A outer s H vs Q E hr hsp => hbody cdv A outer s H vs Q E hr hsp
structure ExcC (K : PySem.W.Frag) (mg : Str → Option Value) (x : Str) (C : Addr) : Prop where
  mg : mg x = some (.ref C)
  own : ∃ (Bn newId initId : String) (bm : List Value), ExcBaseFacts Bn newId initId bm ∧ PySem.W.excIn K C bm newId = true
theorem ExcC.cls {K : PySem.W.Frag} {mg : Str → Option Value} {x : Str} {C : Addr} {h : Heap} (O : ExcC K mg x C) (kin : K.In h) : ∃ (Bn newId initId : String) (bm : List Value), ExcBaseFacts Bn newId initId bm ∧ OwnCls x C bm newId mg h := by
  obtain ⟨Bn, newId, initId, bm, F, q⟩ := O.own
  refine ⟨Bn, newId, initId, bm, F, O.mg, ?_⟩
  unfold PySem.W.excIn at q
  split at q
  · rename_i dd cd sl ho
    split at q
    · rename_i C' tl k0 k1 k2 k3 n k5 hm hs
      simp only [Bool.and_eq_true, beq_iff_eq, Bool.not_eq_true'] at q
      obtain ⟨⟨⟨⟨⟨rfl, rfl⟩, hdel⟩, ht⟩, hok⟩, hni⟩ := q
      obtain ⟨nm, bs, mro, ns, qn, hd, sn, sub, ab, col, del⟩ := cd
      dsimp only at hm hdel hok hni
      subst hm hdel
      have hsl : sl = #[k0, k1, k2, k3, some (.builtin n), k5] := by
        obtain ⟨l⟩ := sl
        simp only at hs
        rw [hs]
      subst hsl
      exact ⟨tl, ns, nm, qn, bs, hd, sn, sub, ab, col, dd, k0, k1, k2, k3, k5, _, kin _ _ ho, .of_isNs (PySem.W.isNs_of_in kin hok), PySem.W.nsMap_none_of_in kin hok hni, PySem.W.tail_of_in kin ht⟩
    · cases q
  · cases q
def tRaise (C : Addr) (E : XK) (t : TA) : TS := fun _ σ H => t σ H fun vs H1 => vs.length ≤ sizeLine ∧ E (.ref C) none H1
theorem ps_raise {X : Cx} {E : XK} {x : Str} {C : Addr} {np cpos pos : Pos} {e : Expr} {es : List Expr} {t : TA} (hX : XeOut X E) (O : ExcC X.K X.mg x C) (hc : X.calm = true) (hg : Gl X x) (ha : PA X (e :: es) t) (hdb : (x == ("__debug__" : Str)) = false := by decide)
    (he : starEach (e :: es) X.env = (false, eval e X.env) :: starEach es X.env := by rfl) (hpl : (backTo cpos (starEach es X.env)).any (·.1) = false := by rfl) : PS X (.Raise (some (.Call (.Name x np) (e :: es) [] cpos)) none pos) (tRaise C E t) := by
  intro pins s σ H D I h
  obtain ⟨Bn, newId, initId, bm, FB, oc⟩ := O.cls I.ok.mod.kin
  obtain ⟨tl, N, nm, q, bs, hdct, sn, sub, ab, col, dd, k0, k1, k2, k3, k5, mN, hC, hN, hni, T⟩ := oc.obj
  refine wpAny_Raise_call_subT (C := C) (nm := nm) (q := q) (N := N) (bs := bs) (bm := tl) (hdct := hdct) (sn := sn) (sub := sub) (ab := ab) (col := col) (dd := dd) (k0 := k0) (k1 := k1) (k2 := k2) (k3 := k3) (k5 := k5)
    FB (mN := mN) (T.hasType FB.hasBase) (I.ok.hd hc) (by rw [he]; show (false || (backTo cpos (starEach es X.env)).any (·.1)) = false; rw [hpl]; rfl) hni (ld_glob I hg O.mg ⟨rfl, ?_⟩ hdb)
  have a := ha cpos pins s σ H _ I h
  rw [he] at a ⊢
  refine Calls.evalArgs_plain (wpAny_mono a (fun us s2 ⟨vs, H2, I2, r, hz, hE⟩ => ?_) fun _ _ y => y)
  refine ⟨rfl, by rw [← r.length]; exact hz, I2.bk _ _ hC, hN.keeps I2.bk, T.keeps I2.bk, fun h' e hm => ?_⟩
  obtain ⟨t0, ht0, _, _⟩ := hm.there
  have hfree : ∀ b u, H2 b = some u → b ≠ e := fun b u q z => by
    obtain ⟨o, ho⟩ := obj_there (I2.hok b u q)
    rw [z, hm.new] at ho
    cases ho
  refine leave_made (s := { s2 with heap := h' }) hX (I2.kept (t' := s2.toks) hm.keeps) ⟨_, _, ht0, rfl, .no rfl⟩ ?_ ?_ (fun d z => nomatch z) hE
  · cases q : X.s₀.heap.get? e with
    | none => rfl
    | some u =>
      obtain ⟨o, ho⟩ := I2.base.there e u q (by rw [hX.ex]; simp)
      rw [hm.new] at ho
      cases ho
  · cases q : H2 e with
    | none => rfl
    | some u => exact absurd rfl (hfree e u q)
end Sv
namespace Sv
open PySem PySem.Spec PyProof.Rows L2
theorem exc_matches {K : PySem.W.Frag} {M : Model} {h : Heap} {e C C' : Addr} {oe : Obj} {b : Bool} (kin : K.In h) (e1 : PySem.W.kitCls K (.ref C') (.ref C) = some b) (e2 : PySem.W.mroIn K C (.type "BaseException") = some true) (he : h.get? e = some oe) (hc : oe.cls = .ref C') :
    PySem.W.Looks M h (excMatches (.ref e) (.ref C)) b := by
  obtain ⟨l1, l2, l3⟩ := PySem.W.kit_cls (M := M) kin e1
  have l4 : PySem.W.Looks M h (isSubtype (.ref C) (.type "BaseException")) true := PySem.W.looks_mroIn kin e2
  have l5 : PySem.W.Looks M h (typeOf (.ref e)) (.ref C') := hc ▸ (PySem.W.Looks.ld he).andThen .now
  have l6 : PySem.W.Looks M h (isInstance (.ref C) (.type "tuple")) false := l1.andThen (PySem.W.Looks.of_pure tc_notTuple)
  have l7 : PySem.W.Looks M h (isExcClass (.ref C)) true := l2.andThen l4
  unfold excMatches
  refine PySem.W.Looks.andThen l6 ?_
  simp only [Bool.false_eq_true, if_false, pure_bind, List.forIn_cons, List.forIn_nil, bind_assoc]
  refine PySem.W.Looks.andThen l7 ?_
  simp only [Bool.not_true, Bool.false_eq_true, if_false, pure_bind]
  refine PySem.W.Looks.andThen l5 (PySem.W.Looks.andThen l3 ?_)
  cases b with
  | true => exact PySem.W.Looks.of_pure rfl
  | false => exact PySem.W.Looks.of_pure rfl
def cxP (X : Cx) (pn : List (Addr × Obj)) : Cx := { X with pn := pn }
def cxH (X : Cx) (xa : Addr) : Cx := { X with A := X.A.mark (some (.ref xa)), calm := false, xe := fun _ _ => False }
section
variable {X : Cx} {pins pn : List (Addr × Obj)} {σ : L2.St} {H : Hp} {s s' : Shared} {xa : Addr} {D : Ends} {f : Flow}
theorem okP (ok : X.Ok) : (cxP X pn).Ok := ⟨ok.mod, ok.kind, ok.glob, ok.blt, ok.above, ok.inj, ok.has, ok.cab, ok.hd, ok.frames, ok.stk, ok.exf, ok.bs, ok.bsz, ok.noex, ok.exfs, ok.funs, ok.frf⟩
theorem unP (ok : (cxP X pn).Ok) : X.Ok := ⟨ok.mod, ok.kind, ok.glob, ok.blt, ok.above, ok.inj, ok.has, ok.cab, ok.hd, ok.frames, ok.stk, ok.exf, ok.bs, ok.bsz, ok.noex, ok.exfs, ok.funs, ok.frf⟩
theorem inv_toP (I : Inv X pins σ H s) : Inv (cxP X (X.pn ++ pins)) [] σ H s := ⟨okP I.ok, I.os, I.bare, I.base, I.loc, I.cell, I.free, I.freeC, fun p hp => I.pin p (by simpa [cxP] using hp), I.hok, I.len⟩
theorem inv_ofP (I : Inv (cxP X (X.pn ++ pins)) [] σ H s) : Inv X pins σ H s := ⟨unP I.ok, I.os, I.bare, I.base, I.loc, I.cell, I.free, I.freeC, fun p hp => I.pin p (by simpa [cxP] using hp), I.hok, I.len⟩
theorem sp_ofP (h : SP (cxP X (X.pn ++ pins)) [] D f s') : SP X pins D f s' := by
  cases f with
  | next => obtain ⟨σ', H', I, q⟩ := h; exact ⟨σ', H', inv_ofP I, q⟩
  | brk => obtain ⟨σ', H', I, q⟩ := h; exact ⟨σ', H', inv_ofP I, q⟩
  | cont => obtain ⟨σ', H', I, q⟩ := h; exact ⟨σ', H', inv_ofP I, q⟩
  | ret u => obtain ⟨v, σ', H', I, r, q⟩ := h; exact ⟨v, σ', H', inv_ofP I, r, q⟩
theorem inv_toH (I : Inv X pins σ H s) : Inv (cxH X xa) pins σ H s :=
  ⟨⟨I.ok.mod, I.ok.kind, I.ok.glob, I.ok.blt, I.ok.above, I.ok.inj, I.ok.has, I.ok.cab, fun z => absurd z Bool.false_ne_true, I.ok.frames, I.ok.stk, I.ok.exf, I.ok.bs, I.ok.bsz, I.ok.noex, I.ok.exfs, I.ok.funs, I.ok.frf⟩, I.os, I.bare, I.base, I.loc, I.cell, I.free, I.freeC, I.pin, I.hok, I.len⟩
theorem inv_ofH (ok : X.Ok) (I : Inv (cxH X xa) pins σ H s) : Inv X pins σ H s := ⟨ok, I.os, I.bare, I.base, I.loc, I.cell, I.free, I.freeC, I.pin, I.hok, I.len⟩
end
def excO (xa : Addr) (cls : Value) (dd : Option Addr) : HO := .ext fun h => ∃ (vs : Array Value) (sl : Array (Option Value)), h.get? xa = some ⟨cls, dd, .fields vs, sl⟩
abbrev RX := Value → Option Addr → L2.St → Hp → Prop
def xeT (X : Cx) (Rr : RX) : Value → Shared → Prop := fun e s' => ∃ (xa : Addr) (cls : Value) (dd : Option Addr) (σ' : L2.St) (H' : Hp) (B : Heap), e = .ref xa ∧ Inv X [] σ' H' s' ∧ FlyD B (fun b => H' b = none) X.stack xa cls dd .none s'.heap ∧
  (∀ b o, s'.heap.get? b = some o → b ∉ frs X.stack → ((∃ u, X.s₀.heap.get? b = some u) ∨ (∃ u, H' b = some u) ∨ ∃ p ∈ X.pn, p.1 = b) → B.get? b = some o) ∧ H' xa = none ∧ (∀ d, dd = some d → ∃ fs, H' d = some (.xd fs)) ∧ Rr cls dd σ' H'
section
variable {X : Cx} {pins : List (Addr × Obj)} {σ : L2.St} {H : Hp} {s s' : Shared} {Rr : RX}
theorem DefCx.p {pn : List (Addr × Obj)} (d : DefCx X) : DefCx (cxP X pn) := ⟨d.stk, d.frm, d.ex⟩
theorem catch_on {e : Value} {pn : List (Addr × Obj)} (hD : DefCx X) (I : Inv ((cxP X pn).wish (xeT (cxP X pn) Rr)) pins σ H s) (h : CXe X.prog X.w X.stack H s (fun cls dd H' => Rr cls dd σ H') e s') : ((cxP X pn).wish (xeT (cxP X pn) Rr)).xe e s' := by
  obtain ⟨xa, cls, dd, H', rfl, F, hE⟩ := h
  have I' : Inv (cxP X pn) [] σ H s := I.unwish.pins_of fun p hp => nomatch hp
  have J : Inv (cxP X pn) [] σ H' s' := I'.call' F.os F.un F.hok F.bare fun b z => nomatch z
  obtain ⟨B, fl, cov⟩ := F.fly
  refine ⟨xa, cls, dd, σ, H', B, rfl, J, fl, fun b o q hb hc => cov b o q hb ?_, F.free, F.dct, hE⟩
  rcases hc with ⟨u, e'⟩ | hc | ⟨p, hp, e'⟩
  · exact .inl (I'.base.there b u e' (by show b ∉ X.ex; rw [hD.ex]; simp))
  · exact .inr hc
  · have := (I'.pin p (List.mem_append_left _ hp)).1
    rw [e'] at this
    exact .inl ⟨_, this⟩
theorem track_exc {xa : Addr} {cls : Value} {dd : Option Addr} {vs : Array Value} {sl : Array (Option Value)} (J : Inv X [] σ H s) (hx : s.heap.get? xa = some ⟨cls, dd, .fields vs, sl⟩) (hf : H xa = none) (h0 : X.s₀.heap.get? xa = none) (hL : xa ≠ X.env.locals) (hp : ∀ p ∈ X.pn, p.1 ≠ xa) :
    Inv X [] σ (upd H xa (excO xa cls dd)) s := by
  have ne : ∀ b, b ≠ xa → upd H xa (excO xa cls dd) b = H b := fun b h => upd_ne h
  have nt : ∀ b u, H b = some u → b ≠ xa := fun b u e z => by rw [z, hf] at e; cases e
  refine ⟨J.ok, J.os, J.bare, ⟨J.base.keep, J.base.slot, fun b o e n hx' => ?_, J.base.there, fun b xs e => ?_, fun b o u e => ?_, fun b ps e => ?_⟩, J.loc, J.cell, ?_, fun x c e => ?_, fun p hp' => ?_, fun b u e => ?_, J.len⟩
  · rw [ne b fun z => by rw [z, h0] at e; cases e]
    exact J.base.free b o e n hx'
  · have q := J.base.tups b xs e
    rw [ne b (nt b _ q)]
    exact q
  · have q := J.base.frzs b o u e
    rw [ne b (nt b _ q)]
    exact q
  · obtain ⟨more, q⟩ := J.base.tbls b ps e
    exact ⟨more, by rw [ne b (nt b _ q)]; exact q⟩
  · rw [ne _ (Ne.symm hL)]
    exact J.free
  · rw [ne c fun z => ?_]
    · exact J.freeC x c e
    · obtain ⟨v, o, ho, hd⟩ := J.cell x c e
      rw [z, hx] at ho
      cases ho
      cases hd
  · obtain ⟨e, n, n1, n2, d⟩ := J.pin p hp'
    have hp2 : p ∈ X.pn := by simpa using hp'
    exact ⟨e, by rw [ne _ (hp p hp2)]; exact n, n1, n2, d⟩
  · by_cases hb : b = xa
    · subst hb
      rw [upd_same] at e
      cases e
      exact ⟨⟨vs, sl, hx⟩, ⟨_, hx⟩, fun h1 h2 ⟨vs', sl', q⟩ k => ⟨vs', sl', k _ q⟩⟩
    · rw [ne b hb] at e
      exact (J.hok b u e).stay (fun _ _ _ q => q) (fun c q => by rw [ne c (nt c _ q)]; exact q) fun c xs q => by rw [ne c (nt c _ q)]; exact q
theorem unbind_ok {M : Model} {A : Around} {E : Value → Shared → Prop} {i : Nat} {n : Str} {v : V} {Q : Unit → Shared → Prop} (I : Inv X pins σ H s) (hN : X.N.Nodup) (hi : X.N[i]? = some n) (hk : X.env.kindOf n = some .local) (hv : σ[i]? = some (some v))
    (k : ∀ s', Inv X pins (σ.set i none) H s' → Q () s') : wpAny M A (unbindName X.env n) Q E s := by
  obtain ⟨m, hn, hl⟩ := id I.loc
  obtain ⟨u, r, l⟩ := hl i n v hi hv (.inl hk)
  have hm : m n = some u := by
    rcases l with ⟨_, e⟩ | ⟨k', _⟩
    · exact e
    · rcases k' with z | z <;> (rw [hk] at z; cases z)
  have hcls : (X.env.scope.kind == .class || (X.env.scope.kind == .module && X.env.locals != X.env.globals)) = false := by rw [I.ok.kind]; rfl
  have iσ : i < σ.length := (List.getElem?_eq_some_iff.mp hv).1
  refine wpAny_unbindName_local hk hn hm hcls fun h' u' hn' hs => k _ ?_
  have low : ∀ b o, X.s₀.heap.get? b = some o → b ≠ X.env.locals := fun b o e => Nat.ne_of_lt (Nat.lt_of_lt_of_le (Heap.lt_size e) I.ok.above)
  obtain ⟨oL, _, _, hoL, _⟩ := id hn
  refine ⟨I.ok, I.os, I.bare, ⟨fun b o e n' hb hx => (hs.2 b (low b o e)).trans (I.base.keep b o e n' hb hx), fun b o e n' hb hx => ?_, I.base.free, fun b o e hx => ?_, I.base.tups, I.base.frzs, I.base.tbls⟩, ⟨_, hn', fun j y v' e1 e2 e3 => ?_⟩, fun y c e => ?_, I.free, I.freeC, fun p hp => ?_, fun b ob e => ?_, ?_⟩
  · obtain ⟨sl, e1⟩ := I.base.slot b o e n' hb hx
    exact ⟨sl, (hs.2 b (low b o e)).trans e1⟩
  · obtain ⟨o', e1⟩ := I.base.there b o e hx
    exact ⟨o', (hs.2 b (low b o e)).trans e1⟩
  · have hji : j ≠ i := fun z => by
      subst z
      rw [List.getElem?_set_self iσ] at e2
      cases e2
    rw [List.getElem?_set_ne (Ne.symm hji)] at e2
    obtain ⟨u2, r2, l2⟩ := hl j y v' e1 e2 e3
    refine ⟨u2, r2, ?_⟩
    rcases l2 with ⟨k2, e⟩ | ⟨k2, c, e, z⟩
    · refine .inl ⟨k2, ?_⟩
      have hy : y ≠ n := fun q => hji (nodup_ix hN e1 (q ▸ hi))
      simp [hy, e]
    · exact .inr ⟨k2, c, e, z.sameBut hs (I.cne y c e)⟩
  · obtain ⟨w', z⟩ := I.cell y c e
    exact ⟨w', z.sameBut hs (I.cne y c e)⟩
  · obtain ⟨e, n1, n2, n3, d⟩ := I.pin p hp
    exact ⟨(hs.2 p.1 n2).trans e, n1, n2, n3, d⟩
  · refine (I.hok b ob e).stay (fun c w' hc q => (hs.2 c ?_).trans q) (fun _ q => q) fun _ _ q => q
    rintro rfl
    rcases hc with z | z
    · rw [← z, I.free] at e; cases e
    · rw [I.free] at z; cases z
  · rw [List.length_set]
    exact I.len
end
def asEnds (i : Nat) (D : Ends) : Ends := { nx := fun σ H => D.nx (σ.set i none) H, rt := D.rt, bk := fun σ H => D.bk (σ.set i none) H, ct := fun σ H => D.ct (σ.set i none) H }
def tTryAs (Rr : RX) (i : Nat) (tb ts : TS) : TS := fun D σ H => tb D σ H ∧ ∀ cls dd σ' H' xa, Rr cls dd σ' H' → H' xa = none → ts (asEnds i D) (σ'.set i (some (.ref xa))) (upd H' xa (excO xa cls dd))
section
variable {X : Cx} {body suite : List Stmt} {b₀ : Stmt} {x n : Str} {C : Addr} {np hpos pos : Pos} {tb ts : TS} {i : Nat}
theorem to_suite {Rr : RX} {pins : List (Addr × Obj)} {e : Value} {s1 : Shared} {nm : Option Str} {Q : Flow → Shared → Prop} {E : Value → Shared → Prop} (hD : DefCx X) (hg : Gl X x) (hmg : X.mg x = some (.ref C))
    (hm : ∀ cls dd σ H, Rr cls dd σ H → ∃ C', cls = .ref C' ∧ PySem.W.kitCls X.K (.ref C') (.ref C) = some true) (hC : PySem.W.mroIn X.K C (.type "BaseException") = some true) (hdb : (x == ("__debug__" : Str)) = false)
    (q : xeT (cxP X (X.pn ++ pins)) Rr e s1)
    (k : ∀ (xa : Addr) (cls : Value) (dd : Option Addr) (σ' : L2.St) (H' : Hp) (B h5 : Heap), e = .ref xa → Rr cls dd σ' H' → H' xa = none → FlyD B (fun b => H' b = none) (X.env :: X.outer) xa cls dd .none h5 →
      (∀ h6, FlyD B (fun b => H' b = none) (X.env :: X.outer) xa cls dd .none h6 → h5.UpToSlots h6 → Inv (cxP X (X.pn ++ pins)) [] σ' (upd H' xa (excO xa cls dd)) { s1 with heap := h6 }) →
      codeAny (model X.prog X.w) (X.A.mark (some (.ref xa))) (.handlers (.ref xa) [.ExceptHandler none nm (b₀ :: suite) hpos] X.env) (fun r s₂ => match r with
        | .ok f => (match nm with | none => Q f s₂ | some n => wpAny (model X.prog X.w) X.A (do bindName X.env n .none; unbindBehindTheSuite X.env n hpos) (fun _ s₃ => Q f s₃) E s₂)
        | .error y => cameBackBy (model X.prog X.w) X.A X.env E y s₂) { s1 with heap := h5 }) :
    wpAny (model X.prog X.w) X.A (noteFrame e X.env) (fun _ s2 => wpAny (model X.prog X.w) X.A (setFlight e none) (fun _ s3 => wpAny (model X.prog X.w) X.A (handleBy e X.env [.ExceptHandler (some (.Name x np)) nm (b₀ :: suite) hpos]) Q E s3) E s2) E s1 := by
  obtain ⟨xa, cls, dd, σ', H', B, rfl, J, fl, cov, hf, dct, r⟩ := q
  have hfr : X.A.frames = some (X.env :: X.outer) := by rw [← hD.stk]; exact J.ok.frames
  have fl' : FlyD B (fun b => H' b = none) (X.env :: X.outer) xa cls dd .none s1.heap := by
    rw [← hD.stk]
    exact fl
  refine lands_d hfr fl'.fr hD.frm fl'.st fl'.ne (.inr fl'.tr) fun h5 f5 up5 => ?_
  have land : ∀ h6, FlyD B (fun b => H' b = none) (X.env :: X.outer) xa cls dd .none h6 → s1.heap.UpToSlots h6 → Inv (cxP X (X.pn ++ pins)) [] σ' H' { s1 with heap := h6 } := fun h6 f6 up6 => land_ok hD.p J f6.st up6 cov
  obtain ⟨C', rfl, hk⟩ := hm cls dd σ' H' r
  have J5 := land h5 f5 up5
  refine wpAny_handleBy_cons (codeAny_handlers_test ?_) (by intro z; cases z)
  refine ld_glob (X := cxH (cxP X (X.pn ++ pins)) xa) (inv_toH J5) hg hmg ?_ hdb
  obtain ⟨sl5, vs5, _, _, _, he5, _⟩ := id f5.tr
  refine exc_matches (K := X.K) J5.kIn hk hC he5 rfl _ _ _ _ (fun _ _ z => z) ?_
  refine k xa (.ref C') dd σ' H' B h5 rfl r hf f5 fun h6 f6 up6 => ?_
  have J6 := land h6 f6 (up5.trans up6)
  obtain ⟨sl6, vs6, _, _, _, he6, _⟩ := id f6.tr
  have nfr : xa ∉ frs (X.env :: X.outer) := fun z => by
    obtain ⟨_, o, ho, nf⟩ := f6.fr.mem z
    rw [he6] at ho
    cases ho
    exact nf _ rfl
  have no : ∀ {P : Prop}, ((∃ u, X.s₀.heap.get? xa = some u) ∨ (∃ u, H' xa = some u) ∨ ∃ p ∈ X.pn ++ pins, p.1 = xa) → P := fun {P} z => by
    obtain ⟨sl1, vs1, _, _, _, he1, _⟩ := id fl'.tr
    have c := cov xa _ he1 (by show xa ∉ frs X.stack; rw [hD.stk]; exact nfr) z
    rw [fl'.ne] at c
    cases c
  refine track_exc J6 he6 hf ?_ (fun z => nfr ((mem_frs hD.frm).mpr (.inl z))) fun p hp z => no (.inr (.inr ⟨p, hp, z⟩))
  cases z : X.s₀.heap.get? xa with
  | none => exact z
  | some u => exact no (.inl ⟨u, z⟩)
theorem ps_tryAs {Rr : RX} (hD : DefCx X) (hg : Gl X x) (hmg : X.mg x = some (.ref C)) (hm : ∀ cls dd σ H, Rr cls dd σ H → ∃ C', cls = .ref C' ∧ PySem.W.kitCls X.K (.ref C') (.ref C) = some true) (hC : PySem.W.mroIn X.K C (.type "BaseException") = some true)
    (hN : X.N.Nodup) (hi : X.N[i]? = some n) (hk : X.env.kindOf n = some .local) (hb : ∀ pn, PSs ((cxP X pn).wish (xeT (cxP X pn) Rr)) body tb) (hs : ∀ pn xa, PSs (cxH (cxP X pn) xa) (b₀ :: suite) ts) (hdb : (x == ("__debug__" : Str)) = false := by decide) :
    PS X (.Try body [.ExceptHandler (some (.Name x np)) (some n) (b₀ :: suite) hpos] [] [] pos) (tTryAs Rr i tb ts) := by
  intro pins s σ H D I h
  obtain ⟨h1, h2⟩ := h
  refine wpAny_Try_except (wpAny_mono (hb (X.pn ++ pins) [] s σ H D ((inv_toP I).wish _) h1) (fun f s1 q => ?_) (fun e s1 q => ?_))
  · have q' : SP X pins D f s1 := sp_ofP q.unwish
    cases f with
    | next => exact wpAny_execs_nil q'
    | brk => exact q'
    | cont => exact q'
    | ret u => exact q'
  · refine to_suite (nm := some n) hD hg hmg hm hC hdb q fun xa cls dd σ' H' B h5 ee r hf f5 land => ?_
    subst ee
    refine codeAny_handlers_suite_as (flight_d (s := { s1 with heap := h5 }) f5 fun h6 f6 up6 => ?_)
    have J7 := land h6 f6 up6
    refine store_ok (X := cxH (cxP X (X.pn ++ pins)) xa) (v := .ref xa) (inv_toH J7) hN hi (.inl hk) rfl (fun s7 I7 => ?_) (.inr hk)
    refine wpAny_mono (hs (X.pn ++ pins) xa [] _ _ _ (asEnds i D) I7 (h2 cls dd σ' H' xa r hf)) (fun f s8 z => ?_) (fun _ _ z => z.elim)
    have go : ∀ {σ8 : L2.St} {H8 : Hp}, Inv (cxH (cxP X (X.pn ++ pins)) xa) [] σ8 H8 s8 → (∀ s9, Inv X pins (σ8.set i none) H8 s9 → SP X pins D f s9) →
        wpAny (model X.prog X.w) X.A (do bindName X.env n .none; unbindBehindTheSuite X.env n hpos) (fun _ s9 => SP X pins D f s9) X.xe s8 := fun {σ8 H8} I8 kk => by
      have I8' := inv_ofP (inv_ofH J7.ok I8)
      have il : i < σ8.length := by rw [I8'.len]; exact (List.getElem?_eq_some_iff.mp hi).1
      refine wpAny_bind (wpAny_bindName (store_ok (v := .non) I8' hN hi (.inl hk) rfl (fun s9 I9 => ?_) (.inr hk)))
      unfold unbindBehindTheSuite
      refine wpAny_onRaise (unbind_ok I9 hN hi hk (List.getElem?_set_self il) fun s10 I10 => kk s10 ?_)
      rw [List.set_set] at I10
      exact I10
    cases f with
    | next =>
      obtain ⟨σ8, H8, I8, q8⟩ := z
      exact go I8 fun s9 I9 => ⟨_, H8, I9, q8⟩
    | brk =>
      obtain ⟨σ8, H8, I8, q8⟩ := z
      exact go I8 fun s9 I9 => ⟨_, H8, I9, q8⟩
    | cont =>
      obtain ⟨σ8, H8, I8, q8⟩ := z
      exact go I8 fun s9 I9 => ⟨_, H8, I9, q8⟩
    | ret u =>
      obtain ⟨v, σ8, H8, I8, r8, q8⟩ := z
      exact go I8 fun s9 I9 => ⟨v, _, H8, I9, r8, q8⟩
end
section
variable {X : Cx} {x : Str} {k j : Nat} {ps : List Str} {sp : Sp} {e : Expr} {es : List Expr} {t : TA} {p pos : Pos}
end
section
variable {prog : Program} {w : World} {A : Around} {E : Value → Shared → Prop} {K : PySem.W.Frag} {x D : Addr} {ox : Obj} {odo : Option Obj} {name : Str} {s : Shared}
theorem ga_bind (self : Value) : bindSpecial (.builtin "BaseException.__getattribute__") self = pure (.builtin "BaseException.__getattribute__", [self]) := F.excAttr_ValueError.ga.bind self
theorem ga_body {g a : Value} {tk : Tok} {Q : Fin → Shared → Prop} (X : K.In s.heap) (I : PySem.W.InstAt s.heap x ox D odo) (hf : PySem.W.findObj K D odo name = some (.bind g a))
    (h : wpAny (model prog w) A (call g [a, .ref x, .ref D]) (fun v s' => Q (.done (.ret v)) s') E s) :
    wpAny (model prog w) A (Builtin.«object.__getattribute__» ⟨[.ref x, .str name tk], []⟩) Q E s := by
  obtain ⟨hh, gg, d, t, os⟩ := s
  have L0 := I.type (M := model prog w)
  have L1 := PySem.W.looks_find (M := model prog w) X I hf
  unfold Builtin.«object.__getattribute__»
  refine wpAny_bind (wpAny_pure (wpAny_bind (wpAny_pure (wpAny_bind (L0.at (wpAny_bind (L1.at ?_)))))))
  show wpAny _ _ (holding [a] (call g [a, .ref x, .ref D]) >>= ret) _ _ _
  exact wpAny_bind (wpAny_holding (wpAny_mono h (fun v s' z => wpAny_pure z) fun _ _ z => z))
theorem ga_check {M : Model} {nameV : Value} {Q : Unit → Shared → Prop} (X : K.In s.heap) (I : PySem.W.InstAt s.heap x ox D odo) (hb : PySem.W.mroIn K D (.type "BaseException") = some true) (hq : Q () s) :
    wpAny M A (checkBuiltinCall "BaseException.__getattribute__" ⟨[.ref x, nameV], []⟩) Q E s := by
  obtain ⟨hh, gg, d, t, os⟩ := s
  have hk : builtinKind "BaseException.__getattribute__" = some .slot := by decide +kernel
  have hsplit : splitId "BaseException.__getattribute__" = some ("BaseException", "__getattribute__") := by decide +kernel
  have L0 := I.type (M := M)
  have L1 := PySem.W.looks_mroIn (M := M) X hb
  have ha := F.args_bexc_ga (.ref x) nameV
  simp only [checkBuiltinCall, hk, hsplit]
  refine wpAny_bind ?_
  unfold isInstance
  refine wpAny_bind (L0.at (L1.at ?_))
  repeat (first | assumption | wp_step)
end
structure ExcI (K : PySem.W.Frag) (D : Addr) : Prop where
  hg : PySem.W.findIn K (.ref D) "__getattribute__" = some (some (.builtin "BaseException.__getattribute__"))
  hgn : PySem.W.findIn K (.ref D) "__getattr__" = some none
  hd : PySem.W.hasDictIn K D = true
  ha : PySem.W.findIn K (.ref D) "__class__" = some (some (.builtin "object.__class__"))
  hn : PySem.W.specialIn K (.builtin "object.__class__") "__get__" = some (some (.builtin "getset_descriptor.__get__"))
  ht : PySem.W.takesIn K (.builtin "object.__class__") = some true
  hb : PySem.W.mroIn K D (.type "BaseException") = some true
  hm : PySem.W.mroIn K D (.type "object") = some true
theorem kitCls_ref {K : PySem.W.Frag} {t : Value} {C : Addr} {b : Bool} (h1 : PySem.W.hasDictIn K C = true) (h2 : PySem.W.typeIn K (.ref C) = some (.type "type")) (h3 : PySem.W.subIn K t (.ref C) = some b) : PySem.W.kitCls K t (.ref C) = some b := by
  obtain ⟨cd, hc, _⟩ := PySem.W.any_some h1
  unfold PySem.W.kitCls
  simp only [hc, h2, h3, Option.isSome_some, beq_self_eq_true, Bool.and_self, if_true]
def clsV : V → Value
  | .ty T => .type T
  | .ref C => .ref C
  | _ => .none
def jn : List TE → Str → TE
  | [], acc => fun _ H Q => Q (.str acc) H
  | t :: r, acc => fun σ H Q => t σ H fun x H1 => ∃ y, x = .str y ∧ (acc ++ y).length ≤ sizeLine ∧ jn r (acc ++ y) σ H1 Q
def PJ (X : Cx) (es : List Expr) (ts : List TE) : Prop := ∀ (acc : Str) (pins : List (Addr × Obj)) (s : Shared) (σ : L2.St) (H : Hp) (Q : VK), Inv X pins σ H s → acc.length ≤ sizeLine → jn ts acc σ H Q → wpAny (model X.prog X.w) X.A (joinParts acc (evalEach es X.env)) (EP X pins σ Q) X.xe s
section
variable {X : Cx} {e v₁ v₂ : Expr} {es rest : List Expr} {t : TE} {ts : List TE} {pos : Pos}
theorem pj_nil : PJ X [] [] := fun acc pins s σ H Q I hz h => joinParts_nil ⟨.str acc, H, I.tok _, ⟨_, rfl⟩, h⟩ hz
theorem pj_cons (he : PE X e t) (hr : PJ X es ts) (hs : evalEach (e :: es) X.env = eval e X.env :: evalEach es X.env := by rfl) : PJ X (e :: es) (t :: ts) := by
  intro acc pins s σ H Q I hz h
  rw [hs]
  refine joinParts_cons (thn (he pins s σ H _ I h) fun u s1 ⟨x, H1, I1, r1, y, ex, hz1, q⟩ => ?_)
  subst ex
  obtain ⟨tk, rfl⟩ := r1
  exact ⟨hz1, hr (acc ++ y) pins s1 σ H1 Q I1 hz1 q⟩
theorem pe_fstr (h : PJ X (v₁ :: v₂ :: rest) ts) : PE X (.JoinedStr (v₁ :: v₂ :: rest) pos) (jn ts Str.empty) := fun pins s σ H Q I q => JoinedStr_many (h Str.empty pins s σ H Q I (Nat.zero_le _) q)
def tFmt (te : TE) : TE := fun σ H Q => te σ H fun x H1 => (∃ y, x = .str y ∧ y.length ≤ sizeLine ∧ Q (.str y) H1) ∨ ∃ i : Int, x = .int i ∧ i.natAbs.log2 < 1920 ∧ Q (.str (toString i)) H1
theorem pe_fmt (he : PE X e t) : PE X (.FormattedValue e (-1) none pos) (tFmt t) := by
  intro pins s σ H Q I h
  refine FormattedValue_plain (thn (he pins s σ H _ I h) fun u s1 ⟨x, H1, I1, r1, q⟩ => ?_)
  rcases q with ⟨y, rfl, hz, q⟩ | ⟨i, rfl, hl, q⟩
  · obtain ⟨tk, rfl⟩ := r1
    exact PyProof.Rows.formatField_str (fun t' tk' => ⟨.str y, H1, I1.tok _, ⟨t', rfl⟩, q⟩) hz
  · obtain ⟨tk, rfl⟩ := r1
    exact wpAny_formatField_int hl ⟨.str (toString i), H1, I1.tok _, ⟨_, rfl⟩, q⟩
theorem jn0_ {acc : Str} {σ : L2.St} {H : Hp} {Q : VK} : jn [] acc σ H Q = Q (.str acc) H := rfl
def JnR (r : List TE) (acc : Str) (σ : L2.St) (Q : VK) (x : V) (H1 : Hp) : Prop := ∃ y, x = .str y ∧ (acc ++ y).length ≤ sizeLine ∧ jn r (acc ++ y) σ H1 Q
theorem jnC_ {acc : Str} {σ : L2.St} {H : Hp} {Q : VK} : jn (t :: ts) acc σ H Q = t σ H fun x H1 => JnR ts acc σ Q x H1 := rfl
theorem JnR.go {r : List TE} {acc y : Str} {σ : L2.St} {Q : VK} {H1 : Hp} (h : (acc ++ y).length ≤ 10000000) (q : jn r (acc ++ y) σ H1 Q) : JnR r acc σ Q (.str y) H1 := ⟨y, rfl, Nat.le_trans h (by decide), q⟩
def RepR (Q : VK) (x : V) (H1 : Hp) : Prop := ∃ y, x = .str y ∧ (reprText y).length ≤ sizeLine ∧ Q (.str (reprText y)) H1
theorem RepR.go {y : Str} {Q : VK} {H1 : Hp} (h : (reprText y).length ≤ 10000000) (q : Q (.str (reprText y)) H1) : RepR Q (.str y) H1 := ⟨y, rfl, Nat.le_trans h (by decide), q⟩
def RaR (C : Addr) (E : XK) (vs : List V) (H1 : Hp) : Prop := vs.length ≤ sizeLine ∧ E (.ref C) none H1
theorem raise_ {C : Addr} {E : XK} {ta : TA} {D : Ends} {σ : L2.St} {H : Hp} : tRaise C E ta D σ H = ta σ H fun vs H1 => RaR C E vs H1 := rfl
theorem RaR.go {C : Addr} {E : XK} {vs : List V} {H1 : Hp} (h : vs.length ≤ 1000) (q : E (.ref C) none H1) : RaR C E vs H1 := ⟨Nat.le_of_lt (small1000 h), q⟩
theorem asnx_ {i : Nat} {D : Ends} {σ : L2.St} {H : Hp} : (asEnds i D).nx σ H = D.nx (σ.set i none) H := rfl
theorem asrt_ {i : Nat} {D : Ends} : (asEnds i D).rt = D.rt := rfl
end
end Sv
namespace Sv
open PySem PySem.Spec PyProof.Rows L2
section
variable {X : Cx}
def steps (c hi : Int) : Nat := (Builtin.Range.rangeSize 0 hi c).toNat
end
section
variable {H : Hp} {Q : VK} {σ : L2.St} {tr : TA}
def RngS (c : Int) (vs : List V) (H : Hp) (R : It → Hp → Prop) : Prop := ∃ j : Int, vs = [.int 0, .int j, .int c] ∧ 0 ≤ j ∧ j < 1000000 ∧ R (Its 0 c (steps c j)) H
theorem RngS.go {c j : Int} {R : It → Hp → Prop} (h1 : 0 ≤ j) (h2 : j < 1000000) (q : R (Its 0 c (steps c j)) H) : RngS c [.int 0, .int j, .int c] H R := ⟨j, rfl, h1, h2, q⟩
theorem rEqB_ {i j : Bool} : rEq (.bl i) (.bl j) H Q = Q (.bl (decide (i = j))) H := by
  unfold rEq
  have e : (V.bl i = V.bl j) = (i = j) := propext ⟨fun h => V.bl.inj h, fun h => by rw [h]⟩
  simp only [e]
  exact propext ⟨fun h => h.2, fun h => ⟨rfl, h⟩⟩
theorem isi_bl {K : PySem.W.Frag} {b : Bool} (q : Q (.bl true) H) : rIsi K [.bl b, .ty "bool"] H Q := ⟨_, _, _, _, rfl, .bl b, kit_same K "bool", q⟩
end
theorem ix_tupK {X : Cx} {K : PySem.W.Frag} (h : X.K = K) : IxR X (rIxT K) := h ▸ ix_tup
def IntB : List V → Hp → VK → Prop := fun xs H Q => ∃ k, xs = [.bl k] ∧ Q (.int (if k = true then 1 else 0)) H
theorem call_intB {X : Cx} : CallR X (.type "int") IntB := fun pins s σ H xs us Q I r h => call_int1 pins s σ H xs us Q I r (.inr h)
theorem IntB.go {b : Bool} {H : Hp} {Q : VK} (q : Q (.int (if b = true then 1 else 0)) H) : IntB [.bl b] H Q := ⟨b, rfl, q⟩
end Sv
namespace Sv
open PySem PySem.Spec PyProof.Rows L2
section
variable {X : Cx}
end
theorem shaped_of {d : PyData} (h1 : d.canLay0 = true) (h2 : d.depth ≤ 64) : SeqAt.shaped d = true := by
  unfold SeqAt.shaped
  rw [h1, decide_eq_true h2]
  rfl
theorem canLayAll_of {α : Type} (g : α → PyData) (h : ∀ x, (g x).canLay0 = true) : ∀ xs : List α, PyData.canLayAll0 (xs.map g) = true
  | [] => by simp [PyData.canLayAll0]
  | x :: xs => by rw [List.map_cons, PyData.canLayAll0.eq_2, h x, canLayAll_of g h xs]; rfl
theorem depthAll_of {α : Type} (g : α → PyData) {n : Nat} (h : ∀ x, (g x).depth ≤ n) : ∀ xs : List α, PyData.depthAll (xs.map g) ≤ n
  | [] => by simp [PyData.depthAll]
  | x :: xs => by
    rw [List.map_cons, PyData.depthAll.eq_2]
    exact Nat.max_le.mpr ⟨h x, depthAll_of g h xs⟩
def pairD (b : Int × Int) : PyData := .tuple [.int b.1, .int b.2]
def boxD (bs : List (Int × Int)) : PyData := .tuple (bs.map pairD)
def pointD (ns : List Int) : PyData := .tuple (ns.map .int)
theorem pairD_lay (b : Int × Int) : (pairD b).canLay0 = true := by simp [pairD, PyData.canLay0, PyData.canLayAll0]
theorem pairD_deep (b : Int × Int) : (pairD b).depth ≤ 2 := by simp [pairD, PyData.depth, PyData.depthAll]
theorem intD_lay (n : Int) : (PyData.int n).canLay0 = true := by simp [PyData.canLay0]
theorem intD_deep (n : Int) : (PyData.int n).depth ≤ 2 := by simp [PyData.depth]
theorem boxD_lay (bs : List (Int × Int)) : (boxD bs).canLay0 = true := by
  have := canLayAll_of pairD pairD_lay bs
  simp [boxD, PyData.canLay0, this]
theorem boxD_deep (bs : List (Int × Int)) : (boxD bs).depth ≤ 3 := by
  have := depthAll_of pairD pairD_deep bs
  simp only [boxD, PyData.depth]
  omega
theorem boxD_shaped (bs : List (Int × Int)) : SeqAt.shaped (boxD bs) = true := shaped_of (boxD_lay bs) (Nat.le_trans (boxD_deep bs) (by decide))
theorem pointD_shaped (ns : List Int) : SeqAt.shaped (pointD ns) = true := by
  have a := canLayAll_of PyData.int intD_lay ns
  have b := depthAll_of PyData.int intD_deep ns
  exact shaped_of (by simp [pointD, PyData.canLay0, a]) (by simp only [pointD, PyData.depth]; omega)
theorem eqvAll_of {α : Type} (g : α → PyData) (h : ∀ x y, PyData.eqv (g x) (g y) = true ↔ x = y) : ∀ xs ys : List α, PyData.eqvAll (xs.map g) (ys.map g) = true ↔ xs = ys
  | [], [] => by simp [PyData.eqvAll]
  | [], y :: ys => by simp [PyData.eqvAll]
  | x :: xs, [] => by simp [PyData.eqvAll]
  | x :: xs, y :: ys => by
    rw [List.map_cons, List.map_cons]
    simp only [PyData.eqvAll, Bool.and_eq_true, h x y, eqvAll_of g h xs ys, List.cons.injEq]
theorem pair_eqv (b c : Int × Int) : PyData.eqv (pairD b) (pairD c) = true ↔ b = c := by
  obtain ⟨a, b⟩ := b
  obtain ⟨c, d⟩ := c
  simp [pairD, PyData.eqv, PyData.eqvAll]
theorem box_eqv (bs cs : List (Int × Int)) : PyData.eqv (boxD bs) (boxD cs) = true ↔ bs = cs := by
  have := eqvAll_of pairD pair_eqv bs cs
  simpa [boxD, PyData.eqv] using this
theorem point_eqv (ns ms : List Int) : PyData.eqv (pointD ns) (pointD ms) = true ↔ ns = ms := by
  have := eqvAll_of PyData.int (fun x y => by simp [PyData.eqv]) ns ms
  simpa [pointD, PyData.eqv] using this
inductive Strs (H : Hp) : List V → List (Int × Int) → Prop where
  | nil : Strs H [] []
  | cons {a : Addr} {lo hi : Int} {vs : List V} {bs : List (Int × Int)} (h : H a = some (.tup [.int lo, .int hi])) (t : Strs H vs bs) : Strs H (.ref a :: vs) ((lo, hi) :: bs)
section
variable {H H' : Hp} {vs ws : List V} {bs cs : List (Int × Int)} {p a : Addr}
theorem Strs.len (h : Strs H vs bs) : vs.length = bs.length := by
  induction h with
  | nil => rfl
  | cons _ _ ih => rw [List.length_cons, List.length_cons, ih]
theorem Strs.mono (h : Strs H vs bs) (k : ∀ a xs, H a = some (.tup xs) → H' a = some (.tup xs)) : Strs H' vs bs := by
  induction h with
  | nil => exact .nil
  | cons h _ ih => exact .cons (k _ _ h) ih
theorem Strs.same (h : Strs H vs bs) (s : Same H H') : Strs H' vs bs := h.mono fun a xs e => s _ _ e
theorem Strs.upd {xs : List V} {o : HO} (h : Strs H vs bs) (e : H p = some (.lst xs)) : Strs (upd H p o) vs bs := h.mono fun a ys q => by
  have n : a ≠ p := fun z => by rw [z, e] at q; cases q
  rw [upd_ne n]
  exact q
theorem Strs.at {i : Nat} {x : V} (h : Strs H vs bs) (e : vs[i]? = some x) : ∃ a lo hi, x = .ref a ∧ bs[i]? = some (lo, hi) ∧ H a = some (.tup [.int lo, .int hi]) := by
  induction h generalizing i with
  | nil => cases e
  | cons h _ ih =>
    cases i with
    | zero =>
      cases e
      exact ⟨_, _, _, rfl, rfl, h⟩
    | succ j => exact ih e
theorem Strs.take {n : Nat} (h : Strs H vs bs) : Strs H (vs.take n) (bs.take n) := by
  induction h generalizing n with
  | nil => rw [List.take_nil, List.take_nil]; exact .nil
  | cons h _ ih =>
    cases n with
    | zero => exact .nil
    | succ m => exact .cons h ih
theorem Strs.drop {n : Nat} (h : Strs H vs bs) : Strs H (vs.drop n) (bs.drop n) := by
  induction h generalizing n with
  | nil => rw [List.drop_nil, List.drop_nil]; exact .nil
  | cons h t ih =>
    cases n with
    | zero => exact .cons h t
    | succ m => exact ih
theorem Strs.dts (h : Strs H vs bs) : Dts H vs (bs.map pairD) := by
  induction h with
  | nil => exact .nil
  | cons h _ ih => exact .cons (.tup (.inl h) (.cons (.int _) (.cons (.int _) .nil))) ih
theorem ints_dts (H : Hp) : ∀ ns : List Int, Dts H (ns.map V.int) (ns.map PyData.int)
  | [] => .nil
  | n :: ns => .cons (.int n) (ints_dts H ns)
def IsBox (H : Hp) (p : Addr) (bs : List (Int × Int)) : Prop := ∃ vs, H p = some (.tup vs) ∧ Strs H vs bs
def IsPt (H : Hp) (p : Addr) (ns : List Int) : Prop := H p = some (.tup (ns.map V.int))
theorem IsBox.same (h : IsBox H p bs) (s : Same H H') : IsBox H' p bs := by
  obtain ⟨vs, e, t⟩ := h
  exact ⟨vs, s _ _ e, t.same s⟩
theorem IsPt.same {ns : List Int} (h : IsPt H p ns) (s : Same H H') : IsPt H' p ns := s _ _ h
theorem IsBox.dt (h : IsBox H p bs) : Dt H (.ref p) (boxD bs) := by
  obtain ⟨vs, e, t⟩ := h
  exact .tup (.inl e) t.dts
theorem IsPt.dt {ns : List Int} (h : IsPt H p ns) : Dt H (.ref p) (pointD ns) := .tup (.inl h) (ints_dts H ns)
theorem _root_.L2.Same.put {o : HO} (s : Same H H') (h : H p = none) : Same H (upd H' p o) := fun b u e => by
  rw [upd_ne (ne_of_none e h)]
  exact s b u e
end
section
variable {X : Cx} {H : Hp} {Q : VK} {p : Addr} {ys : List V} {K : PySem.W.Frag}
def TupOf (K : PySem.W.Frag) : List V → Hp → VK → Prop := fun xs H Q => ∃ p ys, xs = [.ref p] ∧ ((SqL K H p ys ∧ ∀ l, H l = none → Q (.ref l) (upd H l (.tup ys))) ∨ (SqT K H p ys ∧ Q (.ref p) H))
def LstOf (K : PySem.W.Frag) : List V → Hp → VK → Prop := fun xs H Q => ∃ p ys, xs = [.ref p] ∧ (SqL K H p ys ∨ SqT K H p ys) ∧ ∀ l, H l = none → Q (.ref l) (upd H l (.lst ys))
theorem TupOf.tup (h : SqT K H p ys) (q : Q (.ref p) H) : TupOf K [.ref p] H Q := ⟨p, ys, rfl, .inr ⟨h, q⟩⟩
theorem LstOf.tup (h : SqT K H p ys) (q : ∀ l, H l = none → Q (.ref l) (upd H l (.lst ys))) : LstOf K [.ref p] H Q := ⟨p, ys, rfl, .inr h, q⟩
end
end Sv
namespace Sv
open PySem L2
theorem Strs.mem {H : Hp} {vs : List V} {bs : List (Int × Int)} {x : V} (h : Strs H vs bs) (e : x ∈ vs) : ∃ a lo hi, x = .ref a ∧ (lo, hi) ∈ bs ∧ H a = some (.tup [.int lo, .int hi]) := by
  obtain ⟨i, hi⟩ := List.getElem?_of_mem e
  obtain ⟨a, lo, hi', e1, e2, e3⟩ := h.at hi
  exact ⟨a, lo, hi', e1, List.mem_of_getElem? e2, e3⟩
end Sv
namespace Sv
open PySem L2
section
variable {K : PySem.W.Frag} {H : Hp} {Q : VK} {p r : Addr} {bs cs : List (Int × Int)} {ns : List Int} {i : Nat}
def meetOf (b c : Int × Int) : Int × Int := (max b.1 c.1, min b.2 c.2)
def full (b : Int × Int) : Bool := decide (b.1 ≤ b.2)
def meets (bs cs : List (Int × Int)) : List (Int × Int) := List.zipWith meetOf bs cs
def bothOf (bs cs : List (Int × Int)) : Option (List (Int × Int)) := if (meets bs cs).all full = true then some (meets bs cs) else none
end
end Sv
namespace Sv
open PySem L2
theorem bool_eq_dec {b : Bool} {c : Prop} [Decidable c] (h : b = true ↔ c) : b = decide c := by
  rw [Bool.eq_iff_iff, h, decide_eq_true_iff]
theorem eqB_go {H : Hp} {Q : VK} {p r : Addr} {bs cs : List (Int × Int)} (h : IsBox H p bs) (h' : IsBox H r cs) (q : Q (.bl (decide (bs = cs))) H) : rEqD false (.ref p) (.ref r) H Q := by
  refine ⟨boxD bs, boxD cs, h.dt, h'.dt, boxD_shaped _, boxD_shaped _, ?_⟩
  rw [if_neg Bool.false_ne_true, bool_eq_dec (box_eqv bs cs)]
  exact q
theorem eqN_go {H : Hp} {Q : VK} {r : Addr} {cs : List (Int × Int)} (h' : IsBox H r cs) (q : Q (.bl false) H) : rEqD false .non (.ref r) H Q := by
  refine ⟨.none, boxD cs, .non, h'.dt, by decide, boxD_shaped _, ?_⟩
  rw [if_neg Bool.false_ne_true, show PyData.eqv .none (boxD cs) = false by simp [boxD, PyData.eqv]]
  exact q
end Sv
namespace Sv
open PySem L2
def BothV (H : Hp) (bs cs : List (Int × Int)) (v : V) : Prop := (v = .non ∧ bothOf bs cs = none) ∨ ∃ x ds, v = .ref x ∧ bothOf bs cs = some ds ∧ IsBox H x ds
theorem BothV.same {H H' : Hp} {bs cs : List (Int × Int)} {v : V} (h : BothV H bs cs v) (s : Same H H') : BothV H' bs cs v := by
  rcases h with h | ⟨x, ds, h1, h2, h3⟩
  · exact .inl h
  · exact .inr ⟨x, ds, h1, h2, h3.same s⟩
theorem BothV.eqv {H : Hp} {Q : VK} {p : Addr} {bs cs ds : List (Int × Int)} {v : V} (h : BothV H bs cs v) (hp : IsBox H p ds) (q : Q (.bl (decide (bothOf bs cs = some ds))) H) : rEqD false v (.ref p) H Q := by
  rcases h with ⟨rfl, e⟩ | ⟨x, es, rfl, e, hx⟩
  · rw [e] at q
    exact eqN_go hp q
  · rw [e, show decide (some es = some ds) = decide (es = ds) by simp] at q
    exact eqB_go hx hp q
end Sv
namespace Sv
open PySem L2
section
variable {K : PySem.W.Frag} {σ : L2.St} {H : Hp} {Q : VK} {p : Addr} {xs : List V} {k : Nat} {r : V → Option Int → Option Int → Hp → VK → Prop} {te : TE} {tl th : TO} {Qo : Option Int → Hp → Prop}
theorem slice_ : tSl r te tl th σ H Q = te σ H fun x H1 => tl σ H1 fun l H2 => th σ H2 fun u H3 => r x l u H3 Q := rfl
theorem nopart_ : tNoPart σ H Qo = Qo none H := rfl
def PartR (x : V) (H : Hp) (Qo : Option Int → Hp → Prop) : Prop := ∃ i, x = .int i ∧ Qo (some i) H
theorem part_ : tPart te σ H Qo = te σ H fun x H1 => PartR x H1 Qo := rfl
theorem PartR.go {i : Int} (q : Qo (some i) H) : PartR (.int i) H Qo := ⟨i, rfl, q⟩
theorem cut_take (h : k ≤ xs.length) : cutV xs none (some (k : Int)) = xs.take k := by
  unfold cutV
  rw [HT.sIx_nat, HT.sIx_none, Nat.min_eq_left h, List.drop_zero, Nat.sub_zero]
theorem cut_drop (h : k ≤ xs.length) : cutV xs (some (k : Int)) none = xs.drop k := by
  unfold cutV
  rw [HT.sIx_nat, HT.sIx_none, Nat.min_eq_left h]
  exact List.take_of_length_le (by rw [List.length_drop]; exact Nat.le_refl _)
theorem cut_takeA : cutV xs none (some (k : Int)) = xs.take k := by
  by_cases h : k ≤ xs.length
  · exact cut_take h
  · unfold cutV
    rw [HT.sIx_nat, HT.sIx_none, List.drop_zero, Nat.sub_zero, Nat.min_eq_right (by omega), List.take_of_length_le (Nat.le_refl _), List.take_of_length_le (by omega)]
theorem slTakeA_go (h : SqL K H p xs) (q : ∀ l, H l = none → Q (.ref l) (upd H l (.lst (xs.take k)))) : rSlL K (.ref p) none (some (k : Int)) H Q := ⟨p, xs, rfl, h, by rw [cut_takeA]; exact q⟩
end
inductive Bxs (H : Hp) : List V → List (List (Int × Int)) → Prop where
  | nil : Bxs H [] []
  | cons {p : Addr} {b : List (Int × Int)} {vs : List V} {bss : List (List (Int × Int))} (h : IsBox H p b) (t : Bxs H vs bss) : Bxs H (.ref p :: vs) (b :: bss)
section
variable {H H' : Hp} {vs ws : List V} {bss css : List (List (Int × Int))} {p : Addr}
theorem IsBox.mono {b : List (Int × Int)} (h : IsBox H p b) (k : ∀ a xs, H a = some (.tup xs) → H' a = some (.tup xs)) : IsBox H' p b := by
  obtain ⟨vs, e, t⟩ := h
  exact ⟨vs, k _ _ e, t.mono k⟩
theorem upd_tup {xs : List V} {o : HO} (e : H p = some (.lst xs)) : ∀ a ys, H a = some (.tup ys) → upd H p o a = some (.tup ys) := fun a ys q => by
  have n : a ≠ p := fun z => by rw [z, e] at q; cases q
  rw [upd_ne n]
  exact q
theorem IsBox.upd {b : List (Int × Int)} {xs : List V} {o : HO} {l : Addr} (h : IsBox H p b) (e : H l = some (.lst xs)) : IsBox (upd H l o) p b := h.mono (upd_tup e)
theorem Bxs.mono (h : Bxs H vs bss) (k : ∀ a xs, H a = some (.tup xs) → H' a = some (.tup xs)) : Bxs H' vs bss := by
  induction h with
  | nil => exact .nil
  | cons h _ ih => exact .cons (h.mono k) ih
theorem Bxs.same (h : Bxs H vs bss) (s : Same H H') : Bxs H' vs bss := h.mono fun a xs e => s _ _ e
theorem Bxs.upd {xs : List V} {o : HO} {l : Addr} (h : Bxs H vs bss) (e : H l = some (.lst xs)) : Bxs (upd H l o) vs bss := h.mono (upd_tup e)
theorem Bxs.len (h : Bxs H vs bss) : vs.length = bss.length := by
  induction h with
  | nil => rfl
  | cons _ _ ih => rw [List.length_cons, List.length_cons, ih]
theorem Bxs.at {i : Nat} {x : V} (h : Bxs H vs bss) (e : vs[i]? = some x) : ∃ p b, x = .ref p ∧ bss[i]? = some b ∧ IsBox H p b := by
  induction h generalizing i with
  | nil => cases e
  | cons h _ ih =>
    cases i with
    | zero =>
      cases e
      exact ⟨_, _, rfl, rfl, h⟩
    | succ j => exact ih e
theorem Bxs.take {n : Nat} (h : Bxs H vs bss) : Bxs H (vs.take n) (bss.take n) := by
  induction h generalizing n with
  | nil => rw [List.take_nil, List.take_nil]; exact .nil
  | cons h _ ih =>
    cases n with
    | zero => exact .nil
    | succ m => exact .cons h ih
end
end Sv
namespace Sv
open PySem PySem.Spec PyProof.Rows L2
section
variable {P : Program} {w : World} {A : Around} {E : Value → Shared → Prop} {s : Shared}
def IsIt (h : Heap) : Bool → Addr → Addr → Nat → Prop
  | true => h.IsTupleIter
  | false => h.IsListIter
def IsSq (h : Heap) : Bool → Addr → Array Value → Prop
  | true => h.IsTuple
  | false => h.IsList
theorem IsIt.at {h h' : Heap} {b : Bool} {q p : Addr} {i : Nat} (x : IsIt h b q p i) (e : ∀ o, h.get? q = some o → h'.get? q = some o) : IsIt h' b q p i := by
  cases b
  · exact Heap.IsListIter.at x e
  · exact Heap.IsTupleIter.at x e
theorem IsSq.at {h h' : Heap} {b : Bool} {p : Addr} {its : Array Value} (x : IsSq h b p its) (e : ∀ o, h.get? p = some o → h'.get? p = some o) : IsSq h' b p its := by
  cases b
  · exact Heap.IsList.at x e
  · obtain ⟨o, ho, r⟩ := x
    exact ⟨o, e _ ho, r⟩
theorem IsIt.ex {h : Heap} {b : Bool} {q p : Addr} {i : Nat} (x : IsIt h b q p i) : ∃ o, h.get? q = some o ∧ ∀ v, o.data ≠ .cell v := by
  cases b
  · obtain ⟨o, e, _, d⟩ := x
    exact ⟨o, e, fun v z => by rw [d] at z; cases z⟩
  · obtain ⟨o, e, _, d⟩ := x
    exact ⟨o, e, fun v z => by rw [d] at z; cases z⟩
def Kept (ch : List Addr) (h h' : Heap) : Prop := ∀ c o, c ∉ ch → h.get? c = some o → h'.get? c = some o
theorem Kept.trans {ch : List Addr} {h h' h'' : Heap} (x : Kept ch h h') (y : Kept ch h' h'') : Kept ch h h'' := fun c o n e => y c o n (x c o n e)
theorem Kept.of {ch : List Addr} {h h' : Heap} {b : Addr} (x : Heap.SameBut b h h') (m : b ∈ ch) : Kept ch h h' := fun c o n e => x.extBut c o (fun z => n (z ▸ m)) e
theorem Kept.ext {ch : List Addr} {h h' : Heap} {b : Addr} (x : Heap.ExtBut b h h') (m : b ∈ ch) : Kept ch h h' := fun c o n e => x c o (fun z => n (z ▸ m)) e
end
def Itz (K : PySem.W.Frag) (a b : Addr) : It :=
  ⟨fun i H => ∃ xs ys x y, SqT K H a xs ∧ SqT K H b ys ∧ xs[i]? = some x ∧ ys[i]? = some y,
   fun i H v H' => ∃ t x y, v = .ref t ∧ H t = none ∧ H' = upd H t (.tup [x, y]) ∧ ∀ xs ys, SqT K H a xs → SqT K H b ys → xs[i]? = some x ∧ ys[i]? = some y,
   fun i H => ∃ xs ys, SqT K H a xs ∧ SqT K H b ys ∧ (xs.length ≤ i ∨ ys.length ≤ i)⟩
def Sq (K : PySem.W.Frag) (H : Hp) : Bool → Addr → List V → Prop
  | true => SqT K H
  | false => SqL K H
def Ite (K : PySem.W.Frag) (b : Bool) (a : Addr) : It :=
  ⟨fun i H => ∃ xs x, Sq K H b a xs ∧ xs[i]? = some x,
   fun i H v H' => ∃ t x, v = .ref t ∧ H t = none ∧ H' = upd H t (.tup [.int i, x]) ∧ ∀ xs, Sq K H b a xs → xs[i]? = some x,
   fun i H => ∃ xs, Sq K H b a xs ∧ xs.length ≤ i⟩
theorem Sq.at {X : Cx} {pins : List (Addr × Obj)} {σ : L2.St} {H : Hp} {s : Shared} {b : Bool} {a : Addr} {xs : List V} (I : Inv X pins σ H s) (h : Sq X.K H b a xs) : ∃ its : List Value, Vals xs its ∧ IsSq s.heap b a its.toArray := by
  cases b with
  | true =>
    obtain ⟨its, rv, p, _⟩ := I.tuple h
    exact ⟨its, rv, p⟩
  | false =>
    obtain ⟨its, rv, p, _⟩ := I.list h
    exact ⟨its, rv, p.isList⟩
section
variable {X : Cx}
end
end Sv
namespace Sv
open PySem PySem.Spec PyProof.Rows L2
section
variable {K : PySem.W.Frag} {H : Hp} {R : It → Hp → Prop} {a b : Addr} {xs ys : List V} {vs : List V}
def ZipR (K : PySem.W.Frag) (vs : List V) (H : Hp) (R : It → Hp → Prop) : Prop := ∃ a b xs ys, vs = [.ref a, .ref b] ∧ SqT K H a xs ∧ SqT K H b ys ∧ R (Itz K a b) H
theorem ZipR.go (h1 : SqT K H a xs) (h2 : SqT K H b ys) (q : R (Itz K a b) H) : ZipR K [.ref a, .ref b] H R := ⟨a, b, xs, ys, rfl, h1, h2, q⟩
def EnuR (K : PySem.W.Frag) (t : Bool) (vs : List V) (H : Hp) (R : It → Hp → Prop) : Prop := ∃ a xs, vs = [.ref a] ∧ Sq K H t a xs ∧ R (Ite K t a) H
theorem EnuR.go {t : Bool} (h1 : Sq K H t a xs) (q : R (Ite K t a) H) : EnuR K t [.ref a] H R := ⟨a, xs, rfl, h1, q⟩
end
section
variable {X : Cx}
def rCatA (K : PySem.W.Frag) : R2 := fun x y H Q => ∃ a b xs ys, x = .ref a ∧ y = .ref b ∧ SqT K H a xs ∧ SqT K H b ys ∧ xs.length + ys.length ≤ sizeLine ∧
  (xs = [] → Q (.ref b) H) ∧ (xs ≠ [] → ys = [] → Q (.ref a) H) ∧ (xs ≠ [] → ys ≠ [] → ∀ p, H p = none → Q (.ref p) (upd H p (.tup (xs ++ ys))))
theorem op_catA : OpR X (binaryOp .Add) (rCatA X.K) := by
  intro pins s σ H x y v u Q I rx ry h
  obtain ⟨a, b, xs, ys, rfl, rfl, ha, hb, hz, q0, q1, q2⟩ := h
  by_cases hx : xs = []
  · cases rx
    cases ry
    obtain ⟨its, r1, p1, _⟩ := I.tuple ha
    obtain ⟨its2, r2, p2, _⟩ := I.tuple hb
    obtain ⟨⟨cls, dd, data, sl⟩, ho, hc, n, hd⟩ := id p1
    obtain ⟨⟨cls2, dd2, data2, sl2⟩, ho2, hc2, n2, hd2⟩ := id p2
    cases hc
    cases hd
    cases hc2
    cases hd2
    exact concat_meets ⟨_, ho, rfl⟩ ⟨_, ho2, rfl⟩ noFill_tuple_add seq_tuple_add PySem.F.slot_tuple_add PySem.F.entry_tuple_add (PySem.F.args_tuple_add_2 _ _)
      (tuple_addW0 a b its.toArray its2.toArray n n2 dd dd2 sl sl2 (by simp [r1.nil_iff.mpr hx])) ⟨ho, ho2, ⟨.ref b, H, I, rfl, q0 hx⟩⟩
  · exact op_catT pins s σ H _ _ v u Q I rx ry ⟨a, b, xs, ys, rfl, rfl, ha, hb, hx, hz, q1 hx, q2 hx⟩
theorem catA_go {K : PySem.W.Frag} {H : Hp} {Q : VK} {a b : Addr} {xs ys : List V} (ha : H a = some (.tup xs)) (hb : H b = some (.tup ys)) (hz : xs.length + ys.length ≤ 1000) (q : ∀ p H', Same H H' → H' p = some (.tup (xs ++ ys)) → Q (.ref p) H') : rCatA K (.ref a) (.ref b) H Q := by
  refine ⟨a, b, xs, ys, rfl, rfl, SqT.of ha, SqT.of hb, Nat.le_of_lt (small1000 hz), fun e => q b H (Same.refl H) ?_, fun _ e => q a H (Same.refl H) ?_, fun _ _ p hp => q p _ (same_new hp _) upd_same⟩
  · rw [hb, e]
    rfl
  · rw [ha, e, List.append_nil]
theorem slT_take {K : PySem.W.Frag} {H : Hp} {Q : VK} {a : Addr} {xs : List V} {k : Nat} (ha : H a = some (.tup xs)) (hk : k < xs.length) (q : ∀ p, H p = none → Q (.ref p) (upd H p (.tup (xs.take k)))) : rSlT K (.ref a) none (some (k : Int)) H Q := by
  refine ⟨a, xs, rfl, SqT.of ha, ?_, ?_⟩
  · rw [HT.sIx_nat]
    omega
  · rw [cut_take (Nat.le_of_lt hk)]
    exact q
end
end Sv
namespace Sv
open PySem PySem.Spec PyProof.Rows L2
structure FnM (P : Program) (w : World) (K : PySem.W.Frag) (mg : Str → Option Value) (base : Heap) (C : Addr) (m : Str) (k : Nat) (ps : List Str) (sp : Sp) : Prop where
  ex : ∃ (f : Addr) (fd : FuncData), FnOk P w K mg base CX0 k f fd ps sp ∧ Meth K C m f ∧ Binds K fd ps []
structure FnI (P : Program) (w : World) (K : PySem.W.Frag) (mg : Str → Option Value) (base : Heap) (C : Addr) (k : Nat) (ps : List Str) (sp : Sp) : Prop where
  ex : ∃ (f : Addr) (fd : FuncData), FnOk P w K mg base CX0 k f fd ps sp ∧ Mk K C f ∧ Binds K fd ps []
structure MDef (K : PySem.W.Frag) (C : Addr) (m qual : Str) (st : Stmt) : Prop where
  ex : ∃ (f : Addr) (fd : FuncData), Fun K m qual st f fd ∧ PySem.W.findIn K (.ref C) m = some (some (.ref f)) ∧ PySem.W.isFn K (.ref f) = true
theorem mk_mdef {K : PySem.W.Frag} {C : Addr} {m qual : Str} {st : Stmt} {f : Addr} {oc kV dc pm cd ct : Value} {od an : Option Addr} {sl : Array (Option Value)} (a : PySem.W.findIn K (.ref C) m = some (some (.ref f)))
    (l : K.lookup f = some ⟨oc, od, .func (PySem.W.fnOf m qual (defArgs st) (defBody st) (defScope st) .none kV dc pm an cd ct), sl⟩) (c : PySem.W.codeIn K cd qual = true) (k : PySem.W.keepIn K (.ref f) = true) (n : PySem.W.isFn K (.ref f) = true) : MDef K C m qual st :=
  ⟨⟨f, _, fun_mk l c k, a, n⟩⟩
section
variable {P : Program} {w : World} {K : PySem.W.Frag} {mg : Str → Option Value} {base : Heap} {C : Addr} {m qual : Str} {st : Stmt} {k : Nat} {ps : List Str} {sp : Sp}
theorem MDef.fnM (D : MDef K C m qual st) (b : ∀ (kV doc pm : Value) (an : Option Addr) (cdv ct : Value) (us : List Value), us.length = ps.length → bindArgs (PySem.W.fnOf m qual (defArgs st) (defBody st) (defScope st) .none kV doc pm an cdv ct) ⟨us, []⟩ = pure (ps.zip us))
    (ok : ∀ (f : Addr) (fd : FuncData), Fun K m qual st f fd → FnOk P w K mg base CX0 k f fd ps sp) : FnM P w K mg base C m k ps sp := by
  obtain ⟨f, fd, F, a, n⟩ := D.ex
  exact ⟨⟨f, fd, ok f fd F, ⟨a, n, F.kp⟩, F.binds b⟩⟩
theorem MDef.fnI (D : MDef K C "__init__" qual st) (mk : PySem.W.makesIn K C = true) (kp : PySem.W.keepIn K (.ref C) = true) (b : ∀ (kV doc pm : Value) (an : Option Addr) (cdv ct : Value) (us : List Value), us.length = ps.length → bindArgs (PySem.W.fnOf "__init__" qual (defArgs st) (defBody st) (defScope st) .none kV doc pm an cdv ct) ⟨us, []⟩ = pure (ps.zip us))
    (ok : ∀ (f : Addr) (fd : FuncData), Fun K "__init__" qual st f fd → FnOk P w K mg base CX0 k f fd ps sp) : FnI P w K mg base C k ps sp := by
  obtain ⟨f, fd, F, a, n⟩ := D.ex
  exact ⟨⟨f, fd, ok f fd F, ⟨mk, a, n, kp⟩, F.binds b⟩⟩
end
section
variable {X : Cx} {k j : Nat} {C : Addr} {ps : List Str} {sp : Sp} {x m : Str} {p pos apos : Pos} {e o : Expr} {es : List Expr} {ta : TE} {t : TA} {pl : Sem Bool}
def tMethA (P : Program) (w : World) (K : PySem.W.Frag) (mg : Str → Option Value) (base : Heap) (j : Nat) (m : Str) (ta : TE) (t : TA) : TE := fun σ H Q => ta σ H fun x H1 => ∃ (a C dx : Addr) (fs : List (Str × V)) (k : Nat) (ps : List Str) (sp : Sp),
  x = .ref a ∧ H1 a = some (.ins C dx fs) ∧ fs.lookup m = none ∧ k ≤ j ∧ Cls K C ∧ FnM P w K mg base C m k ps sp ∧ t σ H1 fun vs H2 => sp (x :: vs) H2 Q E0
theorem pe_methA (he : PE X o ta) (hr : Room j X.A) (ha : PA X (e :: es) t) (hst : starEach (e :: es) X.env = (false, eval e X.env) :: starEach es X.env := by rfl) (hpl : (backTo pos (starEach es X.env)).any (·.1) = false := by rfl)
    (ht : eval (.Call (.Attribute o m apos) (e :: es) [] pos) X.env = (do
      let ov ← eval o X.env
      standAt apos.atName
      let (f, first) ← holding [ov] (getMethod ov m pl)
      callWith pos f first (backTo pos (starEach (e :: es) X.env)) (backToKw pos (keywordEach [] X.env))) := by rfl) : PE X (.Call (.Attribute o m apos) (e :: es) [] pos) (tMethA X.prog X.w X.K X.mg X.base j m ta t) := by
  intro pins s σ H Q I h
  refine PySem.W.methodCall_KW (pl := pl) (thn (he pins s σ H _ I h) fun u s1 ⟨x, H1, I1, rx, a, C, dx, fs, k, ps, sp, ex, ea, l, hk, c, F, q⟩ => ?_) ht
  subst ex
  obtain rfl : u = Value.ref a := rx
  obtain ⟨f, fd, G, hm, b⟩ := F.ex
  refine getmeth_ok I1 ea c hm l ?_
  refine PySem.W.callWith_K (first := [.ref a]) (h₀ := X.base) I.ok.mod.kin hm.kp (thn (ha pos pins s1 σ H1 _ I1 q) fun us s2 ⟨vs, H2, I2, r, q2⟩ => ⟨I2.kIn, ?_⟩) hst hpl
  exact run_fn (us := .ref a :: us) (vs := .ref a :: vs) G (hr.mono hk) b .nil pass0 I2 (.cons rfl r) (by rw [List.append_nil]; exact q2)
theorem pe_methA0 (he : PE X o ta) (hr : Room j X.A)
    (ht : eval (.Call (.Attribute o m apos) [] [] pos) X.env = (do
      let ov ← eval o X.env
      standAt apos.atName
      let (f, first) ← holding [ov] (getMethod ov m pl)
      callWith pos f first (backTo pos (starEach [] X.env)) (backToKw pos (keywordEach [] X.env))) := by rfl) : PE X (.Call (.Attribute o m apos) [] [] pos) (tMethA X.prog X.w X.K X.mg X.base j m ta tNil) := by
  intro pins s σ H Q I h
  refine PySem.W.methodCall_KW (pl := pl) (thn (he pins s σ H _ I h) fun u s1 ⟨x, H1, I1, rx, a, C, dx, fs, k, ps, sp, ex, ea, l, hk, c, F, q⟩ => ?_) ht
  subst ex
  obtain rfl : u = Value.ref a := rx
  obtain ⟨f, fd, G, hm, b⟩ := F.ex
  refine getmeth_ok I1 ea c hm l ?_
  exact PySem.W.callWith_K0 (first := [.ref a]) I1.kIn hm.kp (run_fn (us := [.ref a]) (vs := [.ref a]) G (hr.mono hk) b .nil pass0 I1 (.cons rfl .nil) (by exact q))
theorem pe_new (F : FnI X.prog X.w X.K X.mg X.base C k ps sp) (hr : Room j X.A) (hk : k + 1 ≤ j) (hg : Gl X x) (hm : X.mg x = some (.ref C)) (ha : PA X (e :: es) t) (hdb : (x == ("__debug__" : Str)) = false := by decide)
    (he : starEach (e :: es) X.env = (false, eval e X.env) :: starEach es X.env := by rfl) (hpl : (backTo pos (starEach es X.env)).any (·.1) = false := by rfl) : PE X (.Call (.Name x p) (e :: es) [] pos) (tMake C sp [] E0 t) := by
  obtain ⟨f, fd, G, M, b⟩ := F.ex
  exact pe_make M G (hr.mono hk) hg hm b .nil pass0 ha hdb he hpl
def rIsiC (K : PySem.W.Frag) : List V → Hp → VK → Prop := fun xs H Q => ∃ x C t b, xs = [x, .ref C] ∧ TyOf K H x t ∧ PySem.W.kitOne K t (.ref C) = some b ∧ Q (.bl b) H
theorem call_isiC : CallR X (.builtin "isinstance") (rIsiC X.K) := by
  intro pins s σ H xs us Q I r h
  obtain ⟨x, C, t, b, rfl, ty, e, q⟩ := h
  obtain ⟨u, w', rfl, ru, rw'⟩ := vals2 r
  cases rw'
  exact isinst_ok I ru ty e fun tk => ⟨.bl b, H, I.tok _, rfl, q⟩
end
section
variable {K : PySem.W.Frag} {H : Hp} {Q : VK} {σ : L2.St} {ta tv : TE} {t : TA} {f : Str} {D : Ends} {a C dx : Addr} {fs : List (Str × V)} {v y : V} {sp : Sp} {vs : List V}
def FldR (K : PySem.W.Frag) (f : Str) (x : V) (H : Hp) (Q : VK) : Prop := ∃ a C dx fs v, x = .ref a ∧ H a = some (.ins C dx fs) ∧ Cls K C ∧ NoAttr K C f ∧ fs.lookup f = some v ∧ Q v H
theorem fld_ : tFld K ta f σ H Q = ta σ H fun x H1 => FldR K f x H1 Q := rfl
theorem FldR.go (h : H a = some (.ins C dx fs)) (c : Cls K C) (n : NoAttr K C f) (l : fs.lookup f = some v) (q : Q v H) : FldR K f (.ref a) H Q := ⟨a, C, dx, fs, v, rfl, h, c, n, l, q⟩
def SFldR (K : PySem.W.Frag) (f : Str) (y x : V) (H : Hp) (R : Hp → Prop) : Prop := ∃ a C dx fs, x = .ref a ∧ H a = some (.ins C dx fs) ∧ Cls K C ∧ NoAttr K C f ∧ fs.length < 1000 ∧ R (upd H a (.ins C dx (putF f y fs)))
theorem sfld_ : sFld K ta tv f D σ H = tv σ H fun y H1 => ta σ H1 fun x H2 => SFldR K f y x H2 fun H' => D.nx σ H' := rfl
theorem SFldR.go {R : Hp → Prop} (h : H a = some (.ins C dx fs)) (c : Cls K C) (n : NoAttr K C f) (l : fs.length < 1000) (q : R (upd H a (.ins C dx (putF f y fs)))) : SFldR K f y (.ref a) H R := ⟨a, C, dx, fs, rfl, h, c, n, l, q⟩
def MakeR (C : Addr) (sp : Sp) (vs : List V) (H : Hp) (Q : VK) : Prop := ∀ x dx, H x = none → H dx = none → dx ≠ x → sp (.ref x :: vs) (upd (upd H dx (.own x)) x (.ins C dx [])) (fun v H2 => v = .non ∧ Q (.ref x) H2) E0
theorem make_ : tMake C sp [] E0 t σ H Q = t σ H fun vs H1 => MakeR C sp vs H1 Q := by
  unfold tMake MakeR
  simp only [List.append_nil]
def MethR (P : Program) (w : World) (K : PySem.W.Frag) (mg : Str → Option Value) (base : Heap) (j : Nat) (m : Str) (x : V) (t : TA) (σ : L2.St) (H : Hp) (Q : VK) : Prop := ∃ (a C dx : Addr) (fs : List (Str × V)) (k : Nat) (ps : List Str) (sp : Sp),
  x = .ref a ∧ H a = some (.ins C dx fs) ∧ fs.lookup m = none ∧ k ≤ j ∧ Cls K C ∧ FnM P w K mg base C m k ps sp ∧ t σ H fun vs H2 => sp (x :: vs) H2 Q E0
theorem methA_ {P : Program} {w : World} {mg : Str → Option Value} {base : Heap} {j : Nat} {m : Str} : tMethA P w K mg base j m ta t σ H Q = ta σ H fun x H1 => MethR P w K mg base j m x t σ H1 Q := rfl
theorem MethR.go {P : Program} {w : World} {mg : Str → Option Value} {base : Heap} {j k : Nat} {m : Str} {ps : List Str} (F : FnM P w K mg base C m k ps sp) (h : H a = some (.ins C dx fs)) (c : Cls K C) (l : fs.lookup m = none) (hk : k ≤ j) (q : t σ H fun vs H2 => sp (.ref a :: vs) H2 Q E0) : MethR P w K mg base j m (.ref a) t σ H Q :=
  ⟨a, C, dx, fs, k, ps, sp, rfl, h, l, hk, c, F, q⟩
theorem rNeB_ {i j : Bool} : rNe (.bl i) (.bl j) H Q = Q (.bl (!decide (i = j))) H := by
  have e : decide (V.bl i = V.bl j) = decide (i = j) := decide_eq_decide.mpr ⟨fun h => V.bl.inj h, fun h => by rw [h]⟩
  unfold rNe
  rw [e]
  exact propext ⟨fun h => h.2, fun h => ⟨rfl, h⟩⟩
end
end Sv
namespace Sv
open PySem PySem.Spec PyProof.Rows L2
inductive All2 {α β : Type} (R : α → β → Prop) : List α → List β → Prop where
  | nil : All2 R [] []
  | cons {x : α} {y : β} {xs : List α} {ys : List β} (h : R x y) (t : All2 R xs ys) : All2 R (x :: xs) (y :: ys)
section
variable {α β : Type} {R S : α → β → Prop} {xs us : List α} {ys vs : List β}
theorem All2.len (h : All2 R xs ys) : xs.length = ys.length := by
  induction h with
  | nil => rfl
  | cons _ _ ih => rw [List.length_cons, List.length_cons, ih]
theorem All2.imp (h : All2 R xs ys) (k : ∀ x y, R x y → S x y) : All2 S xs ys := by
  induction h with
  | nil => exact .nil
  | cons h _ ih => exact .cons (k _ _ h) ih
theorem All2.app (h : All2 R xs ys) (k : All2 R us vs) : All2 R (xs ++ us) (ys ++ vs) := by
  induction h with
  | nil => exact k
  | cons h _ ih => exact .cons h ih
theorem All2.snoc {x : α} {y : β} (h : All2 R xs ys) (k : R x y) : All2 R (xs ++ [x]) (ys ++ [y]) := h.app (.cons k .nil)
theorem All2.at {i : Nat} {x : α} (h : All2 R xs ys) (e : xs[i]? = some x) : ∃ y, ys[i]? = some y ∧ R x y := by
  induction h generalizing i with
  | nil => cases e
  | cons h _ ih =>
    cases i with
    | zero =>
      cases e
      exact ⟨_, rfl, h⟩
    | succ i => exact ih e
theorem All2.ix {i : Nat} {y : β} (h : All2 R xs ys) (e : ys[i]? = some y) : ∃ x, xs[i]? = some x ∧ R x y := by
  induction h generalizing i with
  | nil => cases e
  | cons h _ ih =>
    cases i with
    | zero =>
      cases e
      exact ⟨_, rfl, h⟩
    | succ i => exact ih e
end
theorem CmpR.rel {cap : List Nat} {te : TE} {J : It} {σ : L2.St} {H : Hp} {Q : VK} {xs : List V} {Ok : Hp → Prop} (R : Addr → Hp → V → V → Prop) (mono : ∀ D H H' x v, (∀ b o, b ≠ D → H b = some o → H' b = some o) → R D H x v → R D H' x v) (it : ItOf J xs Ok) (hz : xs.length ≤ 1000) (ok : ∀ H', Same H H' → Ok H')
    (hs : ∀ D x H' ys (Q' : VK), x ∈ xs → H D = none → Same H H' → H' D = some (.lst ys) → (∀ v H2, Same H' H2 → R D H2 x v → Q' v H2) → te (some x :: cap.map fun i => σ.getD i none) H' Q')
    (hd : ∀ D H' vs, H D = none → Same H H' → H' D = some (.lst vs) → All2 (R D H') xs vs → Q (.ref D) H') : CmpR 1 cap (gName 0) tYes te J σ H Q := by
  intro D hD
  have keep : ∀ {H' : Hp} {o : HO}, Same H H' → Same H (upd H' D o) := fun sm b o e => by
    rw [upd_ne (ne_of_none e hD)]
    exact sm b o e
  refine ⟨fun i m σ' H' => m = xs.length - i ∧ i ≤ xs.length ∧ ∃ t vs, σ' = t :: (cap.map fun i => σ.getD i none) ∧ Same H H' ∧ H' D = some (.lst vs) ∧ All2 (R D H') (xs.take i) vs, ⟨_, rfl, Nat.zero_le _, none, [], rfl, keep (Same.refl _), upd_same, .nil⟩, fun i m σ' H' hw => ?_⟩
  obtain ⟨rfl, hi, t, vs, rfl, sm, hl, al⟩ := hw
  by_cases lt : i < xs.length
  · refine .inr ⟨it.go i _ (ok _ sm) lt, fun σ2 H2 => ∃ t vs, σ2 = t :: (cap.map fun i => σ.getD i none) ∧ Same H H2 ∧ H2 D = some (.lst vs) ∧ All2 (R D H2) (xs.take (i + 1)) vs, fun σ2 H2 n2 => ⟨_, ?_, rfl, lt, n2⟩, fun x H2 y => ?_⟩
    · omega
    · obtain ⟨rfl, hx⟩ := it.yld i _ x H2 (ok _ sm) lt y
      show te (some x :: (cap.map fun i => σ.getD i none)) _ _
      refine hs D x H2 vs _ (List.mem_of_getElem? hx) hD sm hl fun v H3 s3 r => ⟨_, s3 _ _ hl, ?_, _, vs ++ [v], rfl, keep (sm.trans s3), upd_same, ?_⟩
      · have := al.len
        rw [List.length_take] at this
        exact small1000 (by omega)
      · rw [List.take_add_one, hx, Option.toList_some]
        refine (All2.snoc (al.imp fun a b r => mono D H2 _ a b (fun c o ne e => ?_) r) (mono D H3 _ x v (fun c o ne e => ?_) r))
        · rw [upd_ne ne]
          exact s3 _ _ e
        · rw [upd_ne ne]
          exact e
  · obtain rfl : i = xs.length := by omega
    refine .inl ⟨it.stop _ _ (ok _ sm) (Nat.le_refl _), ?_⟩
    rw [List.take_length] at al
    exact hd D H' vs hD sm hl al
end Sv
namespace Sv
open PySem PySem.Spec PyProof.Rows L2
section
variable {M : Model} {A : Around} {E : Value → Shared → Prop} {env : Env}
variable {nm q : Str} {C N : Addr} {bs bm : List Value} {hdct : Bool} {sn : List Str} {sub : List Value} {ab : Bool} {col : Option Bool} {dd : Option Addr} {k0 k1 k2 k3 k5 : Option Value} {newId : String}
theorem raise_made {s : Shared} {x : Sem Value} {Q : Flow → Shared → Prop} (hbase : bm.contains (.type "BaseException") = true) (hh : A.handled = none)
    (h : wpAny M A x (fun v s1 => ∃ (e : Addr) (dx : Option Addr) (vs : Array Value) (sl : Array (Option Value)), v = .ref e ∧ s1.heap.get? C = some (excClassObj nm q C N bs bm hdct sn sub ab col dd k0 k1 k2 k3 k5 newId) ∧
      s1.heap.get? e = some ⟨.ref C, dx, .fields vs, sl⟩ ∧ vs[1]? = some .none ∧ E (.ref e) s1) E s) : wpAny M A (raiseStmt env (some x) none) Q E s := by
  have hcB : (Value.ref C :: bm).contains (.type "BaseException") = true := by rw [List.contains_cons, hbase, Bool.or_true]
  unfold raiseStmt
  refine wpAny_bind (wpAny_mono h (fun v s1 h1 => ?_) fun _ _ y => y)
  obtain ⟨e, dx, vs, sl, rfl, hC, he, h1, hE⟩ := h1
  obtain ⟨hp, g, d, tk, os⟩ := s1
  repeat (first | with_reducible refine wpAny_loadPart_at he ?_ | with_reducible refine wpAny_loadPart_at hC ?_ | (with_reducible refine wpAny_isSubtype_exc hC ?_; rw [hcB]) | wp_step)
  rw [h1]
  refine wpAny_pure ?_
  rw [if_neg (by decide)]
  exact wpAny_pure (wpAny_raiseNew_none hh hE)
end
section
variable {prog : Program} {w : World} {A : Around} {E : Value → Shared → Prop} {h : Heap} {g : Array GenState} {d : Drawn} {t : Nat} {os : OsState}
variable {nm q : Str} {C N : Addr} {bs bm bmB : List Value} {hdct : Bool} {sn : List Str} {sub : List Value} {ab : Bool} {col : Option Bool} {dd : Option Addr} {k0 k1 k2 k3 k5 : Option Value} {B newId initId : String}
theorem type_call_excI (F : ExcBaseFacts B newId initId bmB) (T : OwnTail h bmB bm) {mN : Str → Option Value} {rest : List Value} {fI : Addr} {oI : Obj} {Q : Fin → Shared → Prop} (hC : h.get? C = some (excClassObj nm q C N bs bm hdct sn sub ab col dd k0 k1 k2 k3 k5 newId)) (hn : h.Ns N mN) (hi : mN "__init__" = some (.ref fI))
    (hfI : h.get? fI = some oI) (hfc : oI.cls = .type "function") (hq : ∀ h' e, Heap.MadeExcOf h h' e (.ref C) rest → h.objs.size ≤ e → wpAny (model prog w) A (call (.ref fI) (.ref e :: rest)) (fun r s' => r = .none ∧ Q (.done (.ret (.ref e))) s') E ⟨h', g, d, t, os⟩) (hrest : rest.length ≤ sizeLine) :
    wpAny (model prog w) A (Builtin.«type.__call__» ⟨.ref C :: rest, []⟩) Q E ⟨h, g, d, t, os⟩ := by
  repeat (first | with_reducible refine wpAny_loadPart_at hC ?_ | with_reducible refine wpAny_madeBy_exc hC ?_ | wp_step)
  refine codeAny_call_builtin_code (Code.quiet_builtin _ F.quiet) (wpAny_check_new_subU F F.hasB T hC (codeAny_exc_new_subU F F.hasB F T hC ?_ hrest))
  show wpAny _ _ _ _ _ _
  have up : ∀ b o, h.get? b = some o → ((h.push { cls := .type "tuple", data := .seq rest.toArray }).push { cls := .ref C, data := .fields #[.ref h.objs.size, .none, .none, .none, .bool false, .none] }).get? b = some o := fun b o e => Heap.get?_push_of_some _ (Heap.get?_push_of_some _ e)
  have hget : ((h.push { cls := .type "tuple", data := .seq rest.toArray }).push { cls := .ref C, data := .fields #[.ref h.objs.size, .none, .none, .none, .bool false, .none] }).get? (h.objs.size + 1) = some { cls := .ref C, data := .fields #[.ref h.objs.size, .none, .none, .none, .bool false, .none] } := by heap_get
  have gt : ((h.push { cls := .type "tuple", data := .seq rest.toArray }).push { cls := .ref C, data := .fields #[.ref h.objs.size, .none, .none, .none, .bool false, .none] }).get? h.objs.size = some { cls := .type "tuple", data := .seq rest.toArray } := Heap.get?_push_of_some _ (Heap.get?_push_at rfl rfl)
  have hC1 := up _ _ hC
  have hn1 : ((h.push { cls := .type "tuple", data := .seq rest.toArray }).push { cls := .ref C, data := .fields #[.ref h.objs.size, .none, .none, .none, .bool false, .none] }).Ns N mN := hn.keeps up
  have hcC : (Value.ref C :: bm).contains (.ref C) = true := by simp
  have T1 := T.keeps up
  unfold isInstance
  repeat (first | with_reducible refine wpAny_loadPart_at hget ?_ | (with_reducible refine wpAny_isSubtype_exc hC1 ?_; rw [hcC]) | wp_step)
  show wpAny _ _ (typeLookup (.ref C) _) _ _ _
  refine wpAny_typeLookup_tail hC1 hn1 T1 F.mroIs F.init.lookup ?_
  rw [hi]
  refine wpAny_holding (wpAny_bind ?_)
  unfold bindSpecial
  refine wpAny_bind (wpAny_typeOf (T := "function") ⟨_, up _ _ hfI, hfc⟩ ?_)
  rw [if_pos (by decide)]
  refine wpAny_pure (wpAny_bind (wpAny_mono (hq _ (h.objs.size + 1) ⟨up, Heap.get?_none_of_le (Nat.le_succ _), h.objs.size, hget, Heap.get?_none_of_le (Nat.le_refl _), gt⟩ (Nat.le_succ _)) (fun r s' hr => ?_) fun _ _ y => y))
  obtain ⟨rfl, hQ⟩ := hr
  wp_walk
  exact hQ
theorem call_excI (F : ExcBaseFacts B newId initId bmB) (T : OwnTail h bmB bm) {mN : Str → Option Value} {rest : List Value} {fI : Addr} {oI : Obj} {Q : Value → Shared → Prop} (hC : h.get? C = some (excClassObj nm q C N bs bm hdct sn sub ab col dd k0 k1 k2 k3 k5 newId)) (hn : h.Ns N mN) (hi : mN "__init__" = some (.ref fI))
    (hfI : h.get? fI = some oI) (hfc : oI.cls = .type "function") (hq : ∀ h' e, Heap.MadeExcOf h h' e (.ref C) rest → h.objs.size ≤ e → wpAny (model prog w) (A.under (.builtin "type.__call__" ⟨.ref C :: rest, []⟩)) (call (.ref fI) (.ref e :: rest)) (fun r s' => r = .none ∧ Q (.ref e) s') E ⟨h', g, d, t, os⟩) (hrest : rest.length ≤ sizeLine) :
    wpAny (model prog w) A (call (.ref C) rest) Q E ⟨h, g, d, t, os⟩ := by
  have f1 := tc_lookup
  have f2 := tc_bind (.ref C)
  have hT : (⟨h, g, d, t, os⟩ : Shared).TypeIs (.ref C) "type" := ⟨_, hC, rfl⟩
  refine wpAny_call (codeAny_of_tree (show wpAny _ _ (callAny (.ref C) _) _ _ _ from ?_))
  repeat (any_goals (first | assumption | with_reducible refine wpAny_loadPart_at hC ?_ | wp_step))
  refine ⟨rfl, codeAny_call_builtin_at (Code.quiet_builtin _ (by decide +kernel)) entry_typeCall (wpAny_check_type_call_sub hC (type_call_excI F T hC hn hi hfI hfc (fun h' e hm le => ?_) hrest))⟩
  exact hq h' e hm le
end
section
variable {prog : Program} {w : World} {A : Around} {E : Value → Shared → Prop} {s : Shared} {env : Env}
variable {nm q : Str} {C N : Addr} {bs bm bmB : List Value} {hdct : Bool} {sn : List Str} {sub : List Value} {ab : Bool} {col : Option Bool} {dd : Option Addr} {k0 k1 k2 k3 k5 : Option Value} {B newId initId : String}
theorem raise_callI (F : ExcBaseFacts B newId initId bmB) {mN : Str → Option Value} {x : Str} {np cpos pos : Pos} {args : List Expr} {fI : Addr} {oI : Obj} {Q : Flow → Shared → Prop} (hbase : bm.contains (.type "BaseException") = true) (hh : A.handled = none) (hplain : (backTo cpos (starEach args env)).any (·.1) = false) (hi : mN "__init__" = some (.ref fI)) (hfc : oI.cls = .type "function")
    (h : wpAny (model prog w) A (eval (.Name x np) env) (fun f s1 => f = .ref C ∧ wpAny (model prog w) A (evalArgs (.ref C) true (backTo cpos (starEach args env)) [])
      (fun a s2 => a.kw = [] ∧ a.pos.length ≤ sizeLine ∧ s2.heap.get? C = some (excClassObj nm q C N bs bm hdct sn sub ab col dd k0 k1 k2 k3 k5 newId) ∧ s2.heap.Ns N mN ∧ OwnTail s2.heap bmB bm ∧ s2.heap.get? fI = some oI ∧
        ∀ h' e, Heap.MadeExcOf s2.heap h' e (.ref C) a.pos → s2.heap.objs.size ≤ e → wpAny (model prog w) (A.under (.builtin "type.__call__" ⟨.ref C :: a.pos, []⟩)) (call (.ref fI) (.ref e :: a.pos)) (fun r s' => r = .none ∧
          s'.heap.get? C = some (excClassObj nm q C N bs bm hdct sn sub ab col dd k0 k1 k2 k3 k5 newId) ∧ (∃ (dx : Option Addr) (vs : Array Value) (sl : Array (Option Value)), s'.heap.get? e = some ⟨.ref C, dx, .fields vs, sl⟩ ∧ vs[1]? = some .none) ∧ E (.ref e) s') E { s2 with heap := h' }) E s1) E s) :
    wpAny (model prog w) A (exec (.Raise (some (.Call (.Name x np) args [] cpos)) none pos) env) Q E s := by
  rw [arm_exec_Raise]
  first
    | refine wpAny_bind (wpAny_standAt (raise_made (C := C) (nm := nm) (q := q) (N := N) (bs := bs) (bm := bm) (hdct := hdct) (sn := sn) (sub := sub) (ab := ab) (col := col) (dd := dd) (k0 := k0) (k1 := k1) (k2 := k2) (k3 := k3) (k5 := k5) (newId := newId) hbase hh (wpAny_bind (wpAny_mono (wpAny_Call_ofName (wpAny_mono h (fun f s1 h1 => ?_) fun _ _ y => y)) (fun v s3 h3 => wpAny_bind (wpAny_standAt (wpAny_pure h3))) fun _ _ y => y))))
    | (simp only [evalOpt, Option.map]; refine wpAny_bind (wpAny_standAt (raise_made (C := C) (nm := nm) (q := q) (N := N) (bs := bs) (bm := bm) (hdct := hdct) (sn := sn) (sub := sub) (ab := ab) (col := col) (dd := dd) (k0 := k0) (k1 := k1) (k2 := k2) (k3 := k3) (k5 := k5) (newId := newId) hbase hh (wpAny_bind (wpAny_mono (wpAny_Call_ofName (wpAny_mono h (fun f s1 h1 => ?_) fun _ _ y => y)) (fun v s3 h3 => wpAny_bind (wpAny_standAt (wpAny_pure h3))) fun _ _ y => y)))))
  obtain ⟨rfl, h1⟩ := h1
  unfold callWith
  refine wpAny_bind (wpAny_holding (wpAny_mono h1 (fun a s2 h2 => wpAny_bind (wpAny_standAt ?_)) fun _ _ y => y))
  obtain ⟨apos, akw⟩ := a
  obtain ⟨hkw, hlen, hC, hn, T, hf, h2⟩ := h2
  obtain rfl : akw = [] := hkw
  obtain ⟨hp, g, d, tk, os⟩ := s2
  simp only [hplain]
  refine wpAny_bind (wpAny_keeperOf_exc hC ?_)
  refine wpAny_bind (call_excI F T hC hn hi hf hfc (fun h' e hm le => ?_) hlen)
  refine wpAny_mono (h2 h' e hm le) (fun r s' hr => ?_) fun _ _ y => y
  obtain ⟨rfl, hC', ⟨dx, vs, sl, he, h1⟩, hE⟩ := hr
  exact ⟨rfl, wpAny_bind (wpAny_holding (wpAny_point (wpAny_pure ⟨e, dx, vs, sl, rfl, hC', he, h1, hE⟩)))⟩
end
end Sv
namespace Sv
open PySem PySem.Spec PyProof.Rows L2 PySem.W Builtin Builtin.ObjectAttr
def veTail : List Value → Bool
  | .ref _ :: r => veTail r
  | [.type a, .type b, .type c, .type d] => a == "ValueError" && b == "Exception" && c == "BaseException" && d == "object"
  | _ => false
theorem ve_refuse (self : Value) : ∀ {l : List Value}, veTail l = true → refuseLoop self "__setattr__" l = pure ()
  | .ref c :: r, e => by
    rw [refuseLoop_ref]
    exact ve_refuse self (l := r) (by simpa [veTail] using e)
  | [.type a, .type b, .type c, .type d], e => by
    simp only [veTail, Bool.and_eq_true, beq_iff_eq] at e
    obtain ⟨⟨⟨rfl, rfl⟩, rfl⟩, rfl⟩ := e
    exact PySem.F.store_ValueError.passes self
theorem ve_object : ∀ {l : List Value}, veTail l = true → l.contains (.type "object") = true
  | .ref c :: r, e => by rw [List.contains_cons, ve_object (l := r) (by simpa [veTail] using e), Bool.or_true]
  | [.type a, .type b, .type c, .type d], e => by
    simp only [veTail, Bool.and_eq_true, beq_iff_eq] at e
    obtain ⟨⟨⟨rfl, rfl⟩, rfl⟩, rfl⟩ := e
    simp
def overVE (K : PySem.W.Frag) (C : Addr) : Bool := (PySem.W.clsIn K C).any fun cd => veTail cd.mro
section
variable {K : PySem.W.Frag} {prog : Program} {w : World} {A : Around} {E : Value → Shared → Prop} {s : Shared} {x C : Addr} {name : Str} {v : Value}
theorem osa_exc {ox : Obj} {od : Option Obj} {tk : Tok} {R : Result → Shared → Prop} (X : K.In s.heap) (I : PySem.W.InstAt s.heap x ox C od) (hp : overVE K C = true) (ht : PySem.W.findIn K (.ref C) name = some none)
    (h : wpAny (model prog w) A.in1 (storeInOwnDict (.ref x) (.ref C) (.str name tk) name v false) (fun fin s' => match fin with | .done f => R (.ok f) s' | .again c' => c'.quiet = true ∧ codeAny (model prog w) A c' R s') (fun e s' => R (.error e) s') s) :
    codeAny (model prog w) A (.call (.builtin "object.__setattr__") ⟨[.ref x, .str name tk, v], []⟩) R s := by
  have SF := PySem.F.store_object
  obtain ⟨cd, hc, ho⟩ := PySem.W.any_some hp
  have ne : cd.mro.isEmpty = false := by cases q : cd.mro with | nil => rw [q] at ho; cases ho | cons _ _ => rfl
  have sub : PySem.W.Looks (model prog w) s.heap (isInstance (.ref x) (.type "object")) true := I.type.andThen (PySem.W.looks_mroIn X (by unfold PySem.W.mroIn; rw [hc, Option.bind_some, if_neg (by rw [ne]; decide), ve_object ho]))
  refine codeAny_call_builtin SF.slot.plain SF.entry (@PySem.W.check_slot (model prog w) _ _ s "object.__setattr__" "object" "__setattr__" (.ref x) [.str name tk, v] [] _ SF.kind SF.split sub (SF.args (.ref x) (.str name tk) v) ?_)
  have hm : PySem.W.Looks (model prog w) s.heap (mroOf (.ref C)) cd.mro := (PySem.W.looks_clsIn X hc).andThen .now
  rw [PySem.W.osa_eq, refuse_eq]
  refine wpAny_bind (wpAny_bind (I.type.here (wpAny_bind (hm.here ?_))))
  rw [ve_refuse _ ho]
  exact wpAny_pure (wpAny_bind (I.type.here (wpAny_bind ((PySem.W.looks_findIn X ht).here (wpAny_bind (wpAny_pure h))))))
theorem store_new {ox : Obj} {Q : Unit → Shared → Prop} (X : K.In s.heap) (I : PySem.W.InstAt s.heap x ox C none) (hp : overVE K C = true) (hd : PySem.W.hasDictIn K C = true) (ht : PySem.W.findIn K (.ref C) name = some none) (hs : PySem.W.findIn K (.ref C) "__setattr__" = some (some (.builtin "object.__setattr__")))
    (k : ∀ h' d tk, s.heap.get? d = none → d = s.heap.objs.size → h'.get? x = some { ox with dict := some d } → h'.Ns1 d (fun y => if y = name then some v else none) → (∀ b o, b ≠ x → s.heap.get? b = some o → h'.get? b = some o) → Q () { s with heap := h', toks := tk }) : wpAny (model prog w) A (setAttr (.ref x) name v) Q E s := by
  obtain ⟨hx, hcl, hn, hdx⟩ := id I
  obtain ⟨oc, odi, oda, osl⟩ := ox
  dsimp only at hcl hdx
  subst hcl
  cases odi with
  | some dx => exact absurd hdx (fun z => z)
  | none =>
    refine PySem.W.set_plain X I hs (osa_exc (s := { s with toks := s.toks + 1 }) X I hp ht ?_)
    obtain ⟨cd, hc, hd'⟩ := PySem.W.any_some hd
    refine wpAny_bind (wpAny_pure (wpAny_bind (wpAny_bind (wpAny_loadPart hx (wpAny_bind (PySem.W.Looks.here (s := { s with toks := s.toks + 1 }) (PySem.W.looks_clsIn X hc) ?_))))))
    rw [hd']
    have hxs : x ≠ s.heap.objs.size := Nat.ne_of_lt (Heap.lt_size hx)
    have hx1 : (s.heap.push { cls := .type "dict", data := .dict #[] }).get? x = some ⟨.ref C, none, oda, osl⟩ := Heap.get?_push_of_some _ hx
    have body : wpAny (model prog w) A.in1 (do let d ← alloc { cls := .type "dict", data := .dict #[] }; update x fun o => { o with dict := some d }; dictMade (.ref C) x d)
        (fun r s' => ∃ d, r = some d ∧ d = s.heap.objs.size ∧ s' = { s with heap := (s.heap.push { cls := .type "dict", data := .dict #[] }).update x fun o => { o with dict := some d }, toks := s.toks + 1 }) (fun _ _ => False) { s with toks := s.toks + 1 } := by
      refine wpAny_bind (wpAny_alloc' (wpAny_bind (wpAny_update' hx1 ?_)))
      exact wpAny_bind (wpAny_pure (wpAny_pure ⟨_, rfl, rfl, rfl⟩))
    have nc : ∀ c, oda ≠ .cls c := fun c z => by
      subst z
      cases hn
    rw [if_neg (by decide)]
    dsimp only
    rw [if_neg (by simp [typeHasDict])]
    refine wpAny_mono (Q := fun r s' => ∃ d, r = some d ∧ d = s.heap.objs.size ∧ s' = { s with heap := (s.heap.push { cls := .type "dict", data := .dict #[] }).update x fun o => { o with dict := some d }, toks := s.toks + 1 }) (E := fun _ _ => False) ?_ (fun r s' hr => ?_) fun _ _ z => z.elim
    · refine Eq.mpr (congrArg (fun m => wpAny (model prog w) A.in1 m _ _ _) ?_) body
      clear k body
      cases oda <;> first | rfl | exact absurd rfl (nc _)
    obtain ⟨d, rfl, rfl, rfl⟩ := hr
    have hgd : ((s.heap.push { cls := .type "dict", data := .dict #[] }).update x fun o => { o with dict := some s.heap.objs.size }).get? s.heap.objs.size = some { cls := .type "dict", data := .dict #[] } := (Heap.get?_update_ne _ _ _ _ hxs.symm).trans (Heap.get?_push_at rfl rfl)
    have hnd : ((s.heap.push { cls := .type "dict", data := .dict #[] }).update x fun o => { o with dict := some s.heap.objs.size }).Ns s.heap.objs.size (fun _ => none) := ⟨_, #[], _, hgd, rfl, (fun e he => absurd he (by simp)), fun _ => rfl⟩
    show wpAny _ _ (storeInDict s.heap.objs.size (.str name _) name v) _ _ _
    unfold storeInDict newKeyGuard
    refine wpAny_bind (wpAny_pure (wpAny_bind (wpAny_nsSet1 (Heap.Ns1.of_empty hnd) fun h' hn' hs2 => ?_)))
    obtain ⟨oD, esD, epD, hoD, hdD, hcD⟩ := hn'.count (PySem.Within.cons name v PySem.Within.nil)
    refine wpAny_bind (wpAny_lookBehind hoD (by rw [hdD]; exact pastItsLine_dict (Nat.le_trans hcD (by rw [List.length_cons, List.length_nil, sizeLine_eq]; omega))) ?_)
    refine wpAny_pure (k h' s.heap.objs.size _ (Heap.get?_none_of_le (Nat.le_refl _)) rfl ?_ hn' fun b o hb q => ?_)
    · refine (hs2.2 x hxs).trans (Heap.get?_update_self _ hx1 ?_)
      have hfr := (Heap.get?_some_iff.mp hx).2
      cases oda <;> first | rfl | exact hfr
    · exact (hs2.2 b (Nat.ne_of_lt (Heap.lt_size q))).trans ((Heap.get?_update_ne _ _ _ _ hb).trans (Heap.get?_push_of_some _ q))
end
end Sv
namespace Sv
open PySem PySem.Spec PyProof.Rows L2
section
variable {prog : Program} {w : World} {A : Around} {E : Value → Shared → Prop} {K : PySem.W.Frag} {x D : Addr} {ox : Obj} {odo : Option Obj} {name : Str} {s : Shared}
theorem ga_val {v : Value} {tk : Tok} {Q : Fin → Shared → Prop} (X : K.In s.heap) (I : PySem.W.InstAt s.heap x ox D odo) (hf : PySem.W.findObj K D odo name = some (.value v)) (h : Q (.done (.ret v)) s) : wpAny (model prog w) A (Builtin.«object.__getattribute__» ⟨[.ref x, .str name tk], []⟩) Q E s := by
  obtain ⟨hh, gg, d, t, os⟩ := s
  have L0 := I.type (M := model prog w)
  have L1 := PySem.W.looks_find (M := model prog w) X I hf
  unfold Builtin.«object.__getattribute__»
  refine wpAny_bind (wpAny_pure (wpAny_bind (wpAny_pure (wpAny_bind (L0.at (wpAny_bind (L1.at ?_)))))))
  exact wpAny_pure h
theorem exc_attr {v : Value} {b : Bool} {Q : Value → Shared → Prop} (X : K.In s.heap) (I : PySem.W.InstAt s.heap x ox D odo) (Z : ExcI K D) (hf : PySem.W.findObj K D odo name = some (.value v)) (hv : PySem.W.handedIn v = true) (h : Q v { s with toks := s.toks + 1 }) : wpAny (model prog w) A (getAttr (.ref x) name b) Q E s := by
  obtain ⟨hh, g, d, t, os⟩ := s
  have L0 := I.type (M := model prog w)
  have L1 := PySem.W.looks_findIn (M := model prog w) X Z.hg
  have L2 := PySem.W.looks_findIn (M := model prog w) X Z.hgn
  unfold getAttr getAttrBy
  refine wpAny_bind (wpAny_mkText (wpAny_holding (wpAny_bind (L0.at (wpAny_bind (L1.at ?_))))))
  have hne : (onTheHeap (Value.ref D) && Value.builtin "BaseException.__getattribute__" == Value.builtin "object.__getattribute__") = false := by
    rw [show (Value.builtin "BaseException.__getattribute__" == Value.builtin "object.__getattribute__") = false by decide +kernel]
    rfl
  show wpAny _ _ (if (onTheHeap (Value.ref D) && Value.builtin "BaseException.__getattribute__" == Value.builtin "object.__getattribute__") = true then _ else getAttrByItsOwn _ _ _ _ _ _) _ _ _
  rw [hne, if_neg Bool.false_ne_true]
  unfold getAttrByItsOwn
  refine wpAny_bind (show wpAny _ _ (typeLookup (.ref D) "__getattr__") _ _ _ from L2.at (wpAny_bind (wpAny_attempt (wpAny_holding ?_))))
  unfold callGetattribute boundAndCalled
  rw [if_neg (by cases b <;> decide), ga_bind]
  refine wpAny_bind (wpAny_pure (show wpAny _ _ (call _ [.ref x, .str name t]) _ _ _ from ?_))
  refine wpAny_call (codeAny_call_builtin F.excAttr_ValueError.ga.plain F.entry_bexc_ga (ga_check X I Z.hb (ga_val X I hf ?_)))
  exact PySem.W.handed_on hv h
theorem exc_classD {Q : Option Value → Shared → Prop} (X : K.In s.heap) (I : PySem.W.InstAt s.heap x ox D odo) (Z : ExcI K D) (h : Q (some (.ref D)) { s with toks := s.toks + 1 }) : wpAny (model prog w) A (getAttr? (.ref x) "__class__") Q E s := by
  have hf : PySem.W.findObj K D odo "__class__" = some (.bind (.builtin "getset_descriptor.__get__") (.builtin "object.__class__")) := by
    obtain ⟨cd, hc, _⟩ := PySem.W.any_some Z.hd
    unfold PySem.W.findObj
    rw [hc, Option.bind_some, Z.ha, Option.bind_some]
    simp [Z.hn, Z.ht]
  obtain ⟨hh, g, d, t, os⟩ := s
  have L0 := I.type (M := model prog w)
  have L1 := PySem.W.looks_findIn (M := model prog w) X Z.hg
  have L2 := PySem.W.looks_findIn (M := model prog w) X Z.hgn
  unfold getAttr? getAttrBy? getAttrBy
  refine wpAny_bind (wpAny_mkText (wpAny_bind (wpAny_attempt (wpAny_holding (wpAny_bind (L0.at (wpAny_bind (L1.at ?_))))))))
  have hne : (onTheHeap (Value.ref D) && Value.builtin "BaseException.__getattribute__" == Value.builtin "object.__getattribute__") = false := by
    rw [show (Value.builtin "BaseException.__getattribute__" == Value.builtin "object.__getattribute__") = false by decide +kernel]
    rfl
  show wpAny _ _ (if (onTheHeap (Value.ref D) && Value.builtin "BaseException.__getattribute__" == Value.builtin "object.__getattribute__") = true then _ else getAttrByItsOwn _ _ _ _ _ _) _ _ _
  rw [hne, if_neg Bool.false_ne_true]
  unfold getAttrByItsOwn
  refine wpAny_bind (show wpAny _ _ (typeLookup (.ref D) "__getattr__") _ _ _ from L2.at (wpAny_bind (wpAny_attempt (wpAny_holding (show wpAny _ _ (boundAndCalled _ _ _) _ _ _ from ?_)))))
  unfold boundAndCalled
  rw [ga_bind]
  refine wpAny_bind (wpAny_pure (show wpAny _ _ (call _ [.ref x, .str "__class__" t]) _ _ _ from ?_))
  refine wpAny_call (codeAny_call_builtin F.excAttr_ValueError.ga.plain F.entry_bexc_ga (ga_check X I Z.hb (ga_body X I hf (wpAny_call ?_))))
  refine PySem.W.class_get (s := ⟨hh, g, d, t + 1, os⟩) (ox := ox) (od := odo) X I Z.hm ?_
  exact (show wpAny _ _ (handedOut (.ref D)) _ _ _ from PySem.W.handed_on rfl (wpAny_pure h))
end
theorem kitx_excD {K : PySem.W.Frag} {a D : Addr} {ox : Obj} {odo : Option Obj} (Z : ExcI K D) : PySem.W.KitX K (.ref a) (.ref D) (fun h => PySem.W.InstAt h a ox D odo) where
  ty := fun _ _ _ I => I.type
  it := fun _ _ kin _ => by
    obtain ⟨cd, hc, _⟩ := PySem.W.any_some Z.hd
    unfold PySem.W.clsIn at hc
    split at hc
    · rename_i _ _ _ _ ho
      intro _ _ _ _ kp q
      unfold isType loadHead
      exact wpAny_bind (wpAny_loadPart (kp _ _ (kin _ _ ho)) (wpAny_pure q))
    · cases hc
  ne := fun h tp _ _ _ _ kin htp => by
    obtain ⟨cd, hc, _⟩ := PySem.W.any_some Z.hd
    refine Bool.eq_false_iff.mpr fun q => ?_
    obtain rfl : D = tp := Value.ref.inj (beq_iff_eq.mp q)
    unfold PySem.W.clsIn at hc
    split at hc
    · rename_i _ _ _ _ ho
      have z := (kin _ _ ho).symm.trans htp
      cases z
    · cases hc
  ca := fun {prog w A E Q s} kin I q => exc_classD kin I Z q
def IsExc (H : Hp) (a C : Addr) (dd : Option Addr) : Prop := ∃ φ, H a = some (.ext φ) ∧ ∀ h, φ h → ∃ (vs : Array Value) (sl : Array (Option Value)), h.get? a = some ⟨.ref C, dd, .fields vs, sl⟩
theorem IsExc.of {H : Hp} {a C : Addr} {dd : Option Addr} (h : H a = some (excO a (.ref C) dd)) : IsExc H a C dd := ⟨_, h, fun _ z => z⟩
section
variable {X : Cx} {e : Expr} {ta : TE} {f : Str} {pos : Pos}
theorem IsExc.inst {pins : List (Addr × Obj)} {σ : L2.St} {H : Hp} {s : Shared} {a C d : Addr} {fs : List (Str × V)} (I : Inv X pins σ H s) (h : IsExc H a C (some d)) (hd : H d = some (.xd fs)) : ∃ (ox od : Obj) (mA : Str → Option Value), PySem.W.InstAt s.heap a ox C (some od) ∧ (∀ n, PySem.W.lookIn n od = some (mA n)) ∧ ∀ n, RelO (fs.lookup n) (mA n) := by
  obtain ⟨φ, ha, k⟩ := h
  obtain ⟨vs, sl, hx⟩ := k _ (show ObjOk X.prog X.w H s.heap a (.ext φ) from I.hok a _ ha).1
  obtain ⟨mA, ns, r⟩ := (show ObjOk X.prog X.w H s.heap d (.xd fs) from I.hok d _ hd)
  obtain ⟨od, ho, lk⟩ := lookIn_ns ns
  exact ⟨_, od, mA, ⟨hx, rfl, rfl, ho⟩, lk, r⟩
def FldE (K : PySem.W.Frag) (f : Str) (x : V) (H : Hp) (Q : VK) : Prop := ∃ a C d fs v, x = .ref a ∧ IsExc H a C (some d) ∧ H d = some (.xd fs) ∧ ExcI K C ∧ NoAttr K C f ∧ fs.lookup f = some v ∧ Q v H
def tFldE (K : PySem.W.Frag) (ta : TE) (f : Str) : TE := fun σ H Q => ta σ H fun x H1 => FldE K f x H1 Q
theorem pe_fldE (he : PE X e ta) (hb : attributeBase e f X.env (eval e X.env) = eval e X.env) : PE X (.Attribute e f pos) (tFldE X.K ta f) := by
  intro pins s σ H Q I h
  refine attr_of hb (thn (he pins s σ H _ I h) fun u s1 ⟨x, H1, I1, rx, a, C, d, fs, v, ex, ha, hd, Z, na, l, q⟩ => ?_)
  subst ex
  obtain rfl : u = Value.ref a := rx
  obtain ⟨ox, od, mA, J, lk, r⟩ := ha.inst I1 hd
  obtain ⟨u, hu, ru⟩ := RelO.some_of (v := v) (o := mA f) (by rw [← l]; exact r f)
  have hf : PySem.W.findObj X.K C (some od) f = some (.value u) := by
    obtain ⟨cd, hc, hdc⟩ := PySem.W.any_some Z.hd
    unfold PySem.W.findObj
    rw [hc, Option.bind_some, show PySem.W.findIn X.K (.ref C) f = some none from na, Option.bind_some]
    simp only [Option.bind_some, PySem.W.ownOf, hdc, if_true, lk, hu]
  exact exc_attr I1.kIn J Z hf (handed_of ru) ⟨v, H1, I1.tok _, ru, q⟩
def rIsiE (K : PySem.W.Frag) : List V → Hp → VK → Prop := fun xs H Q => ∃ (a C' : Addr) (dd : Option Addr) (c : V) (b : Bool), xs = [.ref a, c] ∧ ((∃ T, c = .ty T) ∨ ∃ C, c = .ref C) ∧ IsExc H a C' dd ∧ (∀ d, dd = some d → ∃ fs, H d = some (.xd fs)) ∧ ExcI K C' ∧ PySem.W.kitOne K (.ref C') (clsV c) = some b ∧ Q (.bl b) H
theorem call_isiE : CallR X (.builtin "isinstance") (rIsiE X.K) := by
  intro pins s σ H xs us Q I r h
  obtain ⟨a, C', dd, c, b, rfl, hc, ha, hd, Z, e, q⟩ := h
  obtain ⟨u, v, rfl, ru, rv⟩ := Vals.two r
  obtain rfl : u = Value.ref a := ru
  obtain rfl : v = clsV c := by
    rcases hc with ⟨T, rfl⟩ | ⟨C, rfl⟩
    · exact rv
    · exact rv
  cases dd with
  | none =>
    obtain ⟨φ, ha, k⟩ := ha
    obtain ⟨vs, sl, hx⟩ := k _ (show ObjOk X.prog X.w H s.heap a (.ext φ) from I.hok a _ ha).1
    exact PySem.W.kia_one (kitx_excD (ox := ⟨.ref C', none, .fields vs, sl⟩) (odo := none) Z) I.kIn ⟨hx, rfl, rfl, trivial⟩ e (fun z => nomatch z) fun tk => ⟨.bl b, H, I.tok tk, rfl, q⟩
  | some d =>
    obtain ⟨fs, hd⟩ := hd d rfl
    obtain ⟨ox, od, mA, J, _, _⟩ := ha.inst I hd
    exact PySem.W.kia_one (kitx_excD (ox := ox) (odo := some od) Z) I.kIn J e (fun z => nomatch z) fun tk => ⟨.bl b, H, I.tok tk, rfl, q⟩
end
end Sv
namespace Sv
open PySem PySem.Spec PyProof.Rows L2
section
variable {prog : Program} {w : World} {A : Around} {E : Value → Shared → Prop} {h : Heap} {g : Array GenState} {d : Drawn} {t : Nat} {os : OsState}
variable {nm q : Str} {C N : Addr} {bs bm bmB : List Value} {hdct : Bool} {sn : List Str} {sub : List Value} {ab : Bool} {col : Option Bool} {dd : Option Addr} {k0 k1 k2 k3 k5 : Option Value} {B newId nid initId : String}
theorem base_init (F : ExcBaseFacts B nid initId bmB) (T : OwnTail h bmB bm) {e : Addr} {dx : Option Addr} {vs : Array Value} {sl : Array (Option Value)} {m : Value} {Q : Value → Shared → Prop} (hC : h.get? C = some (excClassObj nm q C N bs bm hdct sn sub ab col dd k0 k1 k2 k3 k5 newId)) (he : h.get? e = some ⟨.ref C, dx, .fields vs, sl⟩) {t0 : Addr} (h0 : vs[0]? = some (.ref t0))
    (hq : ∀ h' a, h'.get? e = some ⟨.ref C, dx, .fields (vs.setIfInBounds 0 (.ref a)), sl⟩ → (∀ b o, b ≠ e → h.get? b = some o → h'.get? b = some o) → Q .none ⟨h', g, d, t, os⟩) : wpAny (model prog w) A (call (.builtin initId) [.ref e, m]) Q E ⟨h, g, d, t, os⟩ := by
  refine wpAny_call (codeAny_call_builtin F.init.plain F.initEntry (wpAny_check_init_subU F T hC he rfl ?_))
  have hz : 0 < vs.size := (Array.getElem?_eq_some_iff.mp h0).1
  have he1 : (h.push { cls := .type "tuple", data := .seq #[m] }).get? e = some ⟨.ref C, dx, .fields vs, sl⟩ := Heap.get?_push_of_some _ he
  unfold Builtin.«BaseException.__init__»
  wp_walk
  rw [h0]
  refine wpAny_pure (wpAny_bind (wpAny_setField he1 rfl hz (wpAny_letGo (wpAny_pure ?_))))
  refine hq _ h.objs.size ?_ fun b o hb q => ?_
  · rw [Heap.get?_update_self _ he1 rfl]
    rfl
  · rw [Heap.get?_update_ne _ _ _ _ hb]
    exact Heap.get?_push_of_some _ q
end
def exN (a C : Addr) (dd : Option Addr) : HO := .ext fun h => ∃ (vs : Array Value) (sl : Array (Option Value)) (t0 : Addr), h.get? a = some ⟨.ref C, dd, .fields vs, sl⟩ ∧ vs[0]? = some (.ref t0) ∧ vs[1]? = some .none ∧ vs[2]? = some .none ∧ 4 < vs.size
theorem exN_ok {P : Program} {w : World} {H : Hp} {h : Heap} {a C : Addr} {dd : Option Addr} {vs : Array Value} {sl : Array (Option Value)} {t0 : Addr} (e : h.get? a = some ⟨.ref C, dd, .fields vs, sl⟩) (h0 : vs[0]? = some (.ref t0)) (h1 : vs[1]? = some .none ∧ vs[2]? = some .none ∧ 4 < vs.size) : ObjOk P w H h a (exN a C dd) :=
  ⟨⟨vs, sl, t0, e, h0, h1⟩, ⟨_, e⟩, fun _ _ ⟨vs', sl', t', q, r⟩ k => ⟨vs', sl', t', k _ q, r⟩⟩
structure ExcS (K : PySem.W.Frag) (C : Addr) : Prop where
  ov : overVE K C = true
  hd : PySem.W.hasDictIn K C = true
  sa : PySem.W.findIn K (.ref C) "__setattr__" = some (some (.builtin "object.__setattr__"))
section
variable {X : Cx} {o value : Expr} {f : Str} {ta tv : TE} {pos pos' : Pos}
def SFldX (K : PySem.W.Frag) (f : Str) (y x : V) (H : Hp) (R : Hp → Prop) : Prop := ∃ a C, x = .ref a ∧ H a = some (exN a C none) ∧ ExcS K C ∧ NoAttr K C f ∧ ∀ d, H d = none → R (upd (upd H d (.xd [(f, y)])) a (exN a C (some d)))
def sFldX (K : PySem.W.Frag) (ta tv : TE) (f : Str) : TS := fun D σ H => tv σ H fun y H1 => ta σ H1 fun x H2 => SFldX K f y x H2 fun H' => D.nx σ H'
theorem ps_fldX (ha : PE X o ta) (hv : PE X value tv) (hs : swapsWith value (some (.Attribute o f pos')) pos.line X.env = pure false) : PS X (.Assign [.Attribute o f pos'] value pos) (sFldX X.K ta tv f) := by
  intro pins s σ H D I h
  refine plainObj_wpAny_Assign_Attribute (thn (hv pins s σ H _ I h) fun u s1 ⟨y, H1, I1, ry, q⟩ => thn (ha pins s1 σ H1 _ I1 q) fun ov s2 ⟨x, H2, I2, rx, a, C, ex, ea, S, na, q2⟩ => ?_) hs
  subst ex
  obtain rfl : ov = Value.ref a := rx
  obtain ⟨⟨vs, sl, t0, hx, h0, h1⟩, _, _⟩ := (show ObjOk X.prog X.w H2 s2.heap a (exN a C none) from I2.hok a _ ea)
  refine store_new (ox := ⟨.ref C, none, .fields vs, sl⟩) I2.kIn ⟨hx, rfl, rfl, trivial⟩ S.ov S.hd na S.sa fun h' d tk hd ed hx' ns kk => ?_
  subst ed
  obtain ⟨od, es, ep, hod, rest⟩ := id ns
  have nd : H2 s2.heap.objs.size = none := I2.fresh
  have ne : a ≠ s2.heap.objs.size := Nat.ne_of_lt (Heap.lt_size hx)
  have hfd : od.isFreed = false := (Heap.get?_some_iff.mp hod).2
  have gd : (s2.heap.push od).get? s2.heap.objs.size = some od := Heap.get?_push_size _ hfd
  have I3 : Inv X pins σ (upd H2 s2.heap.objs.size (.xd [(f, y)])) { s2 with heap := s2.heap.push od, toks := tk } := I2.laid (fun b ob q => Heap.get?_push_of_some _ q) (Nat.le_refl _) ⟨_, ⟨od, es, ep, gd, rest⟩, fun n => by
    by_cases z : n = f
    · subst z
      rw [List.lookup_cons, beq_self_eq_true, if_pos rfl]
      exact ry
    · rw [List.lookup_cons, beq_eq_false_iff_ne.mpr z, if_neg z]
      exact trivial⟩
  refine ⟨σ, _, ?_, q2 _ nd⟩
  refine Inv.write (s := { s2 with heap := s2.heap.push od, toks := tk }) (t' := tk) (x := a) (e := a) I3 (by rw [upd_ne ne, ea]; exact trivial) (.inl rfl) (fun b u hb q => ?_) ⟨_, hx'⟩ (exN_ok hx' h0 h1)
  replace q : (s2.heap.push od).get? b = some u := q
  by_cases z : b = s2.heap.objs.size
  · subst z
    rw [gd] at q
    cases q
    exact hod
  · rw [Heap.get?_push_ne _ _ _ z] at q
    exact kk b u hb q
end
end Sv
namespace Sv
open PySem PySem.Spec PyProof.Rows L2
theorem upd_id {H : Hp} {a : Addr} {o : HO} (h : H a = some o) : upd H a o = H := funext fun b => by
  by_cases z : b = a
  · subst z
    rw [upd_same, h]
  · rw [upd_ne z]
def bmVE : List Value := [.type "ValueError", .type "Exception", .type "BaseException", .type "object"]
structure ExcK (K : PySem.W.Frag) (C N : Addr) : Prop where
  ex : ∃ (nm q : Str) (bs bm : List Value) (hdct : Bool) (sn : List Str) (sub : List Value) (ab : Bool) (col : Option Bool) (dd : Option Addr) (k0 k1 k2 k3 k5 : Option Value), K.lookup C = some (excClassObj nm q C N bs bm hdct sn sub ab col dd k0 k1 k2 k3 k5 "ValueError.__new__") ∧ PySem.W.tailIn K bmVE bm = true
structure ExcB (K : PySem.W.Frag) (C0 : Addr) : Prop where
  ga : PySem.W.specialIn K (.ref C0) "__getattribute__" = some (some (.builtin "type.__getattribute__"))
  rd : PySem.W.readsIn K C0 (.type "type") = true
  at_ : PySem.W.findCls K (.ref C0) (.type "type") "__init__" = some (.val (.builtin "ValueError.__init__"))
def XInit (K : PySem.W.Frag) (xs : List V) (H : Hp) (Q : VK) : Prop := ∃ a C N dd m, xs = [.ref a, m] ∧ H a = some (exN a C dd) ∧ ExcK K C N ∧ Q .non H
def tXInit (K : PySem.W.Frag) (t : TA) : TE := fun σ H Q => t σ H fun xs H1 => XInit K xs H1 Q
section
variable {X : Cx} {C0 : Addr} {pos apos : Pos} {e o : Expr} {es : List Expr} {t : TA} {pl : Sem Bool}
theorem pe_xinit (he : PE X o (tC (.ref C0))) (B : ExcB X.K C0) (ha : PA X (e :: es) t) (hst : starEach (e :: es) X.env = (false, eval e X.env) :: starEach es X.env := by rfl) (hpl : (backTo pos (starEach es X.env)).any (·.1) = false := by rfl)
    (ht : eval (.Call (.Attribute o "__init__" apos) (e :: es) [] pos) X.env = (do
      let ov ← eval o X.env
      standAt apos.atName
      let (f, first) ← holding [ov] (getMethod ov "__init__" pl)
      callWith pos f first (backTo pos (starEach (e :: es) X.env)) (backToKw pos (keywordEach [] X.env))) := by rfl) : PE X (.Call (.Attribute o "__init__" apos) (e :: es) [] pos) (tXInit X.K t) := by
  intro pins s σ H Q I h
  refine PySem.W.methodCall_KW (pl := pl) (thn (he pins s σ H (fun x H1 => x = .ref C0 ∧ H1 = H) I ⟨rfl, rfl⟩) fun u s1 ⟨x, H1, I1, rx, ex, eH⟩ => ?_) ht
  subst ex eH
  obtain rfl : u = Value.ref C0 := rx
  refine PySem.W.method_cls I1.kIn B.ga (PySem.W.cls_value I1.kIn B.rd B.at_ rfl ?_)
  have I2 := I1.tok (s1.toks + 1)
  refine PyProof.Rows.callWith_builtin1 (thn (ha pos pins _ σ H1 _ I2 h) fun us s2 ⟨vs, H2, I3, r, q⟩ => ?_) hst hpl
  obtain ⟨a, C, N, dd, m, rfl, hx, Kc, q⟩ := q
  obtain ⟨u, v, rfl, ru, rv⟩ := Vals.two r
  obtain rfl : u = Value.ref a := ru
  obtain ⟨nm, q', bs, bm, hdct, sn, sub, ab, col, dd', k0, k1, k2, k3, k5, lk, tl⟩ := Kc.ex
  obtain ⟨⟨vs, sl, t0, hr, h0, h1⟩, _, _⟩ := (show ObjOk X.prog X.w H2 s2.heap a (exN a C dd) from I3.hok a _ hx)
  obtain ⟨hp, g, d, tk, os⟩ := s2
  refine base_init PySem.F.excBase_ValueError (PySem.W.tail_of_in I3.kIn tl) (I3.kIn _ _ lk) hr h0 fun h' b hb kk => ?_
  have I4 : Inv X pins σ (upd H2 a (exN a C dd)) ⟨h', g, d, tk, os⟩ := Inv.write (s := ⟨hp, g, d, tk, os⟩) (t' := tk) (x := a) (e := a) I3 (by rw [hx]; exact trivial) (.inl rfl) (fun b u hb q => kk b u hb q) ⟨_, hb⟩ (exN_ok (t0 := b) hb (by
    have : 0 < vs.size := (Array.getElem?_eq_some_iff.mp h0).1
    simp [this]) ⟨by rw [Array.getElem?_setIfInBounds_ne (by decide)]; exact h1.1, by rw [Array.getElem?_setIfInBounds_ne (by decide)]; exact h1.2.1, by rw [Array.size_setIfInBounds]; exact h1.2.2⟩)
  rw [upd_id hx] at I4
  exact ⟨.non, H2, I4, rfl, q⟩
end
def del (H : Hp) (a : Addr) : Hp := fun b => if b = a then none else H b
theorem del_ne {H : Hp} {a b : Addr} (h : b ≠ a) : del H a b = H b := if_neg h
theorem del_same {H : Hp} {a : Addr} : del H a a = none := if_pos rfl
theorem _root_.L2.Inv.del {X : Cx} {pins : List (Addr × Obj)} {σ : L2.St} {H : Hp} {s : Shared} {a : Addr} {φ : Heap → Prop} (I : Inv X pins σ H s) (h : H a = some (.ext φ)) : Inv X pins σ (Sv.del H a) s := by
  have ne : ∀ b u, H b = some u → (∀ ψ, u ≠ .ext ψ) → b ≠ a := fun b u e n z => by
    rw [z, h] at e
    exact n φ (Option.some.inj e).symm
  have dn : ∀ b, H b = none → Sv.del H a b = none := fun b e => by
    by_cases z : b = a
    · rw [z]
      exact del_same
    · rw [del_ne z]
      exact e
  refine ⟨I.ok, I.os, I.bare, ⟨I.base.keep, I.base.slot, fun b o e n hx => dn b (I.base.free b o e n hx), I.base.there, fun b xs e => ?_, fun b o u e => ?_, fun b ps e => ?_⟩, I.loc, I.cell, dn _ I.free, fun x c e => dn _ (I.freeC x c e), fun p hp => ?_, fun b u e => ?_, I.len⟩
  · have q := I.base.tups b xs e
    rw [del_ne (ne b _ q fun _ z => by cases z)]
    exact q
  · have q := I.base.frzs b o u e
    rw [del_ne (ne b _ q fun _ z => by cases z)]
    exact q
  · obtain ⟨more, q⟩ := I.base.tbls b ps e
    exact ⟨more, by rw [del_ne (ne b _ q fun _ z => by cases z)]; exact q⟩
  · obtain ⟨e, n, r⟩ := I.pin p hp
    exact ⟨e, dn _ n, r⟩
  · have hb : b ≠ a := fun z => by
      rw [z, del_same] at e
      cases e
    rw [del_ne hb] at e
    exact (I.hok b u e).stay (fun _ _ _ q => q) (fun c q => by rw [del_ne (ne c _ q fun _ z => by cases z)]; exact q) fun c xs q => by rw [del_ne (ne c _ q fun _ z => by cases z)]; exact q
structure ExcCI (K : PySem.W.Frag) (mg : Str → Option Value) (x : Str) (C N fI : Addr) : Prop where
  mg : mg x = some (.ref C)
  k : ExcK K C N
  ns : PySem.W.nsOkIn K N = true
  ini : PySem.W.nsIn K N "__init__" = some (some (.ref fI))
  fn : ∃ oI, K.lookup fI = some oI ∧ oI.cls = .type "function"
theorem ns_some {K : PySem.W.Frag} {h : Heap} {N : Addr} {mN : Str → Option Value} {n : Str} {v : Value} (X : K.In h) (G : h.Ns N mN) (e : PySem.W.nsIn K N n = some (some v)) : mN n = some v := by
  obtain ⟨o, es, ep, ho, hd, _, hf⟩ := G
  unfold PySem.W.nsIn at e
  split at e
  · rename_i c d es' n' sl q
    have z := X _ _ q
    rw [ho] at z
    cases z
    cases hd
    split at e
    · rename_i he
      rw [← hf]
      unfold nsFind findBy
      rw [← Array.find?_toList, he]
      cases e
      rfl
    · split at e
      · cases e
      · cases e
  · cases e
def tRaiseI (C : Addr) (sp : Sp) (E : XK) (t : TA) : TS := fun _ σ H => t σ H fun vs H1 => vs.length ≤ sizeLine ∧ ∀ a, H1 a = none → sp (.ref a :: vs) (upd H1 a (exN a C none)) (fun v H2 => v = .non ∧ ∃ dd, H2 a = some (exN a C dd) ∧ (∀ d, dd = some d → d ≠ a ∧ ∃ fs, H2 d = some (.xd fs)) ∧ E (.ref C) dd (del H2 a)) E0
theorem ps_raiseI {X : Cx} {E : XK} {x : Str} {C N fI : Addr} {k : Nat} {fd : FuncData} {ps : List Str} {sp : Sp} {np cpos pos : Pos} {e : Expr} {es : List Expr} {t : TA} (hX : XeOut X E) (O : ExcCI X.K X.mg x C N fI) (G : FnOk X.prog X.w X.K X.mg X.base CX0 k fI fd ps sp) (hr : Room (k + 1) X.A) (hb : Binds X.K fd ps []) (hc : X.calm = true) (hg : Gl X x) (ha : PA X (e :: es) t) (hdb : (x == ("__debug__" : Str)) = false := by decide)
    (he : starEach (e :: es) X.env = (false, eval e X.env) :: starEach es X.env := by rfl) (hpl : (backTo cpos (starEach es X.env)).any (·.1) = false := by rfl) : PS X (.Raise (some (.Call (.Name x np) (e :: es) [] cpos)) none pos) (tRaiseI C sp E t) := by
  intro pins s σ H D I h
  obtain ⟨nm, q', bs, bm, hdct, sn, sub, ab, col, dd', k0, k1, k2, k3, k5, lk, tl⟩ := O.k.ex
  obtain ⟨oI, lf, hfc⟩ := O.fn
  have kin := I.ok.mod.kin
  have T := PySem.W.tail_of_in kin tl
  have hN : X.base.Ns N (X.base.nsMap N) := .of_isNs (PySem.W.isNs_of_in kin O.ns)
  have hi : X.base.nsMap N "__init__" = some (.ref fI) := ns_some kin hN O.ini
  refine raise_callI (C := C) (nm := nm) (q := q') (N := N) (bs := bs) (bm := bm) (hdct := hdct) (sn := sn) (sub := sub) (ab := ab) (col := col) (dd := dd') (k0 := k0) (k1 := k1) (k2 := k2) (k3 := k3) (k5 := k5) PySem.F.excBase_ValueError (mN := X.base.nsMap N) (oI := oI)
    (T.hasType (show bmVE.contains (.type "BaseException") = true by decide +kernel)) (I.ok.hd hc) (by rw [he]; show (false || (backTo cpos (starEach es X.env)).any (·.1)) = false; rw [hpl]; rfl) hi hfc (ld_glob I hg O.mg ⟨rfl, ?_⟩ hdb)
  have a := ha cpos pins s σ H _ I h
  rw [he] at a ⊢
  refine Calls.evalArgs_plain (wpAny_mono a (fun us s2 ⟨vs, H2, I2, r, hz, q2⟩ => ?_) fun _ _ y => y)
  refine ⟨rfl, by rw [← r.length]; exact hz, I2.kIn _ _ lk, hN.keeps I2.bk, PySem.W.tail_of_in I2.kIn tl, I2.kIn _ _ lf, fun h' e hm le => ?_⟩
  obtain ⟨t0, ht0, _, _⟩ := hm.there
  have hfree : H2 e = none := I2.hok.fresh le
  have I3 : Inv X pins σ (upd H2 e (exN e C none)) { s2 with heap := h', toks := s2.toks } := I2.laid hm.keeps le (exN_ok ht0 rfl ⟨rfl, rfl, show 4 < 6 by decide⟩)
  have hq := q2 e hfree
  have r2 : Vals (V.ref e :: vs) (Value.ref e :: us) := .cons rfl r
  have hl : (Value.ref e :: us ++ []).length = ps.length := by
    have e1 := r2.length
    rw [G.len _ _ _ _ hq] at e1
    rw [List.append_nil]
    exact e1.symm
  have bd := hb { s2 with heap := h', toks := s2.toks } (Value.ref e :: us) I3.kIn hl
  rw [List.append_nil] at bd
  refine wpAny_call (codeAny_mono (G.run _ X.stack _ _ ⟨Value.ref e :: us, []⟩ (Value.ref e :: us) _ _ E0 (hr.make C us []) (I3.env0.make C us []) bd r2 hq) fun r' s' hq' => ?_)
  cases r' with
  | error y => exact False.elim hq'
  | ok fl =>
    cases fl with
    | ret u =>
      obtain ⟨v, H4, I4, rv, ev, dd, h4, hd, hE⟩ := I3.after hq'
      subst ev
      obtain ⟨⟨vs', sl', t', hr', h0', h1'⟩, _, _⟩ := (show ObjOk X.prog X.w H4 s'.heap e (exN e C dd) from I4.hok e _ h4)
      refine ⟨rv, I4.kIn _ _ lk, ⟨dd, vs', sl', hr', h1'.1⟩, ?_⟩
      refine leave_made hX (I4.del h4) ⟨sl', vs', hr', h1'.1, .no h1'.2.1⟩ ?_ del_same (fun d z => ?_) hE
      · cases q : X.s₀.heap.get? e with
        | none => rfl
        | some u =>
          obtain ⟨ob, ho⟩ := I2.base.there e u q (by rw [hX.ex]; simp)
          rw [hm.new] at ho
          cases ho
      · obtain ⟨ne, fs, hf⟩ := hd d z
        exact ⟨fs, by rw [del_ne ne]; exact hf⟩
    | next => exact False.elim hq'
    | brk => exact False.elim hq'
    | cont => exact False.elim hq'
end Sv
namespace L2
open PySem PySem.Spec PyProof.Rows
section
variable {κ : Type} [DecidableEq κ]
def valV (kvs : List (κ × V)) (k : κ) : Option V := (kvs.find? fun kv => decide (kv.1 = k)).map (·.2)
def putK (kvs : List (κ × V)) (k : κ) (v : V) : List (κ × V) :=
  if (kvs.any fun kv => decide (kv.1 = k)) = true then kvs.map (fun kv => if kv.1 = k then (kv.1, v) else kv) else kvs ++ [(k, v)]
def dropK (kvs : List (κ × V)) (k : κ) : List (κ × V) := kvs.filter fun kv => decide (kv.1 ≠ k)
theorem valV_pos {p : κ × V} {r : List (κ × V)} {k : κ} (e : p.1 = k) : valV (p :: r) k = some p.2 := by simp [valV, List.find?_cons, e]
theorem valV_neg {p : κ × V} {r : List (κ × V)} {k : κ} (e : ¬ p.1 = k) : valV (p :: r) k = valV r k := by simp [valV, List.find?_cons, e]
theorem valV_any (k : κ) : ∀ kvs : List (κ × V), (kvs.any fun kv => decide (kv.1 = k)) = (valV kvs k).isSome
  | [] => rfl
  | p :: r => by
    rw [List.any_cons]
    by_cases e : p.1 = k
    · simp only [valV_pos e, decide_eq_true e, Bool.true_or, Option.isSome_some]
    · rw [valV_neg e, decide_eq_false e, Bool.false_or]; exact valV_any k r
theorem length_putK (kvs : List (κ × V)) (k : κ) (v : V) : (putK kvs k v).length ≤ kvs.length + 1 := by
  unfold putK
  split
  · rw [List.length_map]; omega
  · rw [List.length_append, List.length_cons, List.length_nil]; omega
theorem RelO.isSome_eq {o : Option V} {u : Option Value} (r : RelO o u) : o.isSome = u.isSome := by
  cases o with
  | none => cases u with
    | none => rfl
    | some _ => exact (show False from r).elim
  | some _ => cases u with
    | none => exact (show False from r).elim
    | some _ => rfl
theorem RelO.getD {o : Option V} {u : Option Value} {d : V} {d' : Value} (r : RelO o u) (rd : RelV d d') : RelV (o.getD d) (u.getD d') := by
  cases o with
  | none => cases u with
    | none => exact rd
    | some _ => exact (show False from r).elim
  | some _ => cases u with
    | none => exact (show False from r).elim
    | some _ => exact r
theorem KV.val {kvs : List (κ × V)} {vs : List (κ × Value)} (r : KV kvs vs) (k : κ) : RelO (valV kvs k) (valueAt vs k) := by
  unfold KV at r
  induction r with
  | nil => exact True.intro
  | @cons p q ps qs h t ih =>
    obtain ⟨h1, h2⟩ := h
    by_cases e : p.1 = k
    · have e' : q.1 = k := h1.symm.trans e
      have b : valueAt (q :: qs) k = some q.2 := by simp [valueAt, List.find?_cons, e']
      rw [valV_pos e, b]; exact h2
    · have e' : ¬ q.1 = k := fun z => e (h1.trans z)
      have b : valueAt (q :: qs) k = valueAt qs k := by simp [valueAt, List.find?_cons, e']
      rw [valV_neg e, b]; exact ih
theorem KV.any {kvs : List (κ × V)} {vs : List (κ × Value)} (r : KV kvs vs) (k : κ) : (kvs.any fun kv => decide (kv.1 = k)) = vs.any fun kv => decide (kv.1 = k) := by
  unfold KV at r
  induction r with
  | nil => rfl
  | cons h t ih => rw [List.any_cons, List.any_cons, ih, h.1]
theorem KV.repl {kvs : List (κ × V)} {vs : List (κ × Value)} (r : KV kvs vs) (k : κ) {y : V} {u : Value} (ry : RelV y u) :
    KV (kvs.map fun kv => if kv.1 = k then (kv.1, y) else kv) (vs.map fun kv => if kv.1 = k then (kv.1, u) else kv) := by
  unfold KV at r ⊢
  induction r with
  | nil => exact .nil
  | @cons p q ps qs h t ih =>
    rw [List.map_cons, List.map_cons]
    refine .cons ?_ ih
    obtain ⟨h1, h2⟩ := h
    by_cases e : p.1 = k
    · rw [if_pos e, if_pos (h1.symm.trans e)]; exact ⟨h1, ry⟩
    · rw [if_neg e, if_neg (fun z => e (h1.trans z))]; exact ⟨h1, h2⟩
theorem KV.put {kvs : List (κ × V)} {vs : List (κ × Value)} (r : KV kvs vs) (k : κ) {y : V} {u : Value} (ry : RelV y u) : KV (putK kvs k y) (stored vs k u) := by
  unfold putK stored
  rw [r.any k]
  by_cases e : (vs.any fun kv => decide (kv.1 = k)) = true
  · rw [if_pos e, if_pos e]; exact r.repl k ry
  · rw [if_neg e, if_neg e]; exact Paired.snoc r ⟨rfl, ry⟩
theorem KV.drop {kvs : List (κ × V)} {vs : List (κ × Value)} (r : KV kvs vs) (k : κ) : KV (dropK kvs k) (without vs k) := by
  unfold KV at r ⊢
  unfold dropK without
  induction r with
  | nil => exact .nil
  | @cons p q ps qs h t ih =>
    obtain ⟨h1, h2⟩ := h
    rw [List.filter_cons, List.filter_cons]
    by_cases e : p.1 = k
    · have a : ¬ decide (p.1 ≠ k) = true := by simp [e]
      have b : ¬ decide (q.1 ≠ k) = true := by simp [h1.symm.trans e]
      rw [if_neg a, if_neg b]; exact ih
    · have e' : ¬ q.1 = k := fun z => e (h1.trans z)
      have a : decide (p.1 ≠ k) = true := by simp [e]
      have b : decide (q.1 ≠ k) = true := by simp [e']
      rw [if_pos a, if_pos b]; exact .cons ⟨h1, h2⟩ ih
theorem KV.keys {kvs : List (κ × V)} {vs : List (κ × Value)} (r : KV kvs vs) : kvs.map (·.1) = vs.map (·.1) := by
  unfold KV at r
  induction r with
  | nil => rfl
  | cons h t ih => rw [List.map_cons, List.map_cons, ih, h.1]
theorem KV.length {kvs : List (κ × V)} {vs : List (κ × Value)} (r : KV kvs vs) : kvs.length = vs.length := Paired.length r
end
theorem kV_is {P : Program} {w : World} {k : Key} {u : Value} (r : RelV (kV k) u) : (mixKind P w).is k u = true := by
  cases k with
  | inl i => obtain ⟨t, e⟩ := (show ∃ t, u = Value.int i t from r); subst e; exact mixKind_int P w i t
  | inr x => obtain ⟨t, e⟩ := (show ∃ t, u = Value.str x t from r); subst e; exact mixKind_str P w x t
theorem items_are {P : Program} {w : World} : ∀ {ks : List Key} {us : List Value}, Vals (ks.map kV) us → ItemsAre (mixKind P w) ks us
  | [], _, r => by rw [List.map_nil] at r; cases r; exact .nil
  | k :: ks, _, r => by
    rw [List.map_cons] at r
    cases r with
    | cons h t => exact .cons (kV_is h) (items_are t)
abbrev KT (H : Hp) : List (List Key × V) → List (List Key × Addr × Value) → Prop := Paired fun p q => p.1 = q.1 ∧ H q.2.1 = some (.tup (p.1.map kV)) ∧ RelV p.2 q.2.2
theorem KT.val {H : Hp} {kvs : List (List Key × V)} {xs : List (List Key × Addr × Value)} (r : KT H kvs xs) (k : List Key) : RelO (valV kvs k) ((atKey xs k).map (·.2)) := by
  induction r with
  | nil => exact True.intro
  | @cons p q ps qs h t ih =>
    obtain ⟨h1, _, h2⟩ := h
    by_cases e : p.1 = k
    · have e' : q.1 = k := h1.symm.trans e
      have b : atKey (q :: qs) k = some q.2 := by simp [atKey, List.find?_cons, e']
      rw [valV_pos e, b]; exact h2
    · have e' : ¬ q.1 = k := fun z => e (h1.trans z)
      have b : atKey (q :: qs) k = atKey qs k := by simp [atKey, List.find?_cons, e']
      rw [valV_neg e, b]; exact ih
theorem KT.repl {H : Hp} {kvs : List (List Key × V)} {xs : List (List Key × Addr × Value)} (r : KT H kvs xs) (k : List Key) {y : V} {u : Value} (ry : RelV y u) :
    KT H (kvs.map fun kv => if kv.1 = k then (kv.1, y) else kv) (xs.map (putAt k u)) := by
  induction r with
  | nil => exact .nil
  | @cons p q ps qs h t ih =>
    rw [List.map_cons, List.map_cons]
    refine .cons ?_ ih
    obtain ⟨h1, h2, h3⟩ := h
    unfold putAt
    by_cases e : p.1 = k
    · rw [if_pos e, if_pos (h1.symm.trans e)]; exact ⟨h1, h2, ry⟩
    · rw [if_neg e, if_neg (fun z => e (h1.trans z))]; exact ⟨h1, h2, h3⟩
theorem KT.put {H : Hp} {kvs : List (List Key × V)} {xs : List (List Key × Addr × Value)} (r : KT H kvs xs) (k : List Key) {b : Addr} {y : V} {u : Value} (hb : H b = some (.tup (k.map kV))) (ry : RelV y u) :
    KT H (putK kvs k y) (storedH xs k b u) := by
  have e : (kvs.any fun kv => decide (kv.1 = k)) = (atKey xs k).isSome := by
    rw [valV_any, (r.val k).isSome_eq, Option.isSome_map]
  unfold putK storedH
  rw [e]
  by_cases q : (atKey xs k).isSome = true
  · rw [if_pos q, if_pos q]; exact r.repl k ry
  · rw [if_neg q, if_neg q]; exact Paired.snoc r ⟨rfl, hb, ry⟩
theorem KT.keeps {H H' : Hp} {kvs : List (List Key × V)} {xs : List (List Key × Addr × Value)} (r : KT H kvs xs) (ht : ∀ b ys, H b = some (.tup ys) → H' b = some (.tup ys)) : KT H' kvs xs :=
  Paired.mapP r fun _ _ z => ⟨z.1, ht _ _ z.2.1, z.2.2⟩
section
variable {P : Program} {w : World} {H : Hp} {h : Heap} {a : Addr}
theorem rd_of {u : HO} (ok : HOk P w H h) (e : Rd H a u) : ObjOk P w H h a u := e.ok ok
theorem dk_rd {kvs : List (Key × V)} (ok : HOk P w H h) (e : Rd H a (.dK kvs)) : kvs.length ≤ sizeLine ∧ (a == sysModules) = false ∧ ∃ vs, KV kvs vs ∧ h.DictOf (mixKind P w) a vs :=
  show ObjOk P w H h a (.dK kvs) from rd_of ok e
theorem dk_of {kvs : List (Key × V)} (ok : HOk P w H h) (e : H a = some (.dK kvs)) : kvs.length ≤ sizeLine ∧ (a == sysModules) = false ∧ ∃ vs, KV kvs vs ∧ h.DictOf (mixKind P w) a vs := dk_rd ok (.inl e)
theorem key_of {ks : List Key} (ok : HOk P w H h) (e : H a = some (.tup (ks.map kV))) : (tupleKind (mixKind P w)).is h ks a := by
  obtain ⟨_, its, r, o, h1, h2, n, h3⟩ := (show ObjOk P w H h a (.tup (ks.map kV)) from ok a _ e)
  exact ⟨o, its.toArray, n, h1, h2, h3, by simpa using items_are r⟩
theorem dt_rd {kvs : List (List Key × V)} (ok : HOk P w H h) (e : Rd H a (.dT kvs)) : kvs.length ≤ sizeLine ∧ (a == sysModules) = false ∧
    ∃ xs, KT H kvs xs ∧ h.DictOfH (tupleKind (mixKind P w)) a xs := by
  obtain ⟨z, y, xs, r, o, es, ep, h1, h2, h3, h4, h5⟩ := (show ObjOk P w H h a (.dT kvs) from rd_of ok e)
  refine ⟨z, y, xs, r, o, es, ep, h1, h2, h3, h4, fun x hx => ?_, h5⟩
  have all : ∀ {l : List (List Key × V)} {m : List (List Key × Addr × Value)}, KT H l m → ∀ x ∈ m, (tupleKind (mixKind P w)).is h x.1 x.2.1 := by
    intro l m q
    induction q with
    | nil => intro x hx; exact nomatch hx
    | @cons p q ps qs hq t ih =>
      intro x hx
      rcases List.mem_cons.mp hx with e | hx
      · subst e
        exact key_of ok (by rw [← hq.1]; exact hq.2.1)
      · exact ih x hx
  exact all r x hx
theorem dt_of {kvs : List (List Key × V)} (ok : HOk P w H h) (e : H a = some (.dT kvs)) : kvs.length ≤ sizeLine ∧ (a == sysModules) = false ∧
    ∃ xs, KT H kvs xs ∧ h.DictOfH (tupleKind (mixKind P w)) a xs := dt_rd ok (.inl e)
end
def DGet (H : Hp) (a : Addr) (y : V) (r : Option V) : Prop :=
  (∃ kvs k, Rd H a (.dK kvs) ∧ y = kV k ∧ r = valV kvs k) ∨ ∃ kvs k b, Rd H a (.dT kvs) ∧ y = .ref b ∧ H b = some (.tup (k.map kV)) ∧ r = valV kvs k
def DPut (H : Hp) (a : Addr) (y v : V) (H' : Hp) : Prop :=
  (∃ kvs k, H a = some (.dK kvs) ∧ y = kV k ∧ kvs.length < sizeLine ∧ H' = upd H a (.dK (putK kvs k v))) ∨
  ∃ kvs k b, H a = some (.dT kvs) ∧ y = .ref b ∧ H b = some (.tup (k.map kV)) ∧ kvs.length < sizeLine ∧ H' = upd H a (.dT (putK kvs k v))
theorem DGet.k {H : Hp} {a : Addr} {kvs : List (Key × V)} {k : Key} (e : H a = some (.dK kvs)) : DGet H a (kV k) (valV kvs k) := .inl ⟨kvs, k, .inl e, rfl, rfl⟩
theorem DGet.t {H : Hp} {a b : Addr} {kvs : List (List Key × V)} {k : List Key} (e : H a = some (.dT kvs)) (eb : H b = some (.tup (k.map kV))) : DGet H a (.ref b) (valV kvs k) := .inr ⟨kvs, k, b, .inl e, rfl, eb, rfl⟩
theorem DPut.k {H : Hp} {a : Addr} {kvs : List (Key × V)} {k : Key} {v : V} (e : H a = some (.dK kvs)) (hl : kvs.length < sizeLine) : DPut H a (kV k) v (upd H a (.dK (putK kvs k v))) := .inl ⟨kvs, k, e, rfl, hl, rfl⟩
theorem DPut.t {H : Hp} {a b : Addr} {kvs : List (List Key × V)} {k : List Key} {v : V} (e : H a = some (.dT kvs)) (eb : H b = some (.tup (k.map kV))) (hl : kvs.length < sizeLine) :
    DPut H a (.ref b) v (upd H a (.dT (putK kvs k v))) := .inr ⟨kvs, k, b, e, rfl, eb, hl, rfl⟩
section
variable {X : Cx} {pins : List (Addr × Obj)} {σ : St} {H : Hp} {s : Shared} {a : Addr} {y v : V} {u r : Value} {o : Option V} {A : Around} {E : Value → Shared → Prop}
theorem Inv.big (I : Inv X pins σ H s) : sysModules < s.heap.objs.size := by
  have h : mainGlobals < s.heap.objs.size := (I.mod.glob.keeps I.bk).lt
  exact Nat.lt_trans (by decide) h
theorem d_getItem {Q : Value → Shared → Prop} (hu : A.units + 1 < cLine) (I : Inv X pins σ H s) (g : DGet H a y (some v)) (ry : RelV y u) (h : ∀ w' s', Inv X pins σ H s' → RelV v w' → Q w' s') :
    wpAny (model X.prog X.w) A (getItem (.ref a) u) Q E s := by
  rcases g with ⟨kvs, k, e, ey, l⟩ | ⟨kvs, k, b, e, ey, eb, l⟩
  · subst ey
    obtain ⟨z, hd, vs, rel, dd⟩ := dk_rd I.hok e
    obtain ⟨w', hw, rw'⟩ := RelO.some_of (v := v) (o := valueAt vs k) (by rw [l]; exact rel.val k)
    exact wpAny_getItem_of (kV_is ry) dd.mapOf hw (h w' _ (I.tok _) rw')
  · subst ey
    cases (show u = Value.ref b from ry)
    obtain ⟨z, hd, xs, rel, dd⟩ := dt_rd I.hok e
    obtain ⟨w', hw, rw'⟩ := RelO.some_of (v := v) (o := (atKey xs k).map (·.2)) (by rw [l]; exact rel.val k)
    obtain ⟨p, hp, hp2⟩ := Option.map_eq_some_iff.mp hw
    refine wpAny_getItem_heap (tupleKind_room_in1 hu) (key_of I.hok eb) dd hp ?_
    rw [hp2]
    exact h w' _ (I.tok _) rw'
theorem d_in {Q : Value → Shared → Prop} (hu : A.units + 1 < cLine) (I : Inv X pins σ H s) (g : DGet H a y o) (ry : RelV y u) (h : ∀ s', Inv X pins σ H s' → Q (.bool o.isSome) s') :
    wpAny (model X.prog X.w) A (compareOp .In u (.ref a)) Q E s := by
  rcases g with ⟨kvs, k, e, ey, l⟩ | ⟨kvs, k, b, e, ey, eb, l⟩
  · subst ey
    obtain ⟨z, hd, vs, rel, dd⟩ := dk_rd I.hok e
    refine wpAny_in_of (kV_is ry) hd dd.mapOf ?_
    rw [← (rel.val k).isSome_eq, ← l]
    exact h _ (I.tok _)
  · subst ey
    cases (show u = Value.ref b from ry)
    obtain ⟨z, hd, xs, rel, dd⟩ := dt_rd I.hok e
    refine wpAny_in_heap (tupleKind_room_in1 hu) (key_of I.hok eb) hd dd ?_
    have q := (rel.val k).isSome_eq
    rw [Option.isSome_map] at q
    rw [← q, ← l]
    exact h _ (I.tok _)
theorem d_notIn {Q : Value → Shared → Prop} (hu : A.units + 1 < cLine) (I : Inv X pins σ H s) (g : DGet H a y o) (ry : RelV y u) (h : ∀ s', Inv X pins σ H s' → Q (.bool (!o.isSome)) s') :
    wpAny (model X.prog X.w) A (compareOp .NotIn u (.ref a)) Q E s := by
  rcases g with ⟨kvs, k, e, ey, l⟩ | ⟨kvs, k, b, e, ey, eb, l⟩
  · subst ey
    obtain ⟨z, hd, vs, rel, dd⟩ := dk_rd I.hok e
    refine wpAny_notIn_of (kV_is ry) hd dd.mapOf ?_
    rw [← (rel.val k).isSome_eq, ← l]
    exact h _ (I.tok _)
  · subst ey
    cases (show u = Value.ref b from ry)
    obtain ⟨z, hd, xs, rel, dd⟩ := dt_rd I.hok e
    refine wpAny_notIn_heap (tupleKind_room_in1 hu) (key_of I.hok eb) hd dd ?_
    have q := (rel.val k).isSome_eq
    rw [Option.isSome_map] at q
    rw [← q, ← l]
    exact h _ (I.tok _)
theorem d_write {h' : Heap} {t' : Nat} {ob : HO} (I : Inv X pins σ H s) (mu : Mut (H a)) (hs : Heap.SameBut a s.heap h') (he : ∃ q, h'.get? a = some q) (new : ObjOk X.prog X.w (upd H a ob) h' a ob) :
    Inv X pins σ (upd H a ob) { s with heap := h', toks := t' } :=
  I.write (x := a) (e := a) mu (.inl rfl) (fun b q hb z => (hs.2 b hb).trans z) he new
theorem dk_new {P : Program} {w : World} {H' : Hp} {h' : Heap} {kvs : List (Key × V)} {vs : List (Key × Value)} (z : kvs.length ≤ sizeLine) (hd : (a == sysModules) = false) (rel : KV kvs vs) (dd : h'.DictOf (mixKind P w) a vs) :
    ObjOk P w H' h' a (.dK kvs) := ⟨z, hd, vs, rel, dd⟩
theorem d_setItem {H' : Hp} {Q : Unit → Shared → Prop} (hu : A.units + 1 < cLine) (I : Inv X pins σ H s) (g : DPut H a y v H') (ry : RelV y u) (rv : RelV v r) (h : ∀ s', Inv X pins σ H' s' → Q () s') :
    wpAny (model X.prog X.w) A (setItem (.ref a) u r) Q E s := by
  rcases g with ⟨kvs, k, e, ey, l, eH⟩ | ⟨kvs, k, b, e, ey, eb, l, eH⟩
  · subst ey eH
    obtain ⟨z, hd, vs, rel, dd⟩ := dk_of I.hok e
    have hz : vs.length ≤ sizeLine := by rw [← rel.length]; exact z
    have hl : (putK kvs k v).length ≤ sizeLine := by have := length_putK kvs k v; omega
    refine wpAny_setItem_pairs (hsz := hz) (kV_is ry) dd fun h' dd' hs => h _ ?_
    have he : ∃ q, h'.get? a = some q := let ⟨q, _, _, hq, _⟩ := dd'; ⟨q, hq⟩
    exact d_write I (by rw [e]; exact True.intro) hs he (dk_new hl hd (rel.put k rv) dd')
  · subst ey eH
    cases (show u = Value.ref b from ry)
    obtain ⟨z, hd, xs, rel, dd⟩ := dt_of I.hok e
    have hz : xs.length ≤ sizeLine := by rw [← Paired.length rel]; exact z
    have hl : (putK kvs k v).length ≤ sizeLine := by have := length_putK kvs k v; omega
    refine wpAny_setItem_heap (hsz := hz) (tupleKind_room_in1 hu) (key_of I.hok eb) dd fun h' dd' hs => h _ ?_
    obtain ⟨q, es, ep, hq, h2, h3, h4, _, h5⟩ := dd'
    refine d_write I (by rw [e]; exact True.intro) hs ⟨q, hq⟩ ⟨hl, hd, _, (rel.put k eb rv).keeps fun c ys ec => ?_, q, es, ep, hq, h2, h3, h4, h5⟩
    rw [upd_ne (ne_of ec e (fun z => nomatch z))]
    exact ec
end
section
variable {X : Cx} {pins : List (Addr × Obj)} {σ : St} {H : Hp} {s : Shared} {a : Addr} {kvs : List (Key × V)} {k : Key} {u : Value} {A : Around} {E : Value → Shared → Prop}
end
def NoSl (i : Expr) : Prop := ∀ ov iv, subscripted i false ov iv = operate [ov, iv] (getItem ov iv)
theorem subD_of {prog : Program} {w : World} {A : Around} {E : Value → Shared → Prop} {s : Shared} {env : Env} {value slice : Expr} {pos : Pos} {T id : String} {Q : Value → Shared → Prop}
    (hl : typeLookup (.type T) "__getitem__" = pure (some (.builtin id))) (hs : NoSl slice)
    (h : wpAny (model prog w) A (eval value env) (fun o s₁ => wpAny (model prog w) A (eval slice env) (fun i s₂ => s₂.TypeIs o T ∧ wpAny (model prog w) A (getItem o i) Q E s₂) E s₁) E s) :
    wpAny (model prog w) A (eval (.Subscript value slice pos) env) Q E s := by
  refine Subscript_ (wpAny_mono h (fun o s₁ h₁ => wpAny_mono h₁ (fun i s₂ h₂ => ?_) fun _ _ x => x) fun _ _ x => x)
  obtain ⟨hT, h₂⟩ := h₂
  unfold subscriptTail
  refine wpAny_bind ?_
  rw [getitemInPython_of_ne hT.not_modules]
  refine wpAny_bind (wpAny_specialOf hT hl ?_)
  have fin : wpAny (model prog w) A (subscripted slice false o i) (fun r s₃ => wpAny (model prog w) A (letTemporaryGo value o r >>= fun _ => pure r) Q E s₃) E s₂ := by
    rw [hs o i]
    exact wpAny_operating (wpAny_mono h₂ (fun r s₃ h₃ => wpAny_bind (wpAny_letTemporaryGo (wpAny_pure h₃))) fun _ _ x => x)
  first
    | exact wpAny_pure (wpAny_bind fin)
    | exact wpAny_bind (wpAny_pure (wpAny_bind fin))
    | exact wpAny_bind fin
theorem dict_typeIs {X : Cx} {pins : List (Addr × Obj)} {σ : St} {H : Hp} {s : Shared} {a : Addr} {y : V} {o : Option V} (I : Inv X pins σ H s) (g : DGet H a y o) : s.TypeIs (.ref a) "dict" := by
  rcases g with ⟨kvs, k, e, _, _⟩ | ⟨kvs, k, b, e, _, _, _⟩
  · obtain ⟨_, _, vs, _, dd⟩ := dk_rd I.hok e
    exact dd.typeIs
  · obtain ⟨_, _, xs, _, dd⟩ := dt_rd I.hok e
    exact dd.typeIs
def tDGet (td ty : TE) : TE := fun σ H Q => td σ H fun x H1 => ty σ H1 fun y H2 => ∃ a v, x = .ref a ∧ DGet H2 a y (some v) ∧ Q v H2
def tDIn (ty td : TE) : TE := fun σ H Q => ty σ H fun y H1 => td σ H1 fun x H2 => ∃ a o, x = .ref a ∧ DGet H2 a y o ∧ Q (.bl o.isSome) H2
def tDNotIn (ty td : TE) : TE := fun σ H Q => ty σ H fun y H1 => td σ H1 fun x H2 => ∃ a o, x = .ref a ∧ DGet H2 a y o ∧ Q (.bl (!o.isSome)) H2
def sDPut (td ty tv : TE) : TS := fun D σ H => tv σ H fun v H1 => td σ H1 fun x H2 => ty σ H2 fun y H3 => ∃ a H4, x = .ref a ∧ DPut H3 a y v H4 ∧ D.nx σ H4
section
variable {X : Cx} {o i e value : Expr} {pos pos' tpos : Pos} {td ty tv : TE}
theorem pe_dget (hu : X.A.units + 1 < cLine) (ho : PE X o td) (hi : PE X i ty) (hs : NoSl i) : PE X (.Subscript o i pos) (tDGet td ty) := by
  intro pins s σ H Q I h
  refine subD_of PySem.F.slot_dict_getitem.lookup hs (thn (ho pins s σ H _ I h) fun u s1 ⟨x, H1, I1, rx, q1⟩ => thn (hi pins s1 σ H1 _ I1 q1) fun iv s2 ⟨y, H2, I2, ry, a, v, ex, g, q2⟩ => ?_)
  subst ex
  obtain rfl : u = Value.ref a := rx
  exact ⟨dict_typeIs I2 g, d_getItem hu I2 g ry fun w' s3 I3 rw' => ⟨v, H2, I3, rw', q2⟩⟩
theorem pc_din (hu : X.A.units + 1 < cLine) (hi : PE X i ty) (ho : PE X o td) : PC X .In i o (tDIn ty td) := by
  intro pins s σ H Q I h
  refine thn (hi pins s σ H _ I h) fun iv s1 ⟨y, H1, I1, ry, q1⟩ => thn (ho pins s1 σ H1 _ I1 q1) fun u s2 ⟨x, H2, I2, rx, a, ov, ex, g, q2⟩ => ?_
  subst ex
  obtain rfl : u = Value.ref a := rx
  exact d_in hu I2 g ry fun s3 I3 => ⟨.bl ov.isSome, H2, I3, rfl, q2⟩
theorem pc_dnotin (hu : X.A.units + 1 < cLine) (hi : PE X i ty) (ho : PE X o td) : PC X .NotIn i o (tDNotIn ty td) := by
  intro pins s σ H Q I h
  refine thn (hi pins s σ H _ I h) fun iv s1 ⟨y, H1, I1, ry, q1⟩ => thn (ho pins s1 σ H1 _ I1 q1) fun u s2 ⟨x, H2, I2, rx, a, ov, ex, g, q2⟩ => ?_
  subst ex
  obtain rfl : u = Value.ref a := rx
  exact d_notIn hu I2 g ry fun s3 I3 => ⟨.bl (!ov.isSome), H2, I3, rfl, q2⟩
theorem ps_dput (hu : X.A.units + 1 < cLine) (ho : PE X o td) (hi : PE X i ty) (hv : PE X value tv) (hs : swapsWith value (some (.Subscript o i pos')) pos.line X.env = pure false) :
    PS X (.Assign [.Subscript o i pos'] value pos) (sDPut td ty tv) := by
  intro pins s σ H D I h
  refine wpAny_Assign_Subscript (thn (hv pins s σ H _ I h) fun r s1 ⟨v, H1, I1, rv, q1⟩ => thn (ho pins s1 σ H1 _ I1 q1) fun u s2 ⟨x, H2, I2, rx, q2⟩ => thn (hi pins s2 σ H2 _ I2 q2) fun iv s3 ⟨y, H3, I3, ry, a, H4, ex, g, q3⟩ => ?_) hs
  subst ex
  obtain rfl : u = Value.ref a := rx
  exact d_setItem hu I3 g ry rv fun s4 I4 => ⟨σ, H4, I4, q3⟩
end
theorem dt_empty {P : Program} {w : World} {H : Hp} (h : Heap) (hb : sysModules < h.objs.size) : ObjOk P w H (h.push { cls := .type "dict", data := .dict #[] }) h.objs.size (.dT []) :=
  ⟨Nat.zero_le _, beq_eq_false_iff_ne.mpr (Ne.symm (Nat.ne_of_lt hb)), [], .nil, _, #[], 0, Heap.get?_push_size _ rfl, ⟨rfl, rfl, rfl⟩, rfl, rfl, List.nodup_nil⟩
def tDNewT : TE := fun _ H Q => ∀ p, H p = none → Q (.ref p) (upd H p (.dT []))
section
variable {X : Cx} {pos : Pos}
theorem pe_dnewT : PE X (.Dict [] [] pos) tDNewT := fun pins s σ H Q I h =>
  wpAny_Dict_empty ⟨.ref s.heap.objs.size, _, I.laid (a := s.heap.objs.size) (o := .dT []) (t' := s.toks) (fun _ _ q => Heap.get?_push_of_some _ q) (Nat.le_refl _) (dt_empty s.heap I.big), rfl, h _ (I.hok.fresh (Nat.le_refl _))⟩
end
section
variable {X : Cx} {pins : List (Addr × Obj)} {σ : St} {H : Hp} {s : Shared} {a : Addr} {y d : V} {u r : Value} {o : Option V} {A : Around} {E : Value → Shared → Prop}
end
section
variable {X : Cx} {o e f : Expr} {apos cpos : Pos} {td ty tx : TE}
end
section
variable {X : Cx} {pins : List (Addr × Obj)} {σ : St} {H : Hp} {s : Shared} {a : Addr} {kvs : List (Key × V)} {A : Around} {E : Value → Shared → Prop}
end
section
variable {X : Cx} {pins : List (Addr × Obj)} {σ : St} {H : Hp} {s : Shared} {a : Addr} {y : V} {u : Value} {A : Around} {E : Value → Shared → Prop}
end
end L2
namespace L2
open PySem PySem.Spec PyProof.Rows
section
variable {X : Cx}
end
section
variable {κ : Type} [DecidableEq κ]
end
end L2
namespace Sv
open PySem PySem.Spec PyProof.Rows L2
section
variable {X : Cx} {tg : Expr}
end
end Sv
namespace Sv
open PySem PySem.Spec PyProof.Rows L2
theorem CmpR.filt {cap : List Nat} {tc : TT} {te : TE} {J : It} {σ : L2.St} {H : Hp} {Q : VK} {xs : List V} {Ok : Hp → Prop} (p : V → Bool) (f : V → V) (it : ItOf J xs Ok) (hz : xs.length ≤ 1000) (ok : ∀ H', Same H H' → Ok H')
    (hc : ∀ x H' (Q' : Bool → Hp → Prop), x ∈ xs → Same H H' → (∀ H2, Same H' H2 → Q' (p x) H2) → tc (some x :: cap.map fun i => σ.getD i none) H' Q')
    (hs : ∀ x H' (Q' : VK), x ∈ xs → p x = true → Same H H' → (∀ H2, Same H' H2 → Q' (f x) H2) → te (some x :: cap.map fun i => σ.getD i none) H' Q')
    (hd : ∀ D H', H D = none → Same H H' → H' D = some (.lst ((xs.filter p).map f)) → Q (.ref D) H') : CmpR 1 cap (gName 0) tc te J σ H Q := by
  intro D hD
  have keep : ∀ {H' : Hp} {o : HO}, Same H H' → Same H (upd H' D o) := fun sm b o e => by
    rw [upd_ne (ne_of_none e hD)]
    exact sm b o e
  have le : ∀ i, (((xs.take i).filter p).map f).length ≤ i := fun i => by
    rw [List.length_map]
    exact Nat.le_trans (List.length_filter_le _ _) (by rw [List.length_take]; exact Nat.min_le_left _ _)
  refine ⟨fun i m σ' H' => m = xs.length - i ∧ i ≤ xs.length ∧ ∃ t, σ' = t :: (cap.map fun i => σ.getD i none) ∧ Same H H' ∧ H' D = some (.lst (((xs.take i).filter p).map f)), ⟨_, rfl, Nat.zero_le _, none, rfl, keep (Same.refl _), upd_same⟩, fun i m σ' H' hw => ?_⟩
  obtain ⟨rfl, hi, t, rfl, sm, hl⟩ := hw
  by_cases lt : i < xs.length
  · refine .inr ⟨it.go i _ (ok _ sm) lt, fun σ2 H2 => ∃ t, σ2 = t :: (cap.map fun i => σ.getD i none) ∧ Same H H2 ∧ H2 D = some (.lst (((xs.take (i + 1)).filter p).map f)), fun σ2 H2 n2 => ⟨_, ?_, rfl, lt, n2⟩, fun x H2 y => ?_⟩
    · omega
    · obtain ⟨rfl, hx⟩ := it.yld i _ x H2 (ok _ sm) lt y
      show tc (some x :: (cap.map fun i => σ.getD i none)) _ _
      refine hc x H2 _ (List.mem_of_getElem? hx) sm fun H3 s3 => ?_
      have e1 : (xs.take (i + 1)).filter p = (xs.take i).filter p ++ if p x = true then [x] else [] := by
        rw [List.take_add_one, hx, List.filter_append, Option.toList_some]
        congr 1
        cases hp : p x <;> simp [List.filter, hp]
      cases hp : p x with
      | false =>
        rw [if_neg Bool.false_ne_true]
        refine ⟨_, rfl, sm.trans s3, ?_⟩
        rw [e1, hp, if_neg Bool.false_ne_true, List.append_nil]
        exact s3 _ _ hl
      | true =>
        rw [if_pos rfl]
        show te (some x :: (cap.map fun i => σ.getD i none)) _ _
        refine hs x H3 _ (List.mem_of_getElem? hx) hp (sm.trans s3) fun H4 s4 => ⟨_, s4 _ _ (s3 _ _ hl), ?_, _, rfl, keep ((sm.trans s3).trans s4), ?_⟩
        · have := le i
          exact small1000 (by omega)
        · rw [upd_same, e1, hp, if_pos rfl, List.map_append]
          rfl
  · obtain rfl : i = xs.length := by omega
    refine .inl ⟨it.stop _ _ (ok _ sm) (Nat.le_refl _), ?_⟩
    rw [List.take_length] at hl
    exact hd D H' hD sm hl
section
variable {X : Cx} {K : PySem.W.Frag}
theorem pe_fldK {e : Expr} {f : Str} {pos : Pos} {ta : TE} (hK : X.K = K) (he : PE X e ta) (hb : attributeBase e f X.env (eval e X.env) = eval e X.env) : PE X (.Attribute e f pos) (tFld K ta f) := by
  subst hK
  exact pe_fld he hb
end
section
variable {td ty tv : TE} {σ : L2.St} {H : Hp} {Q : VK} {D : Ends} {x y v : V} {d : Addr} {z : Str} {ps : List (Str × V)}
def DGetR (x y : V) (H : Hp) (Q : VK) : Prop := ∃ a v, x = .ref a ∧ DGet H a y (some v) ∧ Q v H
def DInR (neg : Bool) (x y : V) (H : Hp) (Q : VK) : Prop := ∃ a o, x = .ref a ∧ DGet H a y o ∧ Q (.bl (if neg then !o.isSome else o.isSome)) H
def DPutR (x y v : V) (H : Hp) (Q : Hp → Prop) : Prop := ∃ a H4, x = .ref a ∧ DPut H a y v H4 ∧ Q H4
theorem dget_ : tDGet td ty σ H Q = td σ H fun x H1 => ty σ H1 fun y H2 => DGetR x y H2 Q := rfl
theorem din_ : tDIn ty td σ H Q = ty σ H fun y H1 => td σ H1 fun x H2 => DInR false x y H2 Q := rfl
theorem dnotin_ : tDNotIn ty td σ H Q = ty σ H fun y H1 => td σ H1 fun x H2 => DInR true x y H2 Q := rfl
theorem dput_ : sDPut td ty tv D σ H = tv σ H fun v H1 => td σ H1 fun x H2 => ty σ H2 fun y H3 => DPutR x y v H3 (D.nx σ) := rfl
def Dk (ps : List (Str × V)) : List (Key × V) := ps.map fun p => (.inr p.1, p.2)
def DicS (H : Hp) (d : Addr) (ps : List (Str × V)) : Prop := Rd H d (.dK (Dk ps))
theorem DicS.same {H' : Hp} (h : DicS H d ps) (s : Same H H') : DicS H' d ps := by
  rcases h with h | ⟨o, h⟩
  · exact .inl (s _ _ h)
  · exact .inr ⟨o, s _ _ h⟩
end
end Sv
namespace Sv
open PySem PySem.Spec PyProof PyProof.Rows L2
section
variable {H : Hp} {Q : VK} {z : Str} {k j : Nat}
end
def Rng2R (vs : List V) (H : Hp) (R : It → Hp → Prop) : Prop := ∃ i j : Int, vs = [.int i, .int j] ∧ (-(2 ^ 62) ≤ i ∧ i < 2 ^ 62 ∧ -(2 ^ 62) ≤ j ∧ j < 2 ^ 62) ∧ R (Itr i (j - i).toNat) H
theorem Rng2R.go {i j : Int} {H : Hp} {R : It → Hp → Prop} (h : -(2 ^ 62) ≤ i ∧ i < 2 ^ 62 ∧ -(2 ^ 62) ≤ j ∧ j < 2 ^ 62) (q : R (Itr i (j - i).toNat) H) : Rng2R [.int i, .int j] H R := ⟨i, j, rfl, h, q⟩
def RngD (vs : List V) (H : Hp) (R : It → Hp → Prop) : Prop := ∃ k : Nat, vs = [.int (k : Int), .int (-1), .int (-1)] ∧ k < 1000000 ∧ R (Its (k : Int) (-1) (k + 1)) H
theorem RngD.go {k : Nat} {H : Hp} {R : It → Hp → Prop} (h : k < 1000000) (q : R (Its (k : Int) (-1) (k + 1)) H) : RngD [.int (k : Int), .int (-1), .int (-1)] H R := ⟨k, rfl, h, q⟩
end Sv
namespace Sv
open PySem PySem.Spec PyProof.Rows L2
def Itzl (K : PySem.W.Frag) (a b : Addr) : It :=
  ⟨fun i H => ∃ xs ys x y, SqL K H a xs ∧ SqL K H b ys ∧ xs[i]? = some x ∧ ys[i]? = some y,
   fun i H v H' => ∃ t x y, v = .ref t ∧ H t = none ∧ H' = upd H t (.tup [x, y]) ∧ ∀ xs ys, SqL K H a xs → SqL K H b ys → xs[i]? = some x ∧ ys[i]? = some y,
   fun i H => ∃ xs ys, SqL K H a xs ∧ SqL K H b ys ∧ (xs.length ≤ i ∨ ys.length ≤ i)⟩
section
variable {X : Cx}
end
section
variable {K : PySem.W.Frag} {H : Hp} {R : It → Hp → Prop} {a b : Addr} {xs ys : List V}
def ZipLR (K : PySem.W.Frag) (vs : List V) (H : Hp) (R : It → Hp → Prop) : Prop := ∃ a b xs ys, vs = [.ref a, .ref b] ∧ SqL K H a xs ∧ SqL K H b ys ∧ R (Itzl K a b) H
theorem ZipLR.go (h1 : SqL K H a xs) (h2 : SqL K H b ys) (q : R (Itzl K a b) H) : ZipLR K [.ref a, .ref b] H R := ⟨a, b, xs, ys, rfl, h1, h2, q⟩
end
end Sv
namespace Sv
open PySem PySem.Spec PyProof.Rows L2
structure FnMX (P : Program) (w : World) (K : PySem.W.Frag) (mg : Str → Option Value) (base : Heap) (C : Addr) (m : Str) (k : Nat) (ps : List Str) (sp : Sp) : Prop where
  ex : ∃ (f : Addr) (fd : FuncData), FnOk P w K mg base (CXe P w) k f fd ps sp ∧ Meth K C m f ∧ Binds K fd ps []
theorem MDef.fnMX {P : Program} {w : World} {K : PySem.W.Frag} {mg : Str → Option Value} {base : Heap} {C : Addr} {m qual : Str} {st : Stmt} {k : Nat} {ps : List Str} {sp : Sp} (D : MDef K C m qual st) (b : ∀ (kV doc pm : Value) (an : Option Addr) (cdv ct : Value) (us : List Value), us.length = ps.length → bindArgs (PySem.W.fnOf m qual (defArgs st) (defBody st) (defScope st) .none kV doc pm an cdv ct) ⟨us, []⟩ = pure (ps.zip us))
    (ok : ∀ (f : Addr) (fd : FuncData), Fun K m qual st f fd → FnOk P w K mg base (CXe P w) k f fd ps sp) : FnMX P w K mg base C m k ps sp := by
  obtain ⟨f, fd, F, a, n⟩ := D.ex
  exact ⟨⟨f, fd, ok f fd F, ⟨a, n, F.kp⟩, F.binds b⟩⟩
section
variable {X : Cx} {k j : Nat} {C : Addr} {ps : List Str} {sp : Sp} {m : Str} {pos apos : Pos} {e o : Expr} {es : List Expr} {ta : TE} {t : TA} {pl : Sem Bool}
def MethT (Rr : RX) (C : Addr) (m : Str) (sp : Sp) (x : V) (t : TA) (σ : L2.St) (H : Hp) (Q : VK) : Prop := ∃ (a dx : Addr) (fs : List (Str × V)), x = .ref a ∧ H a = some (.ins C dx fs) ∧ fs.lookup m = none ∧ t σ H fun vs H2 => sp (x :: vs) H2 Q fun cls dd H' => Rr cls dd σ H'
def tMethT (Rr : RX) (C : Addr) (m : Str) (sp : Sp) (ta : TE) (t : TA) : TE := fun σ H Q => ta σ H fun x H1 => MethT Rr C m sp x t σ H1 Q
theorem methT_ {Rr : RX} {σ : L2.St} {H : Hp} {Q : VK} : tMethT Rr C m sp ta t σ H Q = ta σ H fun x H1 => MethT Rr C m sp x t σ H1 Q := rfl
theorem MethT.go {Rr : RX} {σ : L2.St} {H : Hp} {Q : VK} {a dx : Addr} {fs : List (Str × V)} (h : H a = some (.ins C dx fs)) (l : fs.lookup m = none) (q : t σ H fun vs H2 => sp (.ref a :: vs) H2 Q fun cls dd H' => Rr cls dd σ H') : MethT Rr C m sp (.ref a) t σ H Q := ⟨a, dx, fs, rfl, h, l, q⟩
theorem pe_methT {Rr : RX} {pn : List (Addr × Obj)} (F : FnMX X.prog X.w X.K X.mg X.base C m k ps sp) (c : Cls X.K C) (hD : DefCx X) (hr : Room j X.A) (hk : k ≤ j) (he : PE ((cxP X pn).wish (xeT (cxP X pn) Rr)) o ta) (ha : PA ((cxP X pn).wish (xeT (cxP X pn) Rr)) (e :: es) t)
    (hst : starEach (e :: es) X.env = (false, eval e X.env) :: starEach es X.env := by rfl) (hpl : (backTo pos (starEach es X.env)).any (·.1) = false := by rfl)
    (ht : eval (.Call (.Attribute o m apos) (e :: es) [] pos) X.env = (do
      let ov ← eval o X.env
      standAt apos.atName
      let (f, first) ← holding [ov] (getMethod ov m pl)
      callWith pos f first (backTo pos (starEach (e :: es) X.env)) (backToKw pos (keywordEach [] X.env))) := by rfl) :
    PE ((cxP X pn).wish (xeT (cxP X pn) Rr)) (.Call (.Attribute o m apos) (e :: es) [] pos) (tMethT Rr C m sp ta t) := by
  obtain ⟨f, fd, G, hm, b⟩ := F.ex
  intro pins s σ H Q I h
  refine PySem.W.methodCall_KW (pl := pl) (thn (he pins s σ H _ I h) fun u s1 ⟨x, H1, I1, rx, a, dx, fs, ex, ea, l, q⟩ => ?_) ht
  subst ex
  obtain rfl : u = Value.ref a := rx
  refine getmeth_ok I1 ea c hm l ?_
  refine PySem.W.callWith_K (first := [.ref a]) (h₀ := X.base) I.ok.mod.kin hm.kp (thn (ha pos pins s1 σ H1 _ I1 q) fun us s2 ⟨vs, H2, I2, r, q2⟩ => ⟨I2.kIn, ?_⟩) hst hpl
  have r2 : Vals (.ref a :: vs) (.ref a :: us) := .cons rfl r
  have hl : (Value.ref a :: us).length = ps.length := by rw [← r2.length]; exact G.len _ _ _ _ q2
  refine wpAny_call (codeAny_mono (G.run X.A X.stack s2 H2 ⟨.ref a :: us, []⟩ (.ref a :: us) (.ref a :: vs) Q _ (hr.mono hk) I2.env0 (by have := b s2 (.ref a :: us) I2.kIn (by rw [List.append_nil]; exact hl); rw [List.append_nil] at this; exact this) r2 q2) fun r' s' hq => ?_)
  cases r' with
  | error y => exact catch_on hD I2 hq
  | ok fl =>
    cases fl with
    | ret u => exact I2.after hq
    | next => exact False.elim hq
    | brk => exact False.elim hq
    | cont => exact False.elim hq
end
section
variable {K : PySem.W.Frag} {ta tv : TE} {t : TA} {f : Str} {D : Ends} {σ : L2.St} {H : Hp} {Q : VK} {C : Addr} {sp : Sp} {E : XK}
theorem sfldX_ : sFldX K ta tv f D σ H = tv σ H fun y H1 => ta σ H1 fun x H2 => SFldX K f y x H2 fun H' => D.nx σ H' := rfl
theorem xinit_ : tXInit K t σ H Q = t σ H fun xs H1 => XInit K xs H1 Q := rfl
theorem fldE_ : tFldE K ta f σ H Q = ta σ H fun x H1 => FldE K f x H1 Q := rfl
def RaiseI (C : Addr) (sp : Sp) (E : XK) (vs : List V) (H1 : Hp) : Prop := vs.length ≤ sizeLine ∧ ∀ a, H1 a = none → sp (.ref a :: vs) (upd H1 a (exN a C none)) (fun v H2 => v = .non ∧ ∃ dd, H2 a = some (exN a C dd) ∧ (∀ d, dd = some d → d ≠ a ∧ ∃ fs, H2 d = some (.xd fs)) ∧ E (.ref C) dd (del H2 a)) E0
theorem raiseI_ : tRaiseI C sp E t D σ H = t σ H fun vs H1 => RaiseI C sp E vs H1 := rfl
def FmtR (x : V) (H1 : Hp) (Q : VK) : Prop := (∃ y, x = .str y ∧ y.length ≤ sizeLine ∧ Q (.str y) H1) ∨ ∃ i : Int, x = .int i ∧ i.natAbs.log2 < 1920 ∧ Q (.str (toString i)) H1
theorem fmt_ : tFmt ta σ H Q = ta σ H fun x H1 => FmtR x H1 Q := rfl
theorem FmtR.str {y : Str} (h : y.length ≤ 1000) (q : Q (.str y) H) : FmtR (.str y) H Q := .inl ⟨y, rfl, Nat.le_of_lt (small1000 h), q⟩
structure XcI (P : Program) (w : World) (K : PySem.W.Frag) (mg : Str → Option Value) (base : Heap) (x : Str) (C : Addr) (k : Nat) (ps : List Str) (sp : Sp) : Prop where
  ex : ∃ (N fI : Addr) (fd : FuncData), ExcCI K mg x C N fI ∧ FnOk P w K mg base CX0 k fI fd ps sp ∧ Binds K fd ps []
end
end Sv
namespace Sv
open PySem PySem.Spec PyProof.Rows L2
section
variable {prog : Program} {w : World} {A : Around} {E : Value → Shared → Prop} {s : Shared} {r : Addr}
variable {it l S : Addr} {items : Array Value}
end
section
variable {X : Cx} {e a b : Expr} {t : TA} {p p2 pos pos2 : Pos}
end
structure XDef (K : PySem.W.Frag) (mg : Str → Option Value) (x : Str) (C : Addr) (qual : Str) (st : Stmt) : Prop where
  ex : ∃ (N fI : Addr) (fd : FuncData), ExcCI K mg x C N fI ∧ Fun K "__init__" qual st fI fd
theorem mk_xdef {K : PySem.W.Frag} {h : Heap} {mg : Str → Option Value} {x qual : Str} {C N fI : Addr} {st : Stmt} {nm q : Str} {bs bm : List Value} {hdct : Bool} {sn : List Str} {sub : List Value} {ab : Bool} {col : Option Bool} {dd : Option Addr} {k0 k1 k2 k3 k5 : Option Value} {kV dc pm cd ct : Value} {od an : Option Addr} {sl : Array (Option Value)} (X : K.In h) (G : h.Ns mainGlobals mg)
    (a : PySem.W.nsIn K mainGlobals x = some (some (.ref C))) (lk : K.lookup C = some (excClassObj nm q C N bs bm hdct sn sub ab col dd k0 k1 k2 k3 k5 "ValueError.__new__")) (tl : PySem.W.tailIn K bmVE bm = true) (ns : PySem.W.nsOkIn K N = true) (ini : PySem.W.nsIn K N "__init__" = some (some (.ref fI)))
    (l : K.lookup fI = some ⟨.type "function", od, .func (PySem.W.fnOf "__init__" qual (defArgs st) (defBody st) (defScope st) .none kV dc pm an cd ct), sl⟩) (c : PySem.W.codeIn K cd qual = true) (k : PySem.W.keepIn K (.ref fI) = true) : XDef K mg x C qual st :=
  ⟨⟨N, fI, _, ⟨PySem.W.mg_of X G a, ⟨⟨_, _, _, _, _, _, _, _, _, _, _, _, _, _, _, lk, tl⟩⟩, ns, ini, _, l, rfl⟩, fun_mk l c k⟩⟩
theorem XDef.xci {P : Program} {w : World} {K : PySem.W.Frag} {mg : Str → Option Value} {base : Heap} {x qual : Str} {C : Addr} {st : Stmt} {k : Nat} {ps : List Str} {sp : Sp} (D : XDef K mg x C qual st)
    (b : ∀ (kV doc pm : Value) (an : Option Addr) (cdv ct : Value) (us : List Value), us.length = ps.length → bindArgs (PySem.W.fnOf "__init__" qual (defArgs st) (defBody st) (defScope st) .none kV doc pm an cdv ct) ⟨us, []⟩ = pure (ps.zip us))
    (ok : ∀ (N f : Addr) (fd : FuncData), ExcK K C N → Fun K "__init__" qual st f fd → FnOk P w K mg base CX0 k f fd ps sp) : XcI P w K mg base x C k ps sp := by
  obtain ⟨N, fI, fd, O, F⟩ := D.ex
  exact ⟨⟨N, fI, fd, O, ok N fI fd O.k F, F.binds b⟩⟩
def IfR (b : Bool) (ta tb : TE) (σ : L2.St) (H : Hp) (Q : VK) : Prop := if b = true then ta σ H Q else tb σ H Q
section
variable {t : TT} {ta tb : TE} {σ : L2.St} {H : Hp} {Q : VK}
theorem ifx_ : tIf t ta tb σ H Q = t σ H fun c H1 => IfR c ta tb σ H1 Q := rfl
theorem ifR_t : IfR true ta tb σ H Q = ta σ H Q := rfl
theorem ifR_f : IfR false ta tb σ H Q = tb σ H Q := rfl
theorem IfR.dec {p : Prop} [Decidable p] (h1 : p → ta σ H Q) (h2 : ¬p → tb σ H Q) : IfR (decide p) ta tb σ H Q := by
  by_cases h : p
  · rw [decide_eq_true h]
    exact h1 h
  · rw [decide_eq_false h]
    exact h2 h
end
theorem cut_midA {xs : List V} {k j : Nat} : cutV xs (some (k : Int)) (some (j : Int)) = (xs.drop k).take (j - k) := by
  unfold cutV
  rw [HT.sIx_nat, HT.sIx_nat]
  by_cases h : k ≤ xs.length
  · rw [Nat.min_eq_left h]
    by_cases g : j ≤ xs.length
    · rw [Nat.min_eq_left g]
    · rw [Nat.min_eq_right (by omega), List.take_of_length_le (by rw [List.length_drop]; omega), List.take_of_length_le (by rw [List.length_drop]; omega)]
  · rw [Nat.min_eq_right (show xs.length ≤ k by omega), List.drop_of_length_le (Nat.le_refl _), List.drop_of_length_le (show xs.length ≤ k by omega), List.take_nil, List.take_nil]
theorem slMidA_go {K : PySem.W.Frag} {H : Hp} {Q : VK} {p : Addr} {xs : List V} {k j : Nat} (h : SqL K H p xs) (q : ∀ l, H l = none → Q (.ref l) (upd H l (.lst ((xs.drop k).take (j - k))))) : rSlL K (.ref p) (some (k : Int)) (some (j : Int)) H Q := ⟨p, xs, rfl, h, by rw [cut_midA]; exact q⟩
theorem cut_dropA {xs : List V} {k : Nat} : cutV xs (some (k : Int)) none = xs.drop k := by
  by_cases h : k ≤ xs.length
  · exact cut_drop h
  · unfold cutV
    rw [HT.sIx_nat, HT.sIx_none, Nat.min_eq_right (show xs.length ≤ k by omega), List.drop_of_length_le (Nat.le_refl _), List.drop_of_length_le (show xs.length ≤ k by omega), List.take_nil]
theorem slDropA_go {K : PySem.W.Frag} {H : Hp} {Q : VK} {p : Addr} {xs : List V} {k : Nat} (h : SqL K H p xs) (q : ∀ l, H l = none → Q (.ref l) (upd H l (.lst (xs.drop k)))) : rSlL K (.ref p) (some (k : Int)) none H Q := ⟨p, xs, rfl, h, by rw [cut_dropA]; exact q⟩
end Sv
namespace Sv
open PySem PySem.Spec PyProof.Rows L2
theorem Vals.drop_ {xs : List V} {us : List Value} (h : Vals xs us) (k : Nat) : Vals (xs.drop k) (us.drop k) := by
  induction h generalizing k with
  | nil => rw [List.drop_nil, List.drop_nil]; exact .nil
  | cons r t ih =>
    cases k with
    | zero => exact .cons r t
    | succ k => exact ih k
end Sv
namespace Sv
open PySem PySem.Spec PyProof.Rows L2
def Itv (K : PySem.W.Frag) (a : Addr) (n : Nat) : It :=
  ⟨fun i H => ∃ xs x, SqL K H a xs ∧ i < n ∧ xs[n - 1 - i]? = some x, fun i H x H' => H' = H ∧ ∀ xs, SqL K H a xs → xs[n - 1 - i]? = some x, fun i _ => n ≤ i⟩
def RevR (K : PySem.W.Frag) (vs : List V) (H : Hp) (R : It → Hp → Prop) : Prop := ∃ a xs, vs = [.ref a] ∧ SqL K H a xs ∧ R (Itv K a xs.length) H
section
variable {X : Cx}
end
section
variable {K : PySem.W.Frag} {H : Hp} {R : It → Hp → Prop} {a : Addr} {xs : List V}
theorem RevR.go (h : SqL K H a xs) (q : R (Itv K a xs.length) H) : RevR K [.ref a] H R := ⟨a, xs, rfl, h, q⟩
end
theorem dnewT_ {σ : L2.St} {H : Hp} {Q : VK} : tDNewT σ H Q = ∀ p, H p = none → Q (.ref p) (upd H p (.dT [])) := rfl
end Sv
namespace Sv
open PySem PySem.Spec PyProof.Rows L2
def LabN (ns : List Int) : Prop := ns.length ≤ 8 ∧ ∀ n ∈ ns, 0 ≤ n ∧ n < 10 ^ 10
theorem log_lab {n : Int} (h0 : 0 ≤ n) (h1 : n < 10 ^ 10) : n.natAbs.log2 < 1920 := by
  by_cases z : n.natAbs = 0
  · rw [z]
    decide
  · rw [Nat.log2_lt z]
    have : n.natAbs < 2 ^ 40 := by omega
    exact Nat.lt_of_lt_of_le this (Nat.pow_le_pow_right (by decide) (by decide))
theorem repr_ints {P : Program} {w : World} : ∀ {ns : List Int} {us : List Value}, Vals (ns.map V.int) us → (∀ n ∈ ns, 0 ≤ n ∧ n < 10 ^ 10) → ReprAll P w us (ns.map fun n => Str.ofString (toString n))
  | [], _, h, _ => by
    cases h
    exact .nil
  | n :: ns, _, h, b => by
    cases h with
    | cons r rr =>
      obtain ⟨t, rfl⟩ := r
      obtain ⟨b0, b1⟩ := b n List.mem_cons_self
      exact .cons (.int t (log_lab b0 b1)) (repr_ints rr fun m hm => b m (List.mem_cons_of_mem _ hm))
theorem piled_ints : ∀ {ns : List Int}, (∀ n ∈ ns, 0 ≤ n ∧ n < 10 ^ 10) → piled (ns.map fun n => Str.ofString (toString n)) ≤ 12 * ns.length
  | [], _ => Nat.le_refl _
  | n :: ns, b => by
    have l := PySem.W.KT.len_num (b n List.mem_cons_self).1 (b n List.mem_cons_self).2
    have ih := piled_ints fun m hm => b m (List.mem_cons_of_mem _ hm)
    rw [List.map_cons, piled_cons, List.length_cons]
    omega
theorem tupleText_le (ts : List Str) : (tupleText ts).length ≤ piled ts + 10 := by
  unfold tupleText
  rw [strLen_append, strLen_append]
  have e1 : ((("(" : String) : Str)).length = 1 := rfl
  have e3 : (((if ts.length == 1 then ",)" else ")" : String) : Str)).length ≤ 2 := by split <;> decide
  rw [e1]
  by_cases h : ts = []
  · subst h
    have : (Str.join ", " []).length = 0 := rfl
    omega
  · have := join_length_add ts h
    omega
def RepA (Q : VK) (x : V) (H : Hp) : Prop := ∃ a ns, x = .ref a ∧ H a = some (.tup (ns.map V.int)) ∧ LabN ns ∧ ∀ z : Str, z.length ≤ 200 → Q (.str z) H
def tRepT (te : TE) : TE := fun σ H Q => te σ H fun x H1 => RepA Q x H1
theorem repT_ {te : TE} {σ : L2.St} {H : Hp} {Q : VK} : tRepT te σ H Q = te σ H fun x H1 => RepA Q x H1 := rfl
theorem RepA.go {Q : VK} {a : Addr} {ns : List Int} {H : Hp} (h : H a = some (.tup (ns.map V.int))) (l : LabN ns) (q : ∀ z : Str, z.length ≤ 200 → Q (.str z) H) : RepA Q (.ref a) H := ⟨a, ns, rfl, h, l, q⟩
theorem pe_repT {X : Cx} {j : Nat} {e : Expr} {t : TE} {pos : Pos} (hr : Room j X.A) (he : PE X e t) : PE X (.FormattedValue e 114 none pos) (tRepT t) := by
  intro pins s σ H Q I h
  refine wpAny_FormattedValue_repr (thn (he pins s σ H _ I h) fun u s1 ⟨x, H1, I1, r1, a, ns, ex, hp, ⟨l8, hb⟩, q⟩ => ?_)
  subst ex
  obtain rfl : u = Value.ref a := r1
  obtain ⟨its, rv, p, hz⟩ := I1.tuple (SqT.of hp)
  obtain ⟨o, ho, hc, n, hd⟩ := (show s1.heap.IsTuple a its.toArray from p)
  have pl := piled_ints hb
  have tl := tupleText_le (ns.map fun n => Str.ofString (toString n))
  have sz : (tupleText (ns.map fun n => Str.ofString (toString n))).length ≤ 200 := by omega
  have sz2 : (tupleText (ns.map fun n => Str.ofString (toString n))).length ≤ sizeLine := Nat.le_trans sz (by decide)
  have un := hr.un
  refine wpAny_pyReprObj_tuple (o := o) (items := its.toArray) (n := n) (ts := ns.map fun n => Str.ofString (toString n)) (g := []) ⟨o, ho, hc⟩ hr.gd (fun c hc => by cases hc) (by omega) ho hd (by rw [List.toList_toArray]; exact repr_ints rv hb) (fun u tk => ?_) sz2
  refine PyProof.Rows.formatField_str (fun t' tk' => ?_) sz2
  exact ⟨.str (tupleText (ns.map fun n => Str.ofString (toString n))), H1, (I1.tok _).tok _, ⟨t', rfl⟩, q _ sz⟩
def rIsiN (K : PySem.W.Frag) : List V → Hp → VK → Prop := fun xs H Q => rIsiE K xs H Q ∨ rIsiC K xs H Q
theorem call_isiN {X : Cx} : CallR X (.builtin "isinstance") (rIsiN X.K) := fun pins s σ H xs us Q I r h => h.elim (fun h => call_isiE pins s σ H xs us Q I r h) fun h => call_isiC pins s σ H xs us Q I r h
theorem isiN_exc {K : PySem.W.Frag} {a C C' : Addr} {b : Bool} {H : Hp} {Q : VK} (ie : IsExc H a C' none) (Z : ExcI K C') (f : PySem.W.kitOne K (.ref C') (.ref C) = some b) (q : Q (.bl b) H) : rIsiN K [.ref a, .ref C] H Q := .inl ⟨a, C', none, .ref C, b, rfl, .inr ⟨_, rfl⟩, ie, (fun d' e => by cases e), Z, f, q⟩
end Sv
namespace Sv
open PySem PySem.Spec PyProof.Rows L2
end Sv
local macro_rules | `(tactic| walk_at "sv") => `(tactic| try simp only [List.map_cons, List.map_nil, List.getD_cons_zero, List.getD_cons_succ, Sv.seq_, Sv.dget_, Sv.din_, Sv.dnotin_, Sv.dput_, Sv.methT_, Sv.raiseI_, Sv.sfldX_, Sv.xinit_, Sv.fldE_, Sv.fmt_, Sv.dnewT_, Sv.repT_, Sv.ifx_, Sv.ifR_t, Sv.ifR_f, Sv.comp_, Sv.setComp_, Sv.yes_, Sv.gsub_, Sv.jn0_, Sv.jnC_, Sv.raise_, Sv.asnx_, Sv.asrt_, Sv.next_, Sv.ret_, Sv.drop_, Sv.ifS_, Sv.asg_, Sv.gname_, Sv.var_, Sv.ex_, Sv.exb_, Sv.c_, Sv.op_, Sv.un_, Sv.test_, Sv.tB_, Sv.and_, Sv.or_, Sv.not_, Sv.andV_, Sv.orV_, Sv.notV_, Sv.rI0_, Sv.rU_, Sv.ilist_, Sv.cxK2, Sv.rI_, Sv.rEqI_, Sv.rNeI_, Sv.rEqS_, Sv.rNeS_, Sv.nil_, Sv.cons_, Sv.tup_, Sv.lst_, Sv.call_, Sv.cb_, Sv.for_, Sv.rng1_, Sv.fld_, Sv.sfld_, Sv.make_, Sv.methA_, Sv.rNeB_, Sv.rEqB_, Sv.slice_, Sv.part_, Sv.nopart_, Sv.max_, Sv.bm_, Sv.tyInt_, Sv.tyStr_, Sv.cxK, Sv.brS_t, Sv.brS_f, Sv.brA_t, Sv.brA_f, Sv.brO_t, Sv.brO_f, Sv.brAV_t, Sv.brAV_f, Sv.brOV_t, Sv.brOV_f, Bool.not_true, Bool.not_false, true_and, eq_self, decide_true, decide_false, if_true, if_false, Bool.false_eq_true,  List.getElem?_cons_zero, List.getElem?_cons_succ, List.set_cons_zero, List.set_cons_succ])
local macro_rules | `(tactic| walk_at "svn") => `(tactic| try simp only [List.map_cons, List.map_nil, List.getD_cons_zero, List.getD_cons_succ, Sv.seq_, Sv.dget_, Sv.din_, Sv.dnotin_, Sv.dput_, Sv.methT_, Sv.raiseI_, Sv.sfldX_, Sv.xinit_, Sv.fldE_, Sv.fmt_, Sv.dnewT_, Sv.repT_, Sv.ifx_, Sv.ifR_t, Sv.ifR_f, Sv.comp_, Sv.setComp_, Sv.yes_, Sv.gsub_, Sv.jn0_, Sv.jnC_, Sv.raise_, Sv.asnx_, Sv.asrt_, Sv.next_, Sv.ret_, Sv.drop_, Sv.ifS_, Sv.asg_, Sv.gname_, Sv.var_, Sv.ex_, Sv.exb_, Sv.c_, Sv.op_, Sv.un_, Sv.test_, Sv.tB_, Sv.and_, Sv.or_, Sv.not_, Sv.andV_, Sv.orV_, Sv.notV_, Sv.rI0_, Sv.rU_, Sv.ilist_, Sv.cxK2, Int.reduceEq, Sv.rI_, Sv.rEqI_, Sv.rNeI_, Sv.rEqS_, Sv.rNeS_, Sv.nil_, Sv.cons_, Sv.tup_, Sv.lst_, Sv.call_, Sv.cb_, Sv.for_, Sv.rng1_, Sv.fld_, Sv.sfld_, Sv.make_, Sv.methA_, Sv.rNeB_, Sv.rEqB_, Sv.slice_, Sv.part_, Sv.nopart_, Sv.max_, Sv.bm_, Sv.tyInt_, Sv.tyStr_, Sv.cxK, Sv.brS_t, Sv.brS_f, Sv.brA_t, Sv.brA_f, Sv.brO_t, Sv.brO_f, Sv.brAV_t, Sv.brAV_f, Sv.brOV_t, Sv.brOV_f, Bool.not_true, Bool.not_false, true_and, eq_self, decide_true, decide_false, if_true, if_false, Bool.false_eq_true,  List.getElem?_cons_zero, List.getElem?_cons_succ, List.set_cons_zero, List.set_cons_succ])
local macro_rules | `(tactic| walk_at "ix") => `(tactic| repeat (first | refine Sv.ixT_go (i := 0) (L2.SqT.of (by assumption)) rfl ?_ | refine Sv.ixT_go (i := 1) (L2.SqT.of (by assumption)) rfl ?_ | simp only [Int.zero_add, List.map_cons, List.map_nil, List.getD_cons_zero, List.getD_cons_succ, Sv.seq_, Sv.dget_, Sv.din_, Sv.dnotin_, Sv.dput_, Sv.methT_, Sv.raiseI_, Sv.sfldX_, Sv.xinit_, Sv.fldE_, Sv.fmt_, Sv.dnewT_, Sv.repT_, Sv.ifx_, Sv.ifR_t, Sv.ifR_f, Sv.comp_, Sv.setComp_, Sv.yes_, Sv.gsub_, Sv.jn0_, Sv.jnC_, Sv.raise_, Sv.asnx_, Sv.asrt_, Sv.next_, Sv.ret_, Sv.drop_, Sv.ifS_, Sv.asg_, Sv.gname_, Sv.var_, Sv.ex_, Sv.exb_, Sv.c_, Sv.op_, Sv.un_, Sv.test_, Sv.tB_, Sv.and_, Sv.or_, Sv.not_, Sv.andV_, Sv.orV_, Sv.notV_, Sv.rI0_, Sv.rU_, Sv.ilist_, Sv.cxK2, Sv.rI_, Sv.rEqI_, Sv.rNeI_, Sv.rEqS_, Sv.rNeS_, Sv.nil_, Sv.cons_, Sv.tup_, Sv.lst_, Sv.call_, Sv.cb_, Sv.for_, Sv.rng1_, Sv.fld_, Sv.sfld_, Sv.make_, Sv.methA_, Sv.rNeB_, Sv.rEqB_, Sv.slice_, Sv.part_, Sv.nopart_, Sv.max_, Sv.bm_, Sv.tyInt_, Sv.tyStr_, Sv.cxK, Sv.brS_t, Sv.brS_f, Sv.brA_t, Sv.brA_f, Sv.brO_t, Sv.brO_f, Sv.brAV_t, Sv.brAV_f, Sv.brOV_t, Sv.brOV_f, Bool.not_true, Bool.not_false, true_and, eq_self, decide_true, decide_false, if_true, if_false, Bool.false_eq_true,  List.getElem?_cons_zero, List.getElem?_cons_succ, List.set_cons_zero, List.set_cons_succ]))
namespace K45
open PySem L2 Sv
def top (i : Nat) : Stmt := PySem.Challenge.pw_sieve_k45_deeds_at_a_table.main.body.getD i (.Pass ⟨0, 0, 0, 0⟩)
abbrev s_OutOfTime___init__ : Stmt := inClass (top 2) 0
theorem st_OutOfTime___init__ {v0 v1 : V} : start ["self", "moment"] [v0, v1] = [some v0, some v1] := rfl
theorem sc_OutOfTime___init__ : FnScope ["self", "moment"] ["self", "moment"] (defScope s_OutOfTime___init__) := ⟨rfl, rfl, rfl, by decide +kernel, rfl, by decide +kernel, by decide +kernel⟩
abbrev s_flip : Stmt := top 7
theorem st_flip {v0 : V} : start ["label"] [v0] = [some v0] := rfl
theorem sc_flip : FnScope ["label"] ["label"] (defScope s_flip) := ⟨rfl, rfl, rfl, by decide +kernel, rfl, by decide +kernel, by decide +kernel⟩
abbrev s_Talk___init__ : Stmt := inClass (top 8) 0
theorem st_Talk___init__ {v0 v1 v2 v3 : V} : start ["self", "label", "sent", "until"] [v0, v1, v2, v3] = [some v0, some v1, some v2, some v3] := rfl
theorem sc_Talk___init__ : FnScope ["self", "label", "sent", "until"] ["self", "label", "sent", "until"] (defScope s_Talk___init__) := ⟨rfl, rfl, rfl, by decide +kernel, rfl, by decide +kernel, by decide +kernel⟩
abbrev s_Talk_has_both_farewells : Stmt := inClass (top 8) 1
theorem st_Talk_has_both_farewells {v0 : V} : start ["self"] [v0] = [some v0] := rfl
theorem sc_Talk_has_both_farewells : FnScope ["self"] ["self"] (defScope s_Talk_has_both_farewells) := ⟨rfl, rfl, rfl, by decide +kernel, rfl, by decide +kernel, by decide +kernel⟩
abbrev s_Talk_outgoing : Stmt := inClass (top 8) 2
theorem st_Talk_outgoing {v0 v1 : V} : start ["self", "label"] [v0, v1] = [some v0, some v1] := rfl
theorem sc_Talk_outgoing : FnScope ["self", "label"] ["self", "label"] (defScope s_Talk_outgoing) := ⟨rfl, rfl, rfl, by decide +kernel, rfl, by decide +kernel, by decide +kernel⟩
abbrev s_Table___init__ : Stmt := inClass (top 9) 0
theorem st_Table___init__ {v0 v1 v2 v3 : V} : start ["self", "short", "long", "most"] [v0, v1, v2, v3] = [some v0, some v1, some v2, some v3] := rfl
theorem sc_Table___init__ : FnScope ["self", "short", "long", "most"] ["self", "short", "long", "most"] (defScope s_Table___init__) := ⟨rfl, rfl, rfl, by decide +kernel, rfl, by decide +kernel, by decide +kernel⟩
abbrev s_Table_keep : Stmt := inClass (top 9) 1
theorem st_Table_keep {v0 v1 : V} : start ["self", "talks", "talk"] [v0, v1] = [some v0, some v1, none] := rfl
theorem sc_Table_keep : FnScope ["self", "talks", "talk"] ["self", "talks"] (defScope s_Table_keep) := ⟨rfl, rfl, rfl, by decide +kernel, rfl, by decide +kernel, by decide +kernel⟩
abbrev s_Table_at : Stmt := inClass (top 9) 2
theorem st_Table_at {v0 v1 : V} : start ["self", "moment"] [v0, v1] = [some v0, some v1] := rfl
theorem sc_Table_at : FnScope ["self", "moment"] ["self", "moment"] (defScope s_Table_at) := ⟨rfl, rfl, rfl, by decide +kernel, rfl, by decide +kernel, by decide +kernel⟩
abbrev s_Table_turn : Stmt := inClass (top 9) 3
theorem st_Table_turn {v0 v1 : V} : start ["self", "label", "talk"] [v0, v1] = [some v0, some v1, none] := rfl
theorem sc_Table_turn : FnScope ["self", "label", "talk"] ["self", "label"] (defScope s_Table_turn) := ⟨rfl, rfl, rfl, by decide +kernel, rfl, by decide +kernel, by decide +kernel⟩
abbrev s_Table_free : Stmt := inClass (top 9) 4
theorem st_Table_free {v0 v1 v2 : V} : start ["self", "label", "sent", "back"] [v0, v1, v2] = [some v0, some v1, some v2, none] := rfl
theorem sc_Table_free : FnScope ["self", "label", "sent", "back"] ["self", "label", "sent"] (defScope s_Table_free) := ⟨rfl, rfl, rfl, by decide +kernel, rfl, by decide +kernel, by decide +kernel⟩
abbrev s_Table_begin : Stmt := inClass (top 9) 5
theorem st_Table_begin {v0 v1 v2 : V} : start ["self", "label", "sent"] [v0, v1, v2] = [some v0, some v1, some v2] := rfl
theorem sc_Table_begin : FnScope ["self", "label", "sent"] ["self", "label", "sent"] (defScope s_Table_begin) := ⟨rfl, rfl, rfl, by decide +kernel, rfl, by decide +kernel, by decide +kernel⟩
abbrev s_Table_go_on : Stmt := inClass (top 9) 6
theorem st_Table_go_on {v0 v1 v2 : V} : start ["self", "label", "last", "talk"] [v0, v1, v2] = [some v0, some v1, some v2, none] := rfl
theorem sc_Table_go_on : FnScope ["self", "label", "last", "talk"] ["self", "label", "last"] (defScope s_Table_go_on) := ⟨rfl, rfl, rfl, by decide +kernel, rfl, by decide +kernel, by decide +kernel⟩
abbrev s_Table_is_full : Stmt := inClass (top 9) 7
theorem st_Table_is_full {v0 : V} : start ["self"] [v0] = [some v0] := rfl
theorem sc_Table_is_full : FnScope ["self"] ["self"] (defScope s_Table_is_full) := ⟨rfl, rfl, rfl, by decide +kernel, rfl, by decide +kernel, by decide +kernel⟩
abbrev s_Table_standing : Stmt := inClass (top 9) 8
theorem st_Table_standing {v0 : V} : start ["self"] [v0] = [some v0] := rfl
theorem sc_Table_standing : FnScope ["self"] ["self"] (defScope s_Table_standing) := ⟨rfl, rfl, rfl, by decide +kernel, rfl, by decide +kernel, by decide +kernel⟩
abbrev s__law_cell_at : Stmt := top 11
theorem st__law_cell_at {v0 v1 : V} : start ["_law_script", "_law_k"] [v0, v1] = [some v0, some v1] := rfl
theorem sc__law_cell_at : FnScope ["_law_script", "_law_k"] ["_law_script", "_law_k"] (defScope s__law_cell_at) := ⟨rfl, rfl, rfl, by decide +kernel, rfl, by decide +kernel, by decide +kernel⟩
abbrev s__law_whole : Stmt := top 12
theorem st__law_whole {v0 : V} : start ["_law_found"] [v0] = [some v0] := rfl
theorem sc__law_whole : FnScope ["_law_found"] ["_law_found"] (defScope s__law_whole) := ⟨rfl, rfl, rfl, by decide +kernel, rfl, by decide +kernel, by decide +kernel⟩
abbrev s__law_stream : Stmt := top 13
theorem st__law_stream {v0 v1 : V} : start ["_law_cell", "_law_many", "_law_found", "_law_number", "_law_k"] [v0, v1] = [some v0, some v1, none, none, none] := rfl
theorem sc__law_stream : FnScope ["_law_cell", "_law_many", "_law_found", "_law_number", "_law_k"] ["_law_cell", "_law_many"] (defScope s__law_stream) := ⟨rfl, rfl, rfl, by decide +kernel, rfl, by decide +kernel, by decide +kernel⟩
abbrev s__law_flip : Stmt := top 14
theorem st__law_flip {v0 : V} : start ["_law_label_here"] [v0] = [some v0] := rfl
theorem sc__law_flip : FnScope ["_law_label_here"] ["_law_label_here"] (defScope s__law_flip) := ⟨rfl, rfl, rfl, by decide +kernel, rfl, by decide +kernel, by decide +kernel⟩
abbrev s__law_ends : Stmt := top 15
theorem st__law_ends {v0 : V} : start ["_law_cell", "_law_draws", "_law_kind", "_law_one", "_law_two", "_law_kinds"] [v0] = [some v0, none, none, none, none, none] := rfl
theorem sc__law_ends : FnScope ["_law_cell", "_law_draws", "_law_kind", "_law_one", "_law_two", "_law_kinds"] ["_law_cell"] (defScope s__law_ends) := ⟨rfl, rfl, rfl, by decide +kernel, rfl, by decide +kernel, by decide +kernel⟩
abbrev s__law_label : Stmt := top 16
theorem st__law_label {v0 v1 : V} : start ["_law_draw", "_law_ends_here", "_law_kinds", "_law_some"] [v0, v1] = [some v0, some v1, none, none] := rfl
theorem sc__law_label : FnScope ["_law_draw", "_law_ends_here", "_law_kinds", "_law_some"] ["_law_draw", "_law_ends_here"] (defScope s__law_label) := ⟨rfl, rfl, rfl, by decide +kernel, rfl, by decide +kernel, by decide +kernel⟩
abbrev s__law_at : Stmt := top 17
theorem st__law_at {v0 v1 : V} : start ["_law_talks", "_law_label_here", "_law_k"] [v0, v1] = [some v0, some v1, none] := rfl
theorem sc__law_at : FnScope ["_law_talks", "_law_label_here", "_law_k"] ["_law_talks", "_law_label_here"] (defScope s__law_at) := ⟨rfl, rfl, rfl, by decide +kernel, rfl, by decide +kernel, by decide +kernel⟩
abbrev s__law_free : Stmt := top 18
theorem st__law_free {v0 v1 v2 : V} : start ["_law_talks", "_law_label_here", "_law_sent", "_law_key"] [v0, v1, v2] = [some v0, some v1, some v2, none] := rfl
theorem sc__law_free : FnScope ["_law_talks", "_law_label_here", "_law_sent", "_law_key"] ["_law_talks", "_law_label_here", "_law_sent"] (defScope s__law_free) := ⟨rfl, rfl, rfl, by decide +kernel, rfl, by decide +kernel, by decide +kernel⟩
abbrev s__law_begun : Stmt := top 19
theorem st__law_begun {v0 v1 v2 v3 v4 v5 : V} : start ["_law_table", "_law_talks", "_law_time", "_law_spans", "_law_label_here", "_law_sent", "_law_told", "e"] [v0, v1, v2, v3, v4, v5] = [some v0, some v1, some v2, some v3, some v4, some v5, none, none] := rfl
theorem sc__law_begun : FnScope ["_law_table", "_law_talks", "_law_time", "_law_spans", "_law_label_here", "_law_sent", "_law_told", "e"] ["_law_table", "_law_talks", "_law_time", "_law_spans", "_law_label_here", "_law_sent"] (defScope s__law_begun) := ⟨rfl, rfl, rfl, by decide +kernel, rfl, by decide +kernel, by decide +kernel⟩
abbrev s__law_gone : Stmt := top 20
theorem st__law_gone {v0 v1 v2 v3 v4 v5 : V} : start ["_law_table", "_law_talks", "_law_time", "_law_spans", "_law_label_here", "_law_last", "_law_told", "_law_found", "e", "_law_at_here", "_law_came", "_law_sent", "_law_answered", "_law_until", "_law_onward", "_law_back", "_law_due", "_law_talk"] [v0, v1, v2, v3, v4, v5] = [some v0, some v1, some v2, some v3, some v4, some v5, none, none, none, none, none, none, none, none, none, none, none, none] := rfl
theorem sc__law_gone : FnScope ["_law_table", "_law_talks", "_law_time", "_law_spans", "_law_label_here", "_law_last", "_law_told", "_law_found", "e", "_law_at_here", "_law_came", "_law_sent", "_law_answered", "_law_until", "_law_onward", "_law_back", "_law_due", "_law_talk"] ["_law_table", "_law_talks", "_law_time", "_law_spans", "_law_label_here", "_law_last"] (defScope s__law_gone) := ⟨rfl, rfl, rfl, by decide +kernel, rfl, by decide +kernel, by decide +kernel⟩
abbrev s__law_late : Stmt := top 21
theorem st__law_late {v0 v1 v2 : V} : start ["_law_table", "_law_time", "_law_moment_here", "_law_told", "e"] [v0, v1, v2] = [some v0, some v1, some v2, none, none] := rfl
theorem sc__law_late : FnScope ["_law_table", "_law_time", "_law_moment_here", "_law_told", "e"] ["_law_table", "_law_time", "_law_moment_here"] (defScope s__law_late) := ⟨rfl, rfl, rfl, by decide +kernel, rfl, by decide +kernel, by decide +kernel⟩
abbrev s__law_moment : Stmt := top 22
theorem st__law_moment {v0 v1 v2 : V} : start ["_law_time", "_law_talks", "_law_draws"] [v0, v1, v2] = [some v0, some v1, some v2] := rfl
theorem sc__law_moment : FnScope ["_law_time", "_law_talks", "_law_draws"] ["_law_time", "_law_talks", "_law_draws"] (defScope s__law_moment) := ⟨rfl, rfl, rfl, by decide +kernel, rfl, by decide +kernel, by decide +kernel⟩
abbrev s__law_deed : Stmt := top 23
theorem st__law_deed {v0 v1 v2 v3 v4 : V} : start ["_law_table", "_law_state", "_law_spans", "_law_draws", "_law_ends_here", "_law_time", "_law_talks", "_law_way", "_law_moment_here", "_law_label_here", "_law_talk"] [v0, v1, v2, v3, v4] = [some v0, some v1, some v2, some v3, some v4, none, none, none, none, none, none] := rfl
theorem sc__law_deed : FnScope ["_law_table", "_law_state", "_law_spans", "_law_draws", "_law_ends_here", "_law_time", "_law_talks", "_law_way", "_law_moment_here", "_law_label_here", "_law_talk"] ["_law_table", "_law_state", "_law_spans", "_law_draws", "_law_ends_here"] (defScope s__law_deed) := ⟨rfl, rfl, rfl, by decide +kernel, rfl, by decide +kernel, by decide +kernel⟩
abbrev s__law_looks : Stmt := top 24
theorem st__law_looks {v0 v1 v2 v3 v4 v5 : V} : start ["_law_table", "_law_state", "_law_most", "_law_draws", "_law_ends_here", "_law_held", "_law_talks", "_law_label_here", "_law_sent", "_law_at_here", "_law_turn", "_law_told", "_law_found", "_law_due"] [v0, v1, v2, v3, v4, v5] = [some v0, some v1, some v2, some v3, some v4, some v5, none, none, none, none, none, none, none, none] := rfl
theorem sc__law_looks : FnScope ["_law_table", "_law_state", "_law_most", "_law_draws", "_law_ends_here", "_law_held", "_law_talks", "_law_label_here", "_law_sent", "_law_at_here", "_law_turn", "_law_told", "_law_found", "_law_due"] ["_law_table", "_law_state", "_law_most", "_law_draws", "_law_ends_here", "_law_held"] (defScope s__law_looks) := ⟨rfl, rfl, rfl, by decide +kernel, rfl, by decide +kernel, by decide +kernel⟩
abbrev s_law : Stmt := top 25
theorem st_law {v0 : V} : start ["_law_script", "_law_ends_here", "_law_spans", "_law_cell", "_law_top", "_law_tables", "_law_states", "_law_held", "_law_draws", "_law_k", "_law_state", "_law_found", "_law_due"] [v0] = [some v0, none, none, none, none, none, none, none, none, none, none, none, none] := rfl
theorem sc_law : FnScope ["_law_script", "_law_ends_here", "_law_spans", "_law_cell", "_law_top", "_law_tables", "_law_states", "_law_held", "_law_draws", "_law_k", "_law_state", "_law_found", "_law_due"] ["_law_script"] (defScope s_law) := ⟨rfl, rfl, rfl, by decide +kernel, rfl, by decide +kernel, by decide +kernel⟩
section
variable {P : Program} {w : World} {K : PySem.W.Frag} {mg : Str → Option Value} {base : Heap} {f : Addr} {fd : FuncData}
theorem ok_cell (F : Fun K "_law_cell_at" "_law_cell_at" s__law_cell_at f fd) (b_len : mg "len" = none) : FnOk P w K mg base CX0 1 f fd ["_law_script", "_law_k"] (spCell K) := by
  refine F.ok sc__law_cell_at (fun vs H Q E h => ?_) (fun cdv A outer s H vs Q E hr h => ?_)
  · obtain ⟨a, ns, k, rfl, _⟩ := h
    rfl
  obtain ⟨a, ns, k, rfl, hS, h0, q⟩ := h
  obtain ⟨n, rfl⟩ := Int.eq_ofNat_of_zero_le h0
  refine ⟨_, (@pss_cons _ _ _ _ _ (@ps_if _ _ _ _ _ _ _ _ (@pt_cmpR _ _ _ _ _ _ _ _ op_lt (pv 1) (@pe_callB _ _ _ _ _ _ _ _ _ call_lenR rfl b_len bo_len (@pa_cons _ _ _ _ _ (pv 0) pa_nil (by rfl)) (by decide) (by decide) (by rfl) (by rfl)) (nomark _)) (@pss_one _ _ _ (@ps_ret _ _ _ _ (@pe_ix _ _ _ _ _ _ _ ix_list (pv 0) (pv 1) (fun _ _ => rfl)))) pss_nil) (@pss_one _ _ _ (@ps_ret _ _ _ _ pe_int))), ?_⟩
  rw [st__law_cell_at]
  walk_at "sv"
  refine LenR.lst hS ?_
  walk_at "sv"
  rw [List.length_map]
  refine BrS.dec (fun c => ?_) (fun c => ?_)
  · walk_at "sv"
    refine ixL_go hS (v := .int (cell ns n)) ?_ q
    have hn : n < ns.length := by omega
    rw [List.getElem?_map, List.getElem?_eq_getElem hn]
    unfold cell
    rw [Int.toNat_natCast, List.getD_eq_getElem?_getD, List.getElem?_eq_getElem hn]
    rfl
  · walk_at "sv"
    have hn : ns.length ≤ n := by omega
    have e : cell ns n = 0 := by
      unfold cell
      rw [Int.toNat_natCast, List.getD_eq_getElem?_getD, List.getElem?_eq_none hn]
      rfl
    rw [e] at q
    exact q
theorem ok_whole (F : Fun K "_law_whole" "_law_whole" s__law_whole f fd) (b_isinstance : mg "isinstance" = none) (b_int : mg "int" = none) (b_bool : mg "bool" = none) : FnOk P w K mg base CX0 1 f fd ["_law_found"] spWhole := by
  refine F.ok sc__law_whole (fun vs H Q E h => ?_) (fun cdv A outer s H vs Q E hr h => ?_)
  · obtain ⟨i, rfl, _⟩ := h
    rfl
  obtain ⟨i, rfl, q⟩ := h
  refine ⟨_, (@pss_one _ _ _ (@ps_ret _ _ _ _ (@pe_and _ _ _ _ _ _ _ (@pe_callB _ _ _ _ _ _ _ _ _ call_isi rfl b_isinstance bo_isinstance (@pa_cons _ _ _ _ _ (pv 0) (@pa_cons _ _ _ _ _ (@pe_bltn _ _ (.ty "int") (.type "int") _ rfl b_int bo_int rfl (by decide) (by decide)) pa_nil (by rfl)) (by rfl)) (by decide) (by decide) (by rfl) (by rfl)) (@pe_one _ _ _ _ _ (@pe_not _ _ _ _ (@pe_callB _ _ _ _ _ _ _ _ _ call_isi rfl b_isinstance bo_isinstance (@pa_cons _ _ _ _ _ (pv 0) (@pa_cons _ _ _ _ _ (@pe_bltn _ _ (.ty "bool") (.type "bool") _ rfl b_bool bo_bool rfl (by decide) (by decide)) pa_nil (by rfl)) (by rfl)) (by decide) (by decide) (by rfl) (by rfl))))))), ?_⟩
  rw [st__law_whole]
  walk_at "sv"
  refine isi_int ?_
  walk_at "sv"
  refine isi_int_bool ?_
  walk_at "sv"
  exact q
def spStream : Sp := fun vs H Q _ => ∃ (c : Int) (k : Nat), vs = [.int c, .int (k : Int)] ∧ k ≤ 100 ∧ ∀ (l : Addr) (ds : List Int) (H' : Hp), H l = none → Same H H' → H' l = some (.lst (ds.map V.int)) → ds.length = k → (∀ d ∈ ds, 0 ≤ d ∧ d < 4294967311) → Q (.ref l) H'
theorem ok_stream (F : Fun K "_law_stream" "_law_stream" s__law_stream f fd) (b_range : mg "range" = none) : FnOk P w K mg base CX0 1 f fd ["_law_cell", "_law_many"] spStream := by
  refine F.ok sc__law_stream (fun vs H Q E h => ?_) (fun cdv A outer s H vs Q E hr h => ?_)
  · obtain ⟨_, _, rfl, _⟩ := h
    rfl
  obtain ⟨c, k, rfl, hk, q⟩ := h
  refine ⟨_, (@pss_cons _ _ _ _ _ (@ps_set _ _ (2) _ _ _ _ sc__law_stream.nd rfl (Or.inl rfl) (@pe_lst _ _ _ _ pa_nil) (by rfl) (by first | exact .inl rfl | exact .inr rfl | assumption)) (@pss_cons _ _ _ _ _ (@ps_set _ _ (3) _ _ _ _ sc__law_stream.nd rfl (Or.inl rfl) (@pe_op _ _ _ _ _ _ _ _ op_add (@pe_op _ _ _ _ _ _ _ _ op_mod (pv 0) pe_int) pe_int) (by rfl) (by first | exact .inl rfl | exact .inr rfl | assumption)) (@pss_cons _ _ _ _ _ (@ps_for _ _ _ _ _ _ _ _ PassesOwn.never rfl (@pi_range1 _ _ _ _ _ _ rfl b_range (@pa_cons _ _ _ _ _ (pv 1) pa_nil (by rfl)) (by rfl)) (@pg_name _ _ (4) _ sc__law_stream.nd rfl (Or.inl rfl) (by first | exact .inl rfl | exact .inr rfl | assumption)) (@pss_cons _ _ _ _ _ (@ps_set _ _ (3) _ _ _ _ sc__law_stream.nd rfl (Or.inl rfl) (@pe_op _ _ _ _ _ _ _ _ op_mod (@pe_op _ _ _ _ _ _ _ _ op_add (@pe_op _ _ _ _ _ _ _ _ op_add (@pe_op _ _ _ _ _ _ _ _ op_mul (pv 3) (pv 3)) (@pe_op _ _ _ _ _ _ _ _ op_mul pe_int (pv 3))) (pv 4)) pe_int) (by rfl) (by first | exact .inl rfl | exact .inr rfl | assumption)) (@pss_one _ _ _ (@ps_expr _ _ _ _ (@pe_bm _ _ _ _ _ _ _ _ _ _ _ _ PySem.F.plainAttrs_list PySem.F.slot_list_append PySem.F.type_list_append mt_append (pv 2) (@pa_cons _ _ _ _ _ (pv 3) pa_nil (by rfl)) (by rfl) (by rfl) (by rfl) (by rfl) (by rfl)) (by rfl)))) (by intro _; rfl)) (@pss_one _ _ _ (@ps_ret _ _ _ _ (pv 2)))))), ?_⟩
  rw [st__law_stream]
  walk_at "sv"
  refine LstR.go (by simp) fun l hl => ?_
  have s0 := same_new hl (.lst [])
  refine ⟨by decide, ?_⟩
  have m0 := Int.emod_nonneg c (show (4294967311 : Int) ≠ 0 by decide)
  have m1 := Int.emod_lt_of_pos c (show (0 : Int) < 4294967311 by decide)
  generalize c % 4294967311 = n0 at *
  refine RngR.go (by omega) (by omega) ?_
  rw [Int.toNat_natCast]
  refine ForR.range (fun i σ H' => Same H H' ∧ ∃ (ds : List Int) (n : Int) (y : Option V), H' l = some (.lst (ds.map V.int)) ∧ ds.length = i ∧ (∀ d ∈ ds, 0 ≤ d ∧ d < 4294967311) ∧ 0 ≤ n ∧ n < 4295015582 ∧ σ = [some (.int c), some (.int (k : Int)), some (.ref l), some (.int n), y]) ⟨s0, [], n0 + 48271, none, upd_same, rfl, (fun d hd => by cases hd), by omega, by omega, rfl⟩ (fun i σ H1 hi pv => ?_) (fun σ H1 pv => ?_)
  · obtain ⟨sm, ds, n, y, hl1, dl, al, n1, n2, rfl⟩ := pv
    walk_at "sv"
    refine ⟨.inl ⟨by omega, by omega⟩, .inl ⟨by decide, by decide⟩, by decide, ?_⟩
    generalize n * n + 69621 * n + (0 + (i : Int)) = z
    have z0 := Int.emod_nonneg z (show (4294967311 : Int) ≠ 0 by decide)
    have z1 := Int.emod_lt_of_pos z (show (0 : Int) < 4294967311 by decide)
    generalize z % 4294967311 = d at *
    refine ⟨ty_lst hl1, ?_⟩
    refine app_go hl1 (by rw [List.length_map]; omega) ?_
    refine ⟨sm.put hl, ds ++ [d], d, _, by rw [upd_same, List.map_append]; rfl, by rw [List.length_append, dl]; rfl, (fun x hx => ?_), z0, by omega, rfl⟩
    rcases List.mem_append.mp hx with hx | hx
    · exact al x hx
    · obtain rfl := List.mem_singleton.mp hx
      exact ⟨z0, z1⟩
  · obtain ⟨sm, ds, n, y, hl1, dl, al, n1, n2, rfl⟩ := pv
    walk_at "sv"
    exact q l ds H1 hl sm hl1 dl al
theorem at_of {α : Type} {xs : List α} {i n : Nat} (h : i < n) (e : xs.length = n) : ∃ x, xs[i]? = some x := by
  subst e
  exact ⟨xs[i], List.getElem?_eq_getElem h⟩
def IsLab (H : Hp) (p : Addr) (k s n r f : Int) : Prop := H p = some (.tup [.int k, .int s, .int n, .int r, .int f])
theorem IsLab.same {H H' : Hp} {p : Addr} {k s n r f : Int} (h : IsLab H p k s n r f) (z : Same H H') : IsLab H' p k s n r f := z _ _ h
theorem IsLab.pt {H : Hp} {p : Addr} {k s n r f : Int} (h : IsLab H p k s n r f) : IsPt H p [k, s, n, r, f] := h
def spFlip : Sp := fun vs H Q _ => ∃ (p : Addr) (k s n r f : Int), vs = [.ref p] ∧ IsLab H p k s n r f ∧ ∀ q H', H q = none → Same H H' → IsLab H' q k r f s n → Q (.ref q) H'
theorem ok_flip (F : Fun K "flip" "flip" s_flip f fd) : FnOk P w K mg base CX0 1 f fd ["label"] spFlip := by
  refine F.ok sc_flip (fun vs H Q E h => ?_) (fun cdv A outer s H vs Q E hr h => ?_)
  · obtain ⟨_, _, _, _, _, _, rfl, _⟩ := h
    rfl
  obtain ⟨p, k, sd, n, r, fr, rfl, hp, q⟩ := h
  refine ⟨_, (@pss_one _ _ _ (@ps_ret _ _ _ _ (@pe_tup _ _ _ _ _ (@pa_cons _ _ _ _ _ (@pe_ix _ _ _ _ _ _ _ ix_tup (pv 0) pe_int (fun _ _ => rfl)) (@pa_cons _ _ _ _ _ (@pe_ix _ _ _ _ _ _ _ ix_tup (pv 0) pe_int (fun _ _ => rfl)) (@pa_cons _ _ _ _ _ (@pe_ix _ _ _ _ _ _ _ ix_tup (pv 0) pe_int (fun _ _ => rfl)) (@pa_cons _ _ _ _ _ (@pe_ix _ _ _ _ _ _ _ ix_tup (pv 0) pe_int (fun _ _ => rfl)) (@pa_cons _ _ _ _ _ (@pe_ix _ _ _ _ _ _ _ ix_tup (pv 0) pe_int (fun _ _ => rfl)) pa_nil (by rfl)) (by rfl)) (by rfl)) (by rfl)) (by rfl))))), ?_⟩
  rw [st_flip]
  walk_at "sv"
  refine ixT_go (i := 0) (SqT.of hp) rfl ?_
  walk_at "sv"
  refine ixT_go (i := 3) (SqT.of hp) rfl ?_
  walk_at "sv"
  refine ixT_go (i := 4) (SqT.of hp) rfl ?_
  walk_at "sv"
  refine ixT_go (i := 1) (SqT.of hp) rfl ?_
  walk_at "sv"
  refine ixT_go (i := 2) (SqT.of hp) rfl ?_
  walk_at "sv"
  refine TupR.go (by simp) fun t nt => ?_
  exact q _ _ nt (same_new nt _) upd_same
def flipL : List Int → List Int
  | [k, s, n, r, f] => [k, r, f, s, n]
  | ns => ns
theorem five {ns : List Int} (h : ns.length = 5) : ∃ k s n r f, ns = [k, s, n, r, f] := by
  match ns, h with
  | [k, s, n, r, f], _ => exact ⟨k, s, n, r, f, rfl⟩
theorem flip_len {ns : List Int} (h : ns.length = 5) : (flipL ns).length = 5 := by
  obtain ⟨k, s, n, r, f, rfl⟩ := five h
  rfl
theorem spFlip.go {H : Hp} {Q : VK} {E : XK} {p : Addr} {ns : List Int} (h : IsPt H p ns) (l : ns.length = 5) (q : ∀ r H', H r = none → Same H H' → IsPt H' r (flipL ns) → Q (.ref r) H') : spFlip [.ref p] H Q E := by
  obtain ⟨k, s, n, r, f, rfl⟩ := five l
  exact ⟨p, k, s, n, r, f, rfl, h, q⟩
def ky (ns : List Int) : List Key := ns.map Sum.inl
theorem ky_v (ns : List Int) : (ky ns).map kV = ns.map V.int := by
  unfold ky
  rw [List.map_map]
  rfl
theorem ky_inj {a b : List Int} (h : ky a = ky b) : a = b := (List.map_inj_right fun _ _ e => Sum.inl.inj e).mp h
theorem pt_key {H : Hp} {p : Addr} {ns : List Int} (h : IsPt H p ns) : H p = some (.tup ((ky ns).map kV)) := by
  rw [ky_v]
  exact h
section
variable {H : Hp} {Q : VK} {d p : Addr} {ns : List Int} {kvs : List (List Key × V)} {v : V}
theorem dinT_go {neg : Bool} (hd : H d = some (.dT kvs)) (hp : IsPt H p ns) (q : Q (.bl (if neg then !(valV kvs (ky ns)).isSome else (valV kvs (ky ns)).isSome)) H) : DInR neg (.ref d) (.ref p) H Q := ⟨d, _, rfl, DGet.t hd (pt_key hp), q⟩
theorem dgetT_go (hd : H d = some (.dT kvs)) (hp : IsPt H p ns) (e : valV kvs (ky ns) = some v) (q : Q v H) : DGetR (.ref d) (.ref p) H Q := ⟨d, v, rfl, e ▸ DGet.t hd (pt_key hp), q⟩
theorem dputT_go {R : Hp → Prop} (hd : H d = some (.dT kvs)) (hp : IsPt H p ns) (l : kvs.length ≤ 1000) (q : R (upd H d (.dT (putK kvs (ky ns) v)))) : DPutR (.ref d) (.ref p) v H R := ⟨d, _, rfl, DPut.t hd (pt_key hp) (small1000 l), q⟩
end
theorem putK_new {kvs : List (List Key × V)} {k : List Key} {v : V} (h : valV kvs k = none) : putK kvs k v = kvs ++ [(k, v)] := by
  unfold putK
  rw [valV_any, h, Option.isSome_none, if_neg Bool.false_ne_true]
structure Tk where
  lab : List Int
  sent : List Int
  ans : Bool
  til : Int
  fw : List (List Int)
def Tk.back (x : Tk) : List Int := flipL x.sent
def fwD (ks : List (List Int)) : List (List Key × V) := ks.map fun k => (ky k, .bl true)
theorem fw_val (k : List Int) : ∀ ks : List (List Int), (valV (fwD ks) (ky k)).isSome = decide (k ∈ ks)
  | [] => rfl
  | z :: ks => by
    by_cases e : z = k
    · subst e
      rw [show fwD (z :: ks) = (ky z, .bl true) :: fwD ks from rfl, valV_pos rfl, Option.isSome_some, decide_eq_true List.mem_cons_self]
    · rw [show fwD (z :: ks) = (ky z, .bl true) :: fwD ks from rfl, valV_neg (fun h => e (ky_inj h)), fw_val k ks]
      refine decide_eq_decide.mpr ⟨fun h => List.mem_cons_of_mem _ h, fun h => ?_⟩
      rcases List.mem_cons.mp h with h | h
      · exact absurd h.symm e
      · exact h
def addK (ks : List (List Int)) (k : List Int) : List (List Int) := if k ∈ ks then ks else ks ++ [k]
theorem fw_put (ks : List (List Int)) (k : List Int) : putK (fwD ks) (ky k) (.bl true) = fwD (addK ks k) := by
  unfold putK addK
  rw [valV_any, fw_val]
  by_cases h : k ∈ ks
  · rw [decide_eq_true h, if_pos rfl, if_pos h]
    unfold fwD
    rw [List.map_map]
    refine List.map_congr_left fun z _ => ?_
    show (if ky z = ky k then (ky z, V.bl true) else (ky z, V.bl true)) = _
    split <;> rfl
  · rw [decide_eq_false h, if_neg Bool.false_ne_true, if_neg h]
    unfold fwD
    rw [List.map_append]
    rfl
structure Tb where
  short : Int
  long : Int
  most : Int
  time : Int
  ts : List Tk
def keysD : List (Addr × Addr) → List Tk → List (List Key × V)
  | ad :: ads, x :: xs => (ky x.lab, .ref ad.1) :: (ky x.back, .ref ad.1) :: keysD ads xs
  | _, _ => []
def keysL (ts : List Tk) : List (List Int) := ts.flatMap fun x => [x.lab, x.back]
theorem keysL_cons (x : Tk) (ts : List Tk) : keysL (x :: ts) = x.lab :: x.back :: keysL ts := rfl
theorem keysD_keys : ∀ {ads : List (Addr × Addr)} {xs : List Tk}, ads.length = xs.length → (keysD ads xs).map (·.1) = (keysL xs).map ky
  | [], [], _ => rfl
  | ad :: ads, x :: xs, h => by
    rw [keysL_cons]
    show ky x.lab :: ky x.back :: (keysD ads xs).map (·.1) = ky x.lab :: ky x.back :: (keysL xs).map ky
    rw [keysD_keys (Nat.succ.inj h)]
theorem keysD_len : ∀ (ads : List (Addr × Addr)) (xs : List Tk), (keysD ads xs).length ≤ 2 * xs.length
  | [], [] => Nat.le_refl _
  | [], x :: xs => Nat.zero_le _
  | ad :: ads, [] => Nat.le_refl _
  | ad :: ads, x :: xs => by
    have := keysD_len ads xs
    show (keysD ads xs).length + 1 + 1 ≤ _
    rw [List.length_cons]
    omega
theorem keysD_snoc : ∀ {ads : List (Addr × Addr)} {xs : List Tk} {ad : Addr × Addr} {x : Tk}, ads.length = xs.length → keysD (ads ++ [ad]) (xs ++ [x]) = keysD ads xs ++ [(ky x.lab, .ref ad.1)] ++ [(ky x.back, .ref ad.1)]
  | [], [], _, _, _ => rfl
  | b :: ads, y :: xs, ad, x, h => by
    show _ :: _ :: keysD (ads ++ [ad]) (xs ++ [x]) = _ :: _ :: _
    rw [keysD_snoc (Nat.succ.inj h)]
    rfl
theorem valV_not {kvs : List (List Key × V)} {k : List Key} (h : k ∉ kvs.map (·.1)) : valV kvs k = none := by
  induction kvs with
  | nil => rfl
  | cons p r ih =>
    rw [List.map_cons] at h
    rw [valV_neg (fun e => h (e ▸ List.mem_cons_self)), ih fun m => h (List.mem_cons_of_mem _ m)]
def hasKey (k : List Int) (x : Tk) : Bool := decide (x.lab = k) || decide (x.back = k)
theorem keys_val (k : List Int) : ∀ {ads : List (Addr × Addr)} {xs : List Tk}, ads.length = xs.length →
    (valV (keysD ads xs) (ky k) = none ∧ xs.find? (hasKey k) = none) ∨ ∃ (i : Nat) (ad : Addr × Addr) (x : Tk), ads[i]? = some ad ∧ xs[i]? = some x ∧ hasKey k x = true ∧ valV (keysD ads xs) (ky k) = some (.ref ad.1) ∧ xs.find? (hasKey k) = some x
  | [], [], _ => .inl ⟨rfl, rfl⟩
  | ad :: ads, x :: xs, h => by
    by_cases e : x.lab = k
    · have hk : hasKey k x = true := by simp [hasKey, e]
      refine .inr ⟨0, ad, x, rfl, rfl, hk, ?_, ?_⟩
      · exact valV_pos (p := (ky x.lab, V.ref ad.1)) (by rw [← e])
      · rw [List.find?_cons, hk]
    · have n1 : valV (keysD (ad :: ads) (x :: xs)) (ky k) = valV ((ky x.back, V.ref ad.1) :: keysD ads xs) (ky k) := valV_neg (p := (ky x.lab, V.ref ad.1)) fun z => e (ky_inj z)
      by_cases e2 : x.back = k
      · have hk : hasKey k x = true := by simp [hasKey, e2]
        refine .inr ⟨0, ad, x, rfl, rfl, hk, ?_, ?_⟩
        · rw [n1]
          exact valV_pos (p := (ky x.back, V.ref ad.1)) (by rw [← e2])
        · rw [List.find?_cons, hk]
      · have hk : hasKey k x = false := by simp [hasKey, e, e2]
        have n2 : valV ((ky x.back, V.ref ad.1) :: keysD ads xs) (ky k) = valV (keysD ads xs) (ky k) := valV_neg (p := (ky x.back, V.ref ad.1)) fun z => e2 (ky_inj z)
        have f : (x :: xs).find? (hasKey k) = xs.find? (hasKey k) := by rw [List.find?_cons, hk]
        rw [n1, n2, f]
        rcases keys_val k (Nat.succ.inj h) with z | ⟨i, ad', x', z⟩
        · exact .inl z
        · exact .inr ⟨i + 1, ad', x', z⟩
def turnOf (ts : List Tk) (k : List Int) : Int := match ts.find? (hasKey k) with
  | none => 0
  | some x => if k = x.back then 3 else if x.ans = true then 2 else 1
def isKey (ts : List Tk) (k : List Int) : Bool := (ts.find? (hasKey k)).isSome
def freeOf (ts : List Tk) (k s : List Int) : Bool := !decide (k = flipL s) && !isKey ts k && !isKey ts (flipL s)
theorem isKey_iff {ts : List Tk} {k : List Int} : isKey ts k = true ↔ k ∈ keysL ts := by
  unfold isKey keysL
  rw [List.find?_isSome]
  constructor
  · rintro ⟨x, hx, h⟩
    rw [List.mem_flatMap]
    refine ⟨x, hx, ?_⟩
    unfold hasKey at h
    rw [Bool.or_eq_true, decide_eq_true_eq, decide_eq_true_eq] at h
    rcases h with rfl | rfl
    · exact List.mem_cons_self
    · exact List.mem_cons_of_mem _ List.mem_cons_self
  · intro h
    obtain ⟨x, hx, h⟩ := List.mem_flatMap.mp h
    refine ⟨x, hx, ?_⟩
    unfold hasKey
    rw [Bool.or_eq_true, decide_eq_true_eq, decide_eq_true_eq]
    rcases List.mem_cons.mp h with rfl | h
    · exact .inl rfl
    · exact .inr (List.mem_singleton.mp h).symm
structure TsOk (ts : List Tk) : Prop where
  five : ∀ x ∈ ts, x.lab.length = 5 ∧ x.sent.length = 5
  keys : (keysL ts).Nodup
  few : ts.length ≤ 200
theorem keysL_app (xs ys : List Tk) : keysL (xs ++ ys) = keysL xs ++ keysL ys := by
  unfold keysL
  rw [List.flatMap_append]
theorem keysL_sub {p : Tk → Bool} : ∀ ts : List Tk, (keysL (ts.filter p)).Sublist (keysL ts)
  | [] => .slnil
  | x :: ts => by
    rw [keysL_cons]
    by_cases h : p x = true
    · rw [List.filter_cons_of_pos h, keysL_cons]
      exact ((keysL_sub ts).cons₂ _).cons₂ _
    · rw [List.filter_cons_of_neg h]
      exact ((keysL_sub ts).cons _).cons _
theorem TsOk.filter {ts : List Tk} (h : TsOk ts) (p : Tk → Bool) : TsOk (ts.filter p) :=
  ⟨fun x hx => h.five x (List.mem_filter.mp hx).1, h.keys.sublist (keysL_sub ts), Nat.le_trans (List.length_filter_le _ _) h.few⟩
section
variable {C_Talk C_Table : Addr}
structure TxT (K : PySem.W.Frag) (C_Talk C_Table : Addr) : Prop where
  pg_Talk : PySem.W.plainGet K C_Talk Str.empty = true
  hd_Talk : PySem.W.hasDictIn K C_Talk = true
  po_Talk : PySem.W.plainOver K C_Talk = true
  sa_Talk : PySem.W.findIn K (.ref C_Talk) "__setattr__" = some (some (.builtin "object.__setattr__"))
  mk_Talk : PySem.W.makesIn K C_Talk = true
  kp_Talk : PySem.W.keepIn K (.ref C_Talk) = true
  n_onward : PySem.W.findIn K (.ref C_Talk) "onward" = some none
  n_sent : PySem.W.findIn K (.ref C_Talk) "sent" = some none
  n_back : PySem.W.findIn K (.ref C_Talk) "back" = some none
  n_answered : PySem.W.findIn K (.ref C_Talk) "answered" = some none
  n_until : PySem.W.findIn K (.ref C_Talk) "until" = some none
  n_farewells : PySem.W.findIn K (.ref C_Talk) "farewells" = some none
  pg_Table : PySem.W.plainGet K C_Table Str.empty = true
  hd_Table : PySem.W.hasDictIn K C_Table = true
  po_Table : PySem.W.plainOver K C_Table = true
  sa_Table : PySem.W.findIn K (.ref C_Table) "__setattr__" = some (some (.builtin "object.__setattr__"))
  mk_Table : PySem.W.makesIn K C_Table = true
  kp_Table : PySem.W.keepIn K (.ref C_Table) = true
  n_short : PySem.W.findIn K (.ref C_Table) "short" = some none
  n_long : PySem.W.findIn K (.ref C_Table) "long" = some none
  n_most : PySem.W.findIn K (.ref C_Table) "most" = some none
  n_time : PySem.W.findIn K (.ref C_Table) "time" = some none
  n_talks : PySem.W.findIn K (.ref C_Table) "talks" = some none
  n_by_key : PySem.W.findIn K (.ref C_Table) "by_key" = some none
theorem TxT.talk (T : TxT K C_Talk C_Table) : Cls K C_Talk := ⟨T.pg_Talk, T.hd_Talk, T.po_Talk, T.sa_Talk⟩
theorem TxT.table (T : TxT K C_Talk C_Table) : Cls K C_Table := ⟨T.pg_Table, T.hd_Table, T.po_Table, T.sa_Table⟩
def talkFs (p q r d : Addr) (x : Tk) : List (Str × V) := [("onward", .ref p), ("sent", .ref q), ("back", .ref r), ("answered", .bl x.ans), ("until", .int x.til), ("farewells", .ref d)]
def TkAt (C_Talk : Addr) (H : Hp) (ad : Addr × Addr) (x : Tk) : Prop := ∃ dx p q r, H ad.1 = some (.ins C_Talk dx (talkFs p q r ad.2 x)) ∧ IsPt H p x.lab ∧ IsPt H q x.sent ∧ IsPt H r x.back ∧ H ad.2 = some (.dT (fwD x.fw))
def tabFs (T : Tb) (l kd : Addr) : List (Str × V) := [("short", .int T.short), ("long", .int T.long), ("most", .int T.most), ("time", .int T.time), ("talks", .ref l), ("by_key", .ref kd)]
structure TabAt (C_Talk C_Table : Addr) (H : Hp) (t : Addr) (T : Tb) (dx l kd : Addr) (ads : List (Addr × Addr)) : Prop where
  tab : H t = some (.ins C_Table dx (tabFs T l kd))
  lst : H l = some (.lst (ads.map fun ad : Addr × Addr => V.ref ad.1))
  tks : All2 (TkAt C_Talk H) ads T.ts
  nd1 : (ads.map (·.1)).Nodup
  nd2 : (ads.map (·.2)).Nodup
  dic : H kd = some (.dT (keysD ads T.ts))
  ndk : kd ∉ ads.map (·.2)
def But (b : Addr) (H H' : Hp) : Prop := ∀ a o, a ≠ b → H a = some o → H' a = some o
theorem Same.but {b : Addr} {H H' : Hp} (h : Same H H') : But b H H' := fun a o _ e => h a o e
theorem But.trans {b : Addr} {H H' H'' : Hp} (h : But b H H') (k : But b H' H'') : But b H H'' := fun a o n e => k a o n (h a o n e)
theorem but_upd {b : Addr} {H : Hp} {o : HO} : But b H (upd H b o) := fun a o' n e => by
  rw [upd_ne n]
  exact e
theorem But.put {b c : Addr} {H H' : Hp} {o : HO} (h : But b H H') (n : H c = none) : But b H (upd H' c o) := fun a o' ne e => by
  rw [upd_ne (ne_of_none e n)]
  exact h a o' ne e
theorem But.pt {b p dx C : Addr} {H H' : Hp} {ns : List Int} {fs : List (Str × V)} (h : But b H H') (hb : H b = some (.ins C dx fs)) (hp : IsPt H p ns) : IsPt H' p ns := h p _ (fun e => by
  have hp : H p = some _ := hp
  rw [e, hb] at hp
  cases hp) hp
theorem But.free {b a : Addr} {o : HO} {H H' : Hp} (h : But b H H') (hb : H' b = some o) (n : H' a = none) : H a = none := by
  cases e : H a with
  | none => rfl
  | some o' =>
    have := h a o' (fun z => by rw [z, hb] at n; cases n) e
    rw [n] at this
    cases this
theorem look_hit {f : Str} {v : V} {r : List (Str × V)} : ((f, v) :: r).lookup f = some v := by
  rw [List.lookup_cons, beq_self_eq_true]
theorem look_skip {f g : Str} {v : V} {r : List (Str × V)} (h : f ≠ g) : ((g, v) :: r).lookup f = r.lookup f := by
  rw [List.lookup_cons, beq_eq_false_iff_ne.mpr h]
theorem putF_app {f : Str} {v : V} : ∀ {fs : List (Str × V)}, f ∉ fs.map (·.1) → putF f v fs = fs ++ [(f, v)]
  | [], _ => rfl
  | (g, x) :: r, h => by
    rw [List.map_cons] at h
    show (if g = f then (g, v) :: r else (g, x) :: putF f v r) = _
    rw [if_neg (fun e : g = f => h (by rw [← e]; exact List.mem_cons_self)), putF_app fun m => h (List.mem_cons_of_mem _ m)]
    rfl
theorem put_hit {f : Str} {v x : V} {r : List (Str × V)} : putF f v ((f, x) :: r) = (f, v) :: r := if_pos rfl
theorem put_skip {f g : Str} {v x : V} {r : List (Str × V)} (h : g ≠ f) : putF f v ((g, x) :: r) = (g, x) :: putF f v r := if_neg h
theorem sfld_new {f : Str} {y : V} {a C dx : Addr} {fs : List (Str × V)} {H : Hp} {R : Hp → Prop} (ks : List Str) (h : H a = some (.ins C dx fs)) (c : Cls K C) (n : NoAttr K C f) (e : fs.map (·.1) = ks) (nk : f ∉ ks) (l : ks.length < 1000) (q : ∀ H', But a H H' → H' a = some (.ins C dx (fs ++ [(f, y)])) → R H') : SFldR K f y (.ref a) H R := by
  subst e
  refine SFldR.go h c n (by rw [List.length_map] at l; exact l) ?_
  rw [putF_app nk]
  exact q _ but_upd upd_same
theorem sfld_set {f : Str} {y : V} {a C dx : Addr} {fs fs' : List (Str × V)} {H : Hp} {R : Hp → Prop} (h : H a = some (.ins C dx fs)) (c : Cls K C) (n : NoAttr K C f) (l : fs.length < 1000) (e : putF f y fs = fs') (q : ∀ H', But a H H' → H' a = some (.ins C dx fs') → R H') : SFldR K f y (.ref a) H R := by
  refine SFldR.go h c n l ?_
  rw [e]
  exact q _ but_upd upd_same
section
variable {p q r d l kd : Addr} {x : Tk} {B : Tb}
theorem tk_onward : (talkFs p q r d x).lookup ("onward" : Str) = some (.ref p) := look_hit
theorem tk_sent : (talkFs p q r d x).lookup ("sent" : Str) = some (.ref q) := (look_skip (by decide)).trans look_hit
theorem tk_back : (talkFs p q r d x).lookup ("back" : Str) = some (.ref r) := (look_skip (by decide)).trans ((look_skip (by decide)).trans look_hit)
theorem tk_answered : (talkFs p q r d x).lookup ("answered" : Str) = some (.bl x.ans) := (look_skip (by decide)).trans ((look_skip (by decide)).trans ((look_skip (by decide)).trans look_hit))
theorem tk_until : (talkFs p q r d x).lookup ("until" : Str) = some (.int x.til) := (look_skip (by decide)).trans ((look_skip (by decide)).trans ((look_skip (by decide)).trans ((look_skip (by decide)).trans look_hit)))
theorem tk_farewells : (talkFs p q r d x).lookup ("farewells" : Str) = some (.ref d) := (look_skip (by decide)).trans ((look_skip (by decide)).trans ((look_skip (by decide)).trans ((look_skip (by decide)).trans ((look_skip (by decide)).trans look_hit))))
theorem tb_short : (tabFs B l kd).lookup ("short" : Str) = some (.int B.short) := look_hit
theorem tb_long : (tabFs B l kd).lookup ("long" : Str) = some (.int B.long) := (look_skip (by decide)).trans look_hit
theorem tb_most : (tabFs B l kd).lookup ("most" : Str) = some (.int B.most) := (look_skip (by decide)).trans ((look_skip (by decide)).trans look_hit)
theorem tb_time : (tabFs B l kd).lookup ("time" : Str) = some (.int B.time) := (look_skip (by decide)).trans ((look_skip (by decide)).trans ((look_skip (by decide)).trans look_hit))
theorem tb_talks : (tabFs B l kd).lookup ("talks" : Str) = some (.ref l) := (look_skip (by decide)).trans ((look_skip (by decide)).trans ((look_skip (by decide)).trans ((look_skip (by decide)).trans look_hit)))
theorem tb_by_key : (tabFs B l kd).lookup ("by_key" : Str) = some (.ref kd) := (look_skip (by decide)).trans ((look_skip (by decide)).trans ((look_skip (by decide)).trans ((look_skip (by decide)).trans ((look_skip (by decide)).trans look_hit))))
theorem tab_no {m : Str} (h : m ∉ (["short", "long", "most", "time", "talks", "by_key"] : List Str)) : (tabFs B l kd).lookup m = none := by
  unfold tabFs
  rw [look_skip (fun e => h (by rw [e]; decide)), look_skip (fun e => h (by rw [e]; decide)), look_skip (fun e => h (by rw [e]; decide)), look_skip (fun e => h (by rw [e]; decide)), look_skip (fun e => h (by rw [e]; decide)), look_skip (fun e => h (by rw [e]; decide))]
  rfl
theorem talk_no {m : Str} (h : m ∉ (["onward", "sent", "back", "answered", "until", "farewells"] : List Str)) : (talkFs p q r d x).lookup m = none := by
  unfold talkFs
  rw [look_skip (fun e => h (by rw [e]; decide)), look_skip (fun e => h (by rw [e]; decide)), look_skip (fun e => h (by rw [e]; decide)), look_skip (fun e => h (by rw [e]; decide)), look_skip (fun e => h (by rw [e]; decide)), look_skip (fun e => h (by rw [e]; decide))]
  rfl
end
def spTalkI (C_Talk : Addr) : Sp := fun vs H Q _ => ∃ (a dx p q : Addr) (u : Int) (lab sent : List Int), vs = [.ref a, .ref p, .ref q, .int u] ∧ H a = some (.ins C_Talk dx []) ∧ IsPt H p lab ∧ IsPt H q sent ∧ sent.length = 5 ∧
  ∀ d H', H d = none → But a H H' → TkAt C_Talk H' (a, d) ⟨lab, sent, false, u, []⟩ → Q .non H'
theorem ok_Talk_init (F : Fun K "__init__" "Talk.__init__" s_Talk___init__ f fd) (g_flip : Fn P w K mg base "flip" 1 ["label"] spFlip) (T : TxT K C_Talk C_Table) : FnOk P w K mg base CX0 2 f fd ["self", "label", "sent", "until"] (spTalkI C_Talk) := by
  refine F.ok sc_Talk___init__ (fun vs H Q E h => ?_) (fun cdv A outer s H vs Q E hr h => ?_)
  · obtain ⟨_, _, _, _, _, _, _, rfl, _⟩ := h
    rfl
  obtain ⟨a, dx, p, q, u, lab, sent, rfl, ha, hp, hq, l5, k⟩ := h
  refine ⟨_, (@pss_cons _ _ _ _ _ (@ps_fld _ _ _ _ _ _ _ _ (pv 0) (pv 1) rfl) (@pss_cons _ _ _ _ _ (@ps_fld _ _ _ _ _ _ _ _ (pv 0) (pv 2) rfl) (@pss_cons _ _ _ _ _ (@ps_fld _ _ _ _ _ _ _ _ (pv 0) (@pe_fn _ _ _ _ _ _ _ _ _ _ _ g_flip hr (by decide) rfl (@pa_cons _ _ _ _ _ (pv 2) pa_nil (by rfl)) (by decide) (by rfl) (by rfl)) rfl) (@pss_cons _ _ _ _ _ (@ps_fld _ _ _ _ _ _ _ _ (pv 0) pe_bl rfl) (@pss_cons _ _ _ _ _ (@ps_fld _ _ _ _ _ _ _ _ (pv 0) (pv 3) rfl) (@pss_one _ _ _ (@ps_fld _ _ _ _ _ _ _ _ (pv 0) pe_dnewT rfl))))))), ?_⟩
  rw [st_Talk___init__]
  walk_at "sv"
  refine sfld_new [] ha T.talk T.n_onward rfl (by decide) (by decide) fun H1 b1 h1 => ?_
  walk_at "sv"
  refine sfld_new ["onward"] h1 T.talk T.n_sent rfl (by decide) (by decide) fun H2 b2 h2 => ?_
  have b12 := b1.trans b2
  walk_at "sv"
  refine spFlip.go (b12.pt ha hq) l5 fun r H3 nr s3 hr3 => ?_
  walk_at "sv"
  have h3 := s3 _ _ h2
  have b13 : But a H H3 := b12.trans (Same.but s3)
  refine sfld_new ["onward", "sent"] h3 T.talk T.n_back rfl (by decide) (by decide) fun H4 b4 h4 => ?_
  walk_at "sv"
  refine sfld_new ["onward", "sent", "back"] h4 T.talk T.n_answered rfl (by decide) (by decide) fun H5 b5 h5 => ?_
  walk_at "sv"
  refine sfld_new ["onward", "sent", "back", "answered"] h5 T.talk T.n_until rfl (by decide) (by decide) fun H6 b6 h6 => ?_
  walk_at "sv"
  intro d nd
  have s7 := same_new nd (.dT [])
  have hd7 : upd H6 d (.dT []) d = some (.dT []) := upd_same
  have h7 := s7 _ _ h6
  have nda : d ≠ a := fun e => by
    rw [e, h6] at nd
    cases nd
  generalize upd H6 d (.dT []) = H7 at *
  walk_at "sv"
  refine sfld_new ["onward", "sent", "back", "answered", "until"] h7 T.talk T.n_farewells rfl (by decide) (by decide) fun H8 b8 h8 => ?_
  have b36 := (b4.trans b5).trans b6
  have b38 := (b36.trans (Same.but s7)).trans b8
  have b18 := b13.trans b38
  have nd0 : H d = none := (b13.trans b36).free h6 nd
  exact k d H8 nd0 b18 ⟨dx, p, q, r, h8, b18.pt ha hp, b18.pt ha hq, b38.pt h3 hr3, b8 _ _ nda hd7⟩
def spTabI (C_Talk C_Table : Addr) : Sp := fun vs H Q _ => ∃ (t dx : Addr) (sh lo mo : Int), vs = [.ref t, .int sh, .int lo, .int mo] ∧ H t = some (.ins C_Table dx []) ∧
  ∀ l kd H', H l = none → H kd = none → But t H H' → TabAt C_Talk C_Table H' t ⟨sh, lo, mo, 0, []⟩ dx l kd [] → Q .non H'
theorem ok_Table_init (F : Fun K "__init__" "Table.__init__" s_Table___init__ f fd) (T : TxT K C_Talk C_Table) : FnOk P w K mg base CX0 1 f fd ["self", "short", "long", "most"] (spTabI C_Talk C_Table) := by
  refine F.ok sc_Table___init__ (fun vs H Q E h => ?_) (fun cdv A outer s H vs Q E hr h => ?_)
  · obtain ⟨_, _, _, _, _, rfl, _⟩ := h
    rfl
  obtain ⟨t, dx, sh, lo, mo, rfl, ht, k⟩ := h
  refine ⟨_, (@pss_cons _ _ _ _ _ (@ps_fld _ _ _ _ _ _ _ _ (pv 0) (pv 1) rfl) (@pss_cons _ _ _ _ _ (@ps_fld _ _ _ _ _ _ _ _ (pv 0) (pv 2) rfl) (@pss_cons _ _ _ _ _ (@ps_fld _ _ _ _ _ _ _ _ (pv 0) (pv 3) rfl) (@pss_cons _ _ _ _ _ (@ps_fld _ _ _ _ _ _ _ _ (pv 0) pe_int rfl) (@pss_cons _ _ _ _ _ (@ps_fld _ _ _ _ _ _ _ _ (pv 0) (@pe_lst _ _ _ _ pa_nil) rfl) (@pss_one _ _ _ (@ps_fld _ _ _ _ _ _ _ _ (pv 0) pe_dnewT rfl))))))), ?_⟩
  rw [st_Table___init__]
  walk_at "sv"
  refine sfld_new [] ht T.table T.n_short rfl (by decide) (by decide) fun H1 b1 h1 => ?_
  walk_at "sv"
  refine sfld_new ["short"] h1 T.table T.n_long rfl (by decide) (by decide) fun H2 b2 h2 => ?_
  walk_at "sv"
  refine sfld_new ["short", "long"] h2 T.table T.n_most rfl (by decide) (by decide) fun H3 b3 h3 => ?_
  walk_at "sv"
  refine sfld_new ["short", "long", "most"] h3 T.table T.n_time rfl (by decide) (by decide) fun H4 b4 h4 => ?_
  have b14 := ((b1.trans b2).trans b3).trans b4
  walk_at "sv"
  refine LstR.go (by simp) fun l nl => ?_
  have s5 := same_new nl (.lst [])
  have hl5 : upd H4 l (.lst []) l = some (.lst []) := upd_same
  have h5 := s5 _ _ h4
  have nlt : l ≠ t := fun e => by
    rw [e, h4] at nl
    cases nl
  generalize upd H4 l (.lst []) = H5 at *
  walk_at "sv"
  refine sfld_new ["short", "long", "most", "time"] h5 T.table T.n_talks rfl (by decide) (by decide) fun H6 b6 h6 => ?_
  have b16 := (b14.trans (Same.but s5)).trans b6
  have hl6 := b6 _ _ nlt hl5
  walk_at "sv"
  intro kd nk
  have s7 := same_new nk (.dT [])
  have hk7 : upd H6 kd (.dT []) kd = some (.dT []) := upd_same
  have h7 := s7 _ _ h6
  have hl7 := s7 _ _ hl6
  have nkt : kd ≠ t := fun e => by
    rw [e, h6] at nk
    cases nk
  generalize upd H6 kd (.dT []) = H7 at *
  walk_at "sv"
  refine sfld_new ["short", "long", "most", "time", "talks"] h7 T.table T.n_by_key rfl (by decide) (by decide) fun H8 b8 h8 => ?_
  have b18 := (b16.trans (Same.but s7)).trans b8
  exact k l kd H8 (b14.free h4 nl) (b16.free h6 nk) b18 ⟨h8, b8 _ _ nlt hl7, .nil, .nil, .nil, b8 _ _ nkt hk7, by simp⟩
end
section
variable {C_Talk C_Table : Addr}
def spBoth2 (C_Talk : Addr) : Sp := fun vs H Q _ => ∃ (ad : Addr × Addr) (x : Tk), vs = [.ref ad.1] ∧ TkAt C_Talk H ad x ∧ Q (.bl (decide (x.lab ∈ x.fw) && decide (x.back ∈ x.fw))) H
theorem ok_Talk_both (F : Fun K "has_both_farewells" "Talk.has_both_farewells" s_Talk_has_both_farewells f fd) (T : TxT K C_Talk C_Table) : FnOk P w K mg base CX0 1 f fd ["self"] (spBoth2 C_Talk) := by
  refine F.ok sc_Talk_has_both_farewells (fun vs H Q E h => ?_) (fun cdv A outer s H vs Q E hr h => ?_)
  · obtain ⟨_, _, rfl, _⟩ := h
    rfl
  obtain ⟨⟨a, d⟩, x, rfl, ⟨dx, p, q, r, ha, hp, hq, hr1, hd⟩, k⟩ := h
  refine ⟨_, (@pss_one _ _ _ (@ps_ret _ _ _ _ (@pe_and _ _ _ _ _ _ _ (@pe_cmp _ _ _ _ _ _ (@pc_din _ _ _ _ _ (hu_of hr) (@pe_fld _ _ _ _ _ (pv 0) rfl) (@pe_fld _ _ _ _ _ (pv 0) rfl)) (by with_unfolding_all rfl)) (@pe_one _ _ _ _ _ (@pe_cmp _ _ _ _ _ _ (@pc_din _ _ _ _ _ (hu_of hr) (@pe_fld _ _ _ _ _ (pv 0) rfl) (@pe_fld _ _ _ _ _ (pv 0) rfl)) (by with_unfolding_all rfl)))))), ?_⟩
  rw [st_Talk_has_both_farewells]
  walk_at "sv"
  refine FldR.go ha T.talk T.n_onward tk_onward ?_
  walk_at "sv"
  refine FldR.go ha T.talk T.n_farewells tk_farewells ?_
  refine dinT_go hd hp ?_
  rw [if_neg Bool.false_ne_true, fw_val]
  by_cases h1 : x.lab ∈ x.fw
  · rw [decide_eq_true h1] at k ⊢
    walk_at "sv"
    refine FldR.go ha T.talk T.n_back tk_back ?_
    walk_at "sv"
    refine FldR.go ha T.talk T.n_farewells tk_farewells ?_
    refine dinT_go hd hr1 ?_
    rw [if_neg Bool.false_ne_true, fw_val]
    exact k
  · rw [decide_eq_false h1] at k ⊢
    walk_at "sv"
    exact k
def spOut (C_Talk : Addr) : Sp := fun vs H Q _ => ∃ (ad : Addr × Addr) (x : Tk) (p : Addr) (ns : List Int), vs = [.ref ad.1, .ref p] ∧ TkAt C_Talk H ad x ∧ IsPt H p ns ∧ x.lab.length = 5 ∧ ∀ r H', Same H H' → IsPt H' r (if ns = x.back then flipL x.lab else x.sent) → Q (.ref r) H'
theorem ok_Talk_out (F : Fun K "outgoing" "Talk.outgoing" s_Talk_outgoing f fd) (g_flip : Fn P w K mg base "flip" 1 ["label"] spFlip) (T : TxT K C_Talk C_Table) : FnOk P w K mg base CX0 2 f fd ["self", "label"] (spOut C_Talk) := by
  refine F.ok sc_Talk_outgoing (fun vs H Q E h => ?_) (fun cdv A outer s H vs Q E hr h => ?_)
  · obtain ⟨_, _, _, _, rfl, _⟩ := h
    rfl
  obtain ⟨⟨a, d⟩, x, p', ns, rfl, ⟨dx, p, q, r, ha, hp, hq, hr1, hd⟩, hp', l5, k⟩ := h
  refine ⟨_, (@pss_one _ _ _ (@ps_ret _ _ _ _ (@pe_ifExp _ _ _ _ _ _ _ _ (@pt_cmpR _ _ _ _ _ _ _ _ (op_eqD hr.units) (pv 1) (@pe_fld _ _ _ _ _ (pv 0) rfl) (nomark _)) (@pe_fn _ _ _ _ _ _ _ _ _ _ _ g_flip hr (by decide) rfl (@pa_cons _ _ _ _ _ (@pe_fld _ _ _ _ _ (pv 0) rfl) pa_nil (by rfl)) (by decide) (by rfl) (by rfl)) (@pe_fld _ _ _ _ _ (pv 0) rfl)))), ?_⟩
  rw [st_Talk_outgoing]
  walk_at "sv"
  refine FldR.go ha T.talk T.n_back tk_back ?_
  refine ⟨_, _, hp'.dt, hr1.dt, pointD_shaped _, pointD_shaped _, ?_⟩
  rw [if_neg Bool.false_ne_true, bool_eq_dec (point_eqv ns x.back)]
  walk_at "sv"
  refine IfR.dec (fun e => ?_) fun e => ?_
  · walk_at "sv"
    refine FldR.go ha T.talk T.n_onward tk_onward ?_
    walk_at "sv"
    refine spFlip.go hp l5 fun r' H1 _ s1 h1 => ?_
    exact k r' H1 s1 (by rw [if_pos e]; exact h1)
  · walk_at "sv"
    refine FldR.go ha T.talk T.n_sent tk_sent ?_
    exact k q H (Same.refl _) (by rw [if_neg e]; exact hq)
end
section
variable {C_Talk C_Table : Addr}
section
variable {l l' kd kd' : Addr} {B : Tb} {m : Int}
theorem set_talks : putF "talks" (.ref l') (tabFs B l kd) = tabFs B l' kd := by
  unfold tabFs
  rw [put_skip (by decide), put_skip (by decide), put_skip (by decide), put_skip (by decide), put_hit]
theorem set_by_key : putF "by_key" (.ref kd') (tabFs B l kd) = tabFs B l kd' := by
  unfold tabFs
  rw [put_skip (by decide), put_skip (by decide), put_skip (by decide), put_skip (by decide), put_skip (by decide), put_hit]
theorem set_time : putF "time" (.int m) (tabFs B l kd) = tabFs { B with time := m } l kd := by
  unfold tabFs
  rw [put_skip (by decide), put_skip (by decide), put_skip (by decide), put_hit]
end
theorem tk_ne {H : Hp} {t dx l kd : Addr} {ad : Addr × Addr} {x : Tk} {B : Tb} (ht : H t = some (.ins C_Table dx (tabFs B l kd))) (h : TkAt C_Talk H ad x) : ad.1 ≠ t ∧ ad.2 ≠ t := by
  obtain ⟨dx', p, q, r, ha, _, _, _, hd⟩ := h
  refine ⟨fun e => ?_, fun e => ?_⟩
  · rw [e, ht] at ha
    injection ha with ha
    injection ha with _ _ hf
    have h1 := congrArg (fun l : List (Str × V) => (l.map Prod.fst).head?) hf
    have h2 : some ("short" : Str) = some "onward" := h1
    exact absurd h2 (by decide)
  · rw [e, ht] at hd
    cases hd
theorem TkAt.but {H H' : Hp} {t dx l kd : Addr} {ad : Addr × Addr} {x : Tk} {B : Tb} (h : TkAt C_Talk H ad x) (ht : H t = some (.ins C_Table dx (tabFs B l kd))) (b : But t H H') : TkAt C_Talk H' ad x := by
  obtain ⟨n1, n2⟩ := tk_ne ht h
  obtain ⟨dx', p, q, r, ha, hp, hq, hr, hd⟩ := h
  exact ⟨dx', p, q, r, b _ _ n1 ha, b.pt ht hp, b.pt ht hq, b.pt ht hr, b _ _ n2 hd⟩
theorem TkAt.same {H H' : Hp} {ad : Addr × Addr} {x : Tk} (h : TkAt C_Talk H ad x) (s : Same H H') : TkAt C_Talk H' ad x := by
  obtain ⟨dx', p, q, r, ha, hp, hq, hr, hd⟩ := h
  exact ⟨dx', p, q, r, s _ _ ha, hp.same s, hq.same s, hr.same s, s _ _ hd⟩
theorem key_fresh {xs : List Tk} (nd : (keysL xs).Nodup) {i : Nat} {x : Tk} (e : xs[i]? = some x) : x.lab ∉ keysL (xs.take i) ∧ x.back ∉ keysL (xs.take i) ∧ x.back ≠ x.lab := by
  obtain ⟨hi, rfl⟩ := List.getElem?_eq_some_iff.mp e
  have sp : xs = xs.take i ++ xs[i] :: xs.drop (i + 1) := by
    rw [List.getElem_cons_drop, List.take_append_drop]
  generalize xs[i] = x at *
  rw [sp, keysL_app, keysL_cons] at nd
  obtain ⟨_, nd2, dj⟩ := List.nodup_append.mp nd
  refine ⟨fun h => dj _ h _ List.mem_cons_self rfl, fun h => dj _ h _ (List.mem_cons_of_mem _ List.mem_cons_self) rfl, fun h => ?_⟩
  exact (List.nodup_cons.mp nd2).1 (h ▸ List.mem_cons_self)
def spKeep (C_Talk C_Table : Addr) : Sp := fun vs H Q _ => ∃ (t dx l l0 k0 : Addr) (B : Tb) (ads : List (Addr × Addr)) (xs : List Tk), vs = [.ref t, .ref l] ∧ H t = some (.ins C_Table dx (tabFs B l0 k0)) ∧ H l = some (.lst (ads.map fun ad : Addr × Addr => V.ref ad.1)) ∧ All2 (TkAt C_Talk H) ads xs ∧ TsOk xs ∧
  ∀ kd H', H kd = none → But t H H' → H' t = some (.ins C_Table dx (tabFs B l kd)) → H' kd = some (.dT (keysD ads xs)) → Q .non H'
theorem ok_Table_keep (F : Fun K "keep" "Table.keep" s_Table_keep f fd) (T : TxT K C_Talk C_Table) : FnOk P w K mg base CX0 1 f fd ["self", "talks"] (spKeep C_Talk C_Table) := by
  refine F.ok sc_Table_keep (fun vs H Q E h => ?_) (fun cdv A outer s H vs Q E hr h => ?_)
  · obtain ⟨_, _, _, _, _, _, _, _, rfl, _⟩ := h
    rfl
  obtain ⟨t, dx, l, l0, k0, B, ads, xs, rfl, ht, hl, al, ok, k⟩ := h
  have len := All2.len al
  have few := ok.few
  refine ⟨_, (@pss_cons _ _ _ _ _ (@ps_fld _ _ _ _ _ _ _ _ (pv 0) (pv 1) rfl) (@pss_cons _ _ _ _ _ (@ps_fld _ _ _ _ _ _ _ _ (pv 0) pe_dnewT rfl) (@pss_one _ _ _ (@ps_for _ _ _ _ _ _ _ _ PassesOwn.never rfl (@pi_list _ _ _ _ (pv 1)) (@pg_name _ _ (2) _ sc_Table_keep.nd rfl (Or.inl rfl) (by first | exact .inl rfl | exact .inr rfl | assumption)) (@pss_cons _ _ _ _ _ (@ps_dput _ _ _ _ _ _ _ _ _ (hu_of hr) (@pe_fld _ _ _ _ _ (pv 0) rfl) (@pe_fld _ _ _ _ _ (pv 2) rfl) (pv 2) rfl) (@pss_one _ _ _ (@ps_dput _ _ _ _ _ _ _ _ _ (hu_of hr) (@pe_fld _ _ _ _ _ (pv 0) rfl) (@pe_fld _ _ _ _ _ (pv 2) rfl) (pv 2) rfl))) (by intro _; rfl))))), ?_⟩
  rw [st_Table_keep]
  walk_at "sv"
  refine sfld_set ht T.table T.n_talks (by show 6 < 1000; decide) set_talks fun H1 b1 h1 => ?_
  walk_at "sv"
  intro kd nk
  have s2 := same_new nk (.dT [])
  have hk2 : upd H1 kd (.dT []) kd = some (.dT []) := upd_same
  have h2 := s2 _ _ h1
  have nkt : kd ≠ t := fun e => by
    rw [e, h1] at nk
    cases nk
  generalize upd H1 kd (.dT []) = H2 at *
  walk_at "sv"
  refine sfld_set h2 T.table T.n_by_key (by show 6 < 1000; decide) set_by_key fun H3 b3 h3 => ?_
  have b13 := (b1.trans (Same.but s2)).trans b3
  have nk0 : H kd = none := b1.free h1 nk
  have hk3 := b3 _ _ nkt hk2
  have nlt : l ≠ t := fun e => by
    rw [e, ht] at hl
    cases hl
  walk_at "sv"
  refine IlR.go (SqL.of (b13 _ _ nlt hl)) ?_
  refine ForR.items itl (fun i σ H' => But t H H' ∧ H' t = some (.ins C_Table dx (tabFs B l kd)) ∧ H' kd = some (.dT (keysD (ads.take i) (xs.take i))) ∧ ∃ y, σ = [some (.ref t), some (.ref l), y]) ⟨b13, h3, hk3, _, rfl⟩ (fun i σ H' pv => SqL.of (pv.1 _ _ nlt hl)) (fun i v σ H4 hv pv => ?_) (fun σ H4 pv => ?_)
  · obtain ⟨b4, h4, hk4, y, rfl⟩ := pv
    rw [List.getElem?_map] at hv
    obtain ⟨ad, ea, rfl⟩ := Option.map_eq_some_iff.mp hv
    obtain ⟨x, ex, tk⟩ := All2.at al ea
    have tk4 := tk.but ht b4
    obtain ⟨f1, f2, f3⟩ := key_fresh ok.keys ex
    have lt : (ads.take i).length = (xs.take i).length := by rw [List.length_take, List.length_take, len]
    have kk := keysD_keys lt
    have kl := keysD_len (ads.take i) (xs.take i)
    rw [List.length_take] at kl
    obtain ⟨dx', p, q, r, ha, hp, hq, hr1, hd⟩ := id tk4
    have e1 : valV (keysD (ads.take i) (xs.take i)) (ky x.lab) = none := valV_not (by
      rw [kk]
      intro m
      obtain ⟨z, hz, e⟩ := List.mem_map.mp m
      exact f1 (ky_inj e ▸ hz))
    have e2 : valV (keysD (ads.take i) (xs.take i) ++ [(ky x.lab, V.ref ad.1)]) (ky x.back) = none := valV_not (by
      rw [List.map_append, kk]
      intro m
      rcases List.mem_append.mp m with m | m
      · obtain ⟨z, hz, e⟩ := List.mem_map.mp m
        exact f2 (ky_inj e ▸ hz)
      · exact f3 (ky_inj (List.mem_singleton.mp m)))
    walk_at "sv"
    refine FldR.go h4 T.table T.n_by_key tb_by_key ?_
    walk_at "sv"
    refine FldR.go ha T.talk T.n_onward tk_onward ?_
    refine dputT_go hk4 hp (by omega) ?_
    rw [putK_new e1]
    have b5 : But t H (upd H4 kd (.dT (keysD (ads.take i) (xs.take i) ++ [(ky x.lab, V.ref ad.1)]))) := b4.put nk0
    have h5 : upd H4 kd (.dT (keysD (ads.take i) (xs.take i) ++ [(ky x.lab, V.ref ad.1)])) t = some (.ins C_Table dx (tabFs B l kd)) := by
      rw [upd_ne (Ne.symm nkt)]
      exact h4
    have hk5 : upd H4 kd (.dT (keysD (ads.take i) (xs.take i) ++ [(ky x.lab, V.ref ad.1)])) kd = some (.dT (keysD (ads.take i) (xs.take i) ++ [(ky x.lab, V.ref ad.1)])) := upd_same
    generalize upd H4 kd (.dT (keysD (ads.take i) (xs.take i) ++ [(ky x.lab, V.ref ad.1)])) = H5 at *
    obtain ⟨dx5, p5, q5, r5, ha5, hp5, hq5, hr5, hd5⟩ := tk.but ht b5
    walk_at "sv"
    refine FldR.go h5 T.table T.n_by_key tb_by_key ?_
    walk_at "sv"
    refine FldR.go ha5 T.talk T.n_back tk_back ?_
    refine dputT_go hk5 hr5 (by rw [List.length_append, List.length_singleton]; omega) ?_
    rw [putK_new e2]
    refine ⟨b5.put nk0, by rw [upd_ne (Ne.symm nkt)]; exact h5, ?_, _, rfl⟩
    rw [upd_same, List.take_add_one, List.take_add_one, ea, ex, Option.toList_some, Option.toList_some, keysD_snoc lt]
  · obtain ⟨b4, h4, hk4, y, rfl⟩ := pv
    rw [List.length_map, List.take_length, len, List.take_length] at hk4
    walk_at "sv"
    exact k kd H4 nk0 b4 h4 hk4
theorem all2_ix {α β : Type} {R : α → β → Prop} : ∀ {xs : List α} {ys : List β}, xs.length = ys.length → (∀ (i : Nat) (x : α) (y : β), xs[i]? = some x → ys[i]? = some y → R x y) → All2 R xs ys
  | [], [], _, _ => .nil
  | x :: xs, y :: ys, l, h => .cons (h 0 x y rfl rfl) (all2_ix (Nat.succ.inj l) fun i a b e1 e2 => h (i + 1) a b e1 e2)
theorem nodup_ix {α : Type} {xs : List α} {x : α} : ∀ {i j : Nat}, xs.Nodup → xs[i]? = some x → xs[j]? = some x → i = j := by
  intro i j nd e1 e2
  obtain ⟨h1, e1⟩ := List.getElem?_eq_some_iff.mp e1
  obtain ⟨h2, e2⟩ := List.getElem?_eq_some_iff.mp e2
  exact (List.getElem_inj nd).mp (e1.trans e2.symm)
end
section
variable {C_Talk C_Table : Addr}
def spTurn (C_Talk C_Table : Addr) : Sp := fun vs H Q _ => ∃ (t p dx l kd : Addr) (B : Tb) (ads : List (Addr × Addr)) (ns : List Int), vs = [.ref t, .ref p] ∧ TabAt C_Talk C_Table H t B dx l kd ads ∧ IsPt H p ns ∧ Q (.int (turnOf B.ts ns)) H
theorem ok_Table_turn (F : Fun K "turn" "Table.turn" s_Table_turn f fd) (T : TxT K C_Talk C_Table) : FnOk P w K mg base CX0 1 f fd ["self", "label"] (spTurn C_Talk C_Table) := by
  refine F.ok sc_Table_turn (fun vs H Q E h => ?_) (fun cdv A outer s H vs Q E hr h => ?_)
  · obtain ⟨_, _, _, _, _, _, _, _, rfl, _⟩ := h
    rfl
  obtain ⟨t, p, dx, l, kd, B, ads, ns, rfl, tb, hp, k⟩ := h
  have len := All2.len tb.tks
  refine ⟨_, (@pss_cons _ _ _ _ _ (@ps_if _ _ _ _ _ _ _ _ (@pt_cmp _ _ _ _ _ _ (@pc_dnotin _ _ _ _ _ (hu_of hr) (pv 1) (@pe_fld _ _ _ _ _ (pv 0) rfl)) (by with_unfolding_all rfl)) (@pss_one _ _ _ (@ps_ret _ _ _ _ pe_int)) pss_nil) (@pss_cons _ _ _ _ _ (@ps_set _ _ (2) _ _ _ _ sc_Table_turn.nd rfl (Or.inl rfl) (@pe_dget _ _ _ _ _ _ (hu_of hr) (@pe_fld _ _ _ _ _ (pv 0) rfl) (pv 1) (fun _ _ => rfl)) (by rfl) (by first | exact .inl rfl | exact .inr rfl | assumption)) (@pss_cons _ _ _ _ _ (@ps_if _ _ _ _ _ _ _ _ (@pt_cmpR _ _ _ _ _ _ _ _ (op_eqD hr.units) (pv 1) (@pe_fld _ _ _ _ _ (pv 2) rfl) (nomark _)) (@pss_one _ _ _ (@ps_ret _ _ _ _ pe_int)) pss_nil) (@pss_one _ _ _ (@ps_ret _ _ _ _ (@pe_ifExp _ _ _ _ _ _ _ _ (@pt_val _ _ _ (@pe_fld _ _ _ _ _ (pv 2) rfl) (by intro _; rfl)) pe_int pe_int)))))), ?_⟩
  rw [st_Table_turn]
  walk_at "sv"
  refine FldR.go tb.tab T.table T.n_by_key tb_by_key ?_
  refine dinT_go tb.dic hp ?_
  rw [if_pos rfl]
  unfold turnOf at k
  rcases keys_val ns len with ⟨e, f⟩ | ⟨i, ad, x, ea, ex, hk, e, f⟩
  · rw [e, Option.isSome_none]
    rw [f] at k
    walk_at "sv"
    exact k
  · rw [e, Option.isSome_some]
    rw [f] at k
    have k : Q (.int (if ns = x.back then (3 : Int) else if x.ans = true then 2 else 1)) H := k
    walk_at "sv"
    refine FldR.go tb.tab T.table T.n_by_key tb_by_key ?_
    walk_at "sv"
    refine dgetT_go tb.dic hp e ?_
    walk_at "sv"
    obtain ⟨x', ex', tk⟩ := All2.at tb.tks ea
    rw [ex] at ex'
    cases ex'
    obtain ⟨dx', p1, q1, r1, ha, hp1, hq1, hr1, hd⟩ := id tk
    refine FldR.go ha T.talk T.n_back tk_back ?_
    refine ⟨_, _, hp.dt, hr1.dt, pointD_shaped _, pointD_shaped _, ?_⟩
    rw [if_neg Bool.false_ne_true, bool_eq_dec (point_eqv ns x.back)]
    walk_at "sv"
    refine BrS.dec (fun z => ?_) fun z => ?_
    · walk_at "sv"
      rw [if_pos z] at k
      exact k
    · rw [if_neg z] at k
      walk_at "sv"
      refine FldR.go ha T.talk T.n_answered tk_answered ?_
      cases ea : x.ans with
      | true =>
        rw [ea] at k
        walk_at "sv"
        exact k
      | false =>
        rw [ea] at k
        walk_at "sv"
        exact k
end
section
variable {C_Talk C_Table : Addr}
def spFree (C_Talk C_Table : Addr) : Sp := fun vs H Q _ => ∃ (t p q dx l kd : Addr) (B : Tb) (ads : List (Addr × Addr)) (ns ms : List Int), vs = [.ref t, .ref p, .ref q] ∧ TabAt C_Talk C_Table H t B dx l kd ads ∧ IsPt H p ns ∧ IsPt H q ms ∧ ms.length = 5 ∧ ∀ H', Same H H' → Q (.bl (freeOf B.ts ns ms)) H'
theorem ok_Table_free (F : Fun K "free" "Table.free" s_Table_free f fd) (g_flip : Fn P w K mg base "flip" 1 ["label"] spFlip) (T : TxT K C_Talk C_Table) : FnOk P w K mg base CX0 2 f fd ["self", "label", "sent"] (spFree C_Talk C_Table) := by
  refine F.ok sc_Table_free (fun vs H Q E h => ?_) (fun cdv A outer s H vs Q E hr h => ?_)
  · obtain ⟨_, _, _, _, _, _, _, _, _, _, rfl, _⟩ := h
    rfl
  obtain ⟨t, p, q, dx, l, kd, B, ads, ns, ms, rfl, tb, hp, hq, l5, k⟩ := h
  have len := All2.len tb.tks
  refine ⟨_, (@pss_cons _ _ _ _ _ (@ps_set _ _ (3) _ _ _ _ sc_Table_free.nd rfl (Or.inl rfl) (@pe_fn _ _ _ _ _ _ _ _ _ _ _ g_flip hr (by decide) rfl (@pa_cons _ _ _ _ _ (pv 2) pa_nil (by rfl)) (by decide) (by rfl) (by rfl)) (by rfl) (by first | exact .inl rfl | exact .inr rfl | assumption)) (@pss_one _ _ _ (@ps_ret _ _ _ _ (@pe_and _ _ _ _ _ _ _ (@pe_cmpR _ _ _ _ _ _ _ _ (op_neD hr.units) (pv 1) (pv 3) (nomark _)) (@pe_and _ _ _ _ _ _ _ (@pe_cmp _ _ _ _ _ _ (@pc_dnotin _ _ _ _ _ (hu_of hr) (pv 1) (@pe_fld _ _ _ _ _ (pv 0) rfl)) (by with_unfolding_all rfl)) (@pe_one _ _ _ _ _ (@pe_cmp _ _ _ _ _ _ (@pc_dnotin _ _ _ _ _ (hu_of hr) (pv 3) (@pe_fld _ _ _ _ _ (pv 0) rfl)) (by with_unfolding_all rfl)))))))), ?_⟩
  rw [st_Table_free]
  walk_at "sv"
  refine spFlip.go hq l5 fun r H1 nr s1 hr1 => ?_
  have k1 := k H1 s1
  unfold freeOf isKey at k1
  have dic1 := s1 _ _ tb.dic
  have tab1 := s1 _ _ tb.tab
  have vis : ∀ zs : List Int, (valV (keysD ads B.ts) (ky zs)).isSome = (B.ts.find? (hasKey zs)).isSome := fun zs => by
    rcases keys_val zs len with ⟨e, f⟩ | ⟨i, ad, x, ea, ex, hk, e, f⟩
    · rw [e, f]
      rfl
    · rw [e, f]
      rfl
  walk_at "sv"
  refine ⟨_, _, (hp.same s1).dt, hr1.dt, pointD_shaped _, pointD_shaped _, ?_⟩
  rw [if_pos rfl, bool_eq_dec (point_eqv ns (flipL ms))]
  by_cases e1 : ns = flipL ms
  · rw [decide_eq_true e1] at k1 ⊢
    walk_at "sv"
    exact k1
  · rw [decide_eq_false e1] at k1 ⊢
    walk_at "sv"
    refine FldR.go tab1 T.table T.n_by_key tb_by_key ?_
    refine dinT_go dic1 (hp.same s1) ?_
    rw [if_pos rfl, vis]
    cases e2 : (B.ts.find? (hasKey ns)).isSome with
    | true =>
      rw [e2] at k1
      walk_at "sv"
      exact k1
    | false =>
      rw [e2] at k1
      walk_at "sv"
      refine FldR.go tab1 T.table T.n_by_key tb_by_key ?_
      refine dinT_go dic1 hr1 ?_
      rw [if_pos rfl, vis]
      exact k1
def spFull (C_Talk C_Table : Addr) : Sp := fun vs H Q _ => ∃ (t dx l kd : Addr) (B : Tb) (ads : List (Addr × Addr)), vs = [.ref t] ∧ TabAt C_Talk C_Table H t B dx l kd ads ∧ Q (.bl (decide (B.most ≤ B.ts.length))) H
theorem ok_Table_full (F : Fun K "is_full" "Table.is_full" s_Table_is_full f fd) (b_len : mg "len" = none) (T : TxT K C_Talk C_Table) : FnOk P w K mg base CX0 1 f fd ["self"] (spFull C_Talk C_Table) := by
  refine F.ok sc_Table_is_full (fun vs H Q E h => ?_) (fun cdv A outer s H vs Q E hr h => ?_)
  · obtain ⟨_, _, _, _, _, _, rfl, _⟩ := h
    rfl
  obtain ⟨t, dx, l, kd, B, ads, rfl, tb, k⟩ := h
  have len := All2.len tb.tks
  refine ⟨_, (@pss_one _ _ _ (@ps_ret _ _ _ _ (@pe_cmpR _ _ _ _ _ _ _ _ op_ge (@pe_callB _ _ _ _ _ _ _ _ _ call_lenR rfl b_len bo_len (@pa_cons _ _ _ _ _ (@pe_fld _ _ _ _ _ (pv 0) rfl) pa_nil (by rfl)) (by decide) (by decide) (by rfl) (by rfl)) (@pe_fld _ _ _ _ _ (pv 0) rfl) (nomark _)))), ?_⟩
  rw [st_Table_is_full]
  walk_at "sv"
  refine FldR.go tb.tab T.table T.n_talks tb_talks ?_
  walk_at "sv"
  refine LenR.lst (SqL.of tb.lst) ?_
  rw [List.length_map, len]
  walk_at "sv"
  refine FldR.go tb.tab T.table T.n_most tb_most ?_
  walk_at "sv"
  exact k
def RwAt (H : Hp) (v : V) (x : Tk) : Prop := ∃ t p q, v = .ref t ∧ H t = some (.tup [.ref p, .ref q, .bl x.ans, .int x.til]) ∧ IsPt H p x.lab ∧ IsPt H q x.sent
def spStand (C_Talk C_Table : Addr) : Sp := fun vs H Q _ => ∃ (t dx l kd : Addr) (B : Tb) (ads : List (Addr × Addr)), vs = [.ref t] ∧ TabAt C_Talk C_Table H t B dx l kd ads ∧ B.ts.length ≤ 200 ∧ ∀ D us H', H D = none → Same H H' → H' D = some (.lst us) → All2 (RwAt H') us B.ts → Q (.ref D) H'
theorem ok_Table_stand (F : Fun K "standing" "Table.standing" s_Table_standing f fd) (T : TxT K C_Talk C_Table) : FnOk P w K mg base CX0 1 f fd ["self"] (spStand C_Talk C_Table) := by
  refine F.ok sc_Table_standing (fun vs H Q E h => ?_) (fun cdv A outer s H vs Q E hr h => ?_)
  · obtain ⟨_, _, _, _, _, _, rfl, _⟩ := h
    rfl
  obtain ⟨t, dx, l, kd, B, ads, rfl, tb, few, k⟩ := h
  have len := All2.len tb.tks
  refine ⟨_, (@pss_one _ _ _ (@ps_ret _ _ _ _ (@pe_comp _ _ (["talk"]) ([]) _ _ _ _ _ _ _ _ _ rfl (COk.of (out := defScope s_Table_standing) (N := ["self"]) rfl rfl (by decide +kernel)) (@pi_list _ _ _ _ (@pe_fld _ _ _ _ _ (pv 0) rfl)) (fun _ _ _ => (@pg_name _ _ (0) _ (show List.Nodup (["talk"] : List Str) by decide +kernel) rfl (Or.inl rfl) (by first | exact .inl rfl | exact .inr rfl | assumption))) (fun _ _ _ => pifs_nil) (fun _ _ _ => (@pe_tup _ _ _ _ _ (@pa_cons _ _ _ _ _ (@pe_fldK _ (K) _ _ _ _ rfl (pv 0) rfl) (@pa_cons _ _ _ _ _ (@pe_fldK _ (K) _ _ _ _ rfl (pv 0) rfl) (@pa_cons _ _ _ _ _ (@pe_fldK _ (K) _ _ _ _ rfl (pv 0) rfl) (@pa_cons _ _ _ _ _ (@pe_fldK _ (K) _ _ _ _ rfl (pv 0) rfl) pa_nil (by rfl)) (by rfl)) (by rfl)) (by rfl)))) (by intro _; rfl)))), ?_⟩
  rw [st_Table_standing]
  walk_at "sv"
  refine FldR.go tb.tab T.table T.n_talks tb_talks ?_
  refine IlR.go (SqL.of tb.lst) ?_
  refine CmpR.rel (fun D H' v u => ∃ ad x t p q, v = .ref ad.1 ∧ TkAt C_Talk H ad x ∧ (ad, x) ∈ ads.zip B.ts ∧ u = .ref t ∧ t ≠ D ∧ H' t = some (.tup [.ref p, .ref q, .bl x.ans, .int x.til]) ∧ IsPt H p x.lab ∧ IsPt H q x.sent) (fun D H' H'' x v kp r => ?_) itl (by rw [List.length_map]; omega) (fun H' s => SqL.of (s _ _ tb.lst)) (fun D v H' ys Q' hv nD s1 hD kk => ?_) fun D H' us nD s1 hD al => ?_
  · obtain ⟨ad, x, t, p, q, e1, tk, z, e2, n, h, hp, hq⟩ := r
    exact ⟨ad, x, t, p, q, e1, tk, z, e2, n, kp _ _ n h, hp, hq⟩
  · obtain ⟨ad, ha, rfl⟩ := List.mem_map.mp hv
    obtain ⟨i, ea⟩ := List.getElem?_of_mem ha
    obtain ⟨x, ex, tk⟩ := All2.at tb.tks ea
    obtain ⟨dx', p, q, r, ha, hp, hq, hr1, hd⟩ := id tk
    have ha' := s1 _ _ ha
    walk_at "sv"
    refine FldR.go ha' T.talk T.n_onward tk_onward ?_
    walk_at "sv"
    refine FldR.go ha' T.talk T.n_sent tk_sent ?_
    walk_at "sv"
    refine FldR.go ha' T.talk T.n_answered tk_answered ?_
    walk_at "sv"
    refine FldR.go ha' T.talk T.n_until tk_until ?_
    walk_at "sv"
    refine TupR.go (by simp) fun u nu => ?_
    refine kk _ _ (same_new nu _) ⟨ad, x, u, p, q, rfl, tk, List.mem_of_getElem? (i := i) (by rw [List.getElem?_zip_eq_some]; exact ⟨ea, ex⟩), rfl, fun e => ?_, upd_same, hp, hq⟩
    rw [e, hD] at nu
    cases nu
  · refine k D us H' nD s1 hD ?_
    have ul := All2.len al
    rw [List.length_map] at ul
    refine all2_ix (by omega) fun i u x eu ex => ?_
    obtain ⟨v, ev, ad, x', t', p', q', e1, tk, z, e2, n, h, hp, hq⟩ := All2.ix al eu
    obtain ⟨j, hj⟩ := List.getElem?_of_mem z
    obtain ⟨ej, ejx⟩ := List.getElem?_zip_eq_some.mp hj
    rw [List.getElem?_map] at ev
    obtain ⟨ad0, ea0, rfl⟩ := Option.map_eq_some_iff.mp ev
    have ij : i = j := nodup_ix tb.nd1 (by rw [List.getElem?_map, ea0]; rfl) (by rw [List.getElem?_map, ej]; exact congrArg some (V.ref.inj e1).symm)
    subst ij
    rw [ex] at ejx
    cases ejx
    exact ⟨t', p', q', e2, h, hp.same s1, hq.same s1⟩
end
section
variable {C_Talk C_Table : Addr}
def Tk.stands (m : Int) (x : Tk) : Bool := decide (m ≤ x.til)
def Tb.at (B : Tb) (m : Int) : Tb := { B with time := m, ts := B.ts.filter (Tk.stands m) }
structure Keeps (H H' : Hp) : Prop where
  tup : ∀ a xs, H a = some (.tup xs) → H' a = some (.tup xs)
  lst : ∀ a xs, H a = some (.lst xs) → H' a = some (.lst xs)
  free : ∀ a, H' a = none → H a = none
  frz : ∀ a o u, H a = some (.frz o u) → H' a = some (.frz o u)
theorem Same.keeps {H H' : Hp} (s : Same H H') : Keeps H H' := ⟨fun a xs h => s _ _ h, fun a xs h => s _ _ h, fun a h => s.free h, fun a o u h => s _ _ h⟩
theorem Keeps.trans {H H' H'' : Hp} (h : Keeps H H') (k : Keeps H' H'') : Keeps H H'' := ⟨fun a xs e => k.tup a xs (h.tup a xs e), fun a xs e => k.lst a xs (h.lst a xs e), fun a e => h.free a (k.free a e), fun a o u e => k.frz a o u (h.frz a o u e)⟩
theorem But.keeps {b C dx : Addr} {fs : List (Str × V)} {o : HO} {H H' : Hp} (h : But b H H') (hb : H b = some (.ins C dx fs)) (hb' : H' b = some o) : Keeps H H' := ⟨fun a xs e => h a _ (fun z => by rw [z, hb] at e; cases e) e, fun a xs e => h a _ (fun z => by rw [z, hb] at e; cases e) e, fun a e => h.free hb' e, fun a o u e => h a _ (fun z => by rw [z, hb] at e; cases e) e⟩
def pickA (p : Tk → Bool) (ads : List (Addr × Addr)) (xs : List Tk) : List (Addr × Addr) := ((ads.zip xs).filter fun z => p z.2).map (·.1)
theorem pick_all {R : Addr × Addr → Tk → Prop} {p : Tk → Bool} {ads : List (Addr × Addr)} {xs : List Tk} (h : All2 R ads xs) : All2 R (pickA p ads xs) (xs.filter p) := by
  induction h with
  | nil => exact .nil
  | @cons ad x ads xs h _ ih =>
    unfold pickA
    rw [List.zip_cons_cons, List.filter_cons, List.filter_cons]
    by_cases e : p x = true
    · rw [if_pos e, if_pos e]
      exact .cons h ih
    · rw [if_neg e, if_neg e]
      exact ih
theorem pick_sub {p : Tk → Bool} : ∀ {ads : List (Addr × Addr)} {xs : List Tk}, (pickA p ads xs).Sublist ads
  | [], _ => by
    unfold pickA
    rw [List.zip_nil_left]
    exact .slnil
  | ad :: ads, [] => by
    unfold pickA
    rw [List.zip_nil_right]
    exact List.nil_sublist _
  | ad :: ads, x :: xs => by
    unfold pickA
    rw [List.zip_cons_cons, List.filter_cons]
    split
    · exact pick_sub.cons₂ _
    · exact pick_sub.cons _
theorem pick_filter {p : Tk → Bool} {g : V → Bool} : ∀ {ads : List (Addr × Addr)} {xs : List Tk}, ads.length = xs.length → (∀ ad x, (ad, x) ∈ ads.zip xs → g (.ref ad.1) = p x) → (ads.map fun ad : Addr × Addr => V.ref ad.1).filter g = (pickA p ads xs).map fun ad : Addr × Addr => V.ref ad.1
  | [], [], _, _ => rfl
  | ad :: ads, x :: xs, l, h => by
    have h0 := h ad x List.mem_cons_self
    have ih := pick_filter (Nat.succ.inj l) fun ad' x' m => h ad' x' (List.mem_cons_of_mem _ m)
    unfold pickA at ih ⊢
    rw [List.zip_cons_cons, List.filter_cons, List.map_cons, List.filter_cons, h0, ih]
    by_cases e : p x = true
    · rw [if_pos e, if_pos e]
      rfl
    · rw [if_neg e, if_neg e]
def atA (p : Tk → Bool) (ads : List (Addr × Addr)) (xs : List Tk) (v : V) : Bool := match v with
  | .ref a => ((ads.zip xs).find? fun z => decide (z.1.1 = a)).elim false fun z => p z.2
  | _ => false
theorem atA_at {p : Tk → Bool} : ∀ {ads : List (Addr × Addr)} {xs : List Tk} {ad : Addr × Addr} {x : Tk}, (ads.map (·.1)).Nodup → (ad, x) ∈ ads.zip xs → atA p ads xs (.ref ad.1) = p x
  | ad' :: ads, x' :: xs, ad, x, nd, m => by
    show (List.find? (fun z : (Addr × Addr) × Tk => decide (z.1.1 = ad.1)) ((ad', x') :: ads.zip xs)).elim false (fun z => p z.2) = p x
    rw [List.find?_cons]
    rw [List.map_cons, List.nodup_cons] at nd
    rcases List.mem_cons.mp (show (ad, x) ∈ (ad', x') :: ads.zip xs from m) with e | m
    · cases e
      rw [decide_eq_true rfl]
      rfl
    · have ne : ¬ ad'.1 = ad.1 := fun e => nd.1 (e ▸ List.mem_map_of_mem (List.of_mem_zip m).1)
      rw [decide_eq_false ne]
      exact atA_at nd.2 m
theorem nodup_map_sub {f : Addr × Addr → Addr} {xs ys : List (Addr × Addr)} (h : xs.Sublist ys) (nd : (ys.map f).Nodup) : (xs.map f).Nodup := nd.sublist (h.map f)
theorem kept_tab {H H' : Hp} {t dx l l0 k0 kd : Addr} {B : Tb} {ads : List (Addr × Addr)} {xs : List Tk} (ht : H t = some (.ins C_Table dx (tabFs B l0 k0))) (hl : H l = some (.lst (ads.map fun ad : Addr × Addr => V.ref ad.1))) (al : All2 (TkAt C_Talk H) ads xs) (n1 : (ads.map (·.1)).Nodup) (n2 : (ads.map (·.2)).Nodup)
    (nk : H kd = none) (b : But t H H') (ht' : H' t = some (.ins C_Table dx (tabFs B l kd))) (hk : H' kd = some (.dT (keysD ads xs))) : TabAt C_Talk C_Table H' t { B with ts := xs } dx l kd ads := by
  have nlt : l ≠ t := fun e => by
    rw [e, ht] at hl
    cases hl
  refine ⟨ht', b _ _ nlt hl, All2.imp al fun _ _ r => r.but ht b, n1, n2, hk, fun m => ?_⟩
  obtain ⟨ad, ha, e⟩ := List.mem_map.mp m
  obtain ⟨i, ea⟩ := List.getElem?_of_mem ha
  obtain ⟨x, ex, dx', p, q, r, _, _, _, _, hd⟩ := All2.at al ea
  rw [e, nk] at hd
  cases hd
end
section
variable {C_Talk C_Table : Addr}
def spAt (C_Talk C_Table : Addr) : Sp := fun vs H Q _ => ∃ (t dx l kd : Addr) (B : Tb) (ads : List (Addr × Addr)) (m : Int), vs = [.ref t, .int m] ∧ TabAt C_Talk C_Table H t B dx l kd ads ∧ TsOk B.ts ∧ B.time ≤ m ∧
  ∀ l' kd' ads' H', Keeps H H' → TabAt C_Talk C_Table H' t (B.at m) dx l' kd' ads' → Q .non H'
theorem ok_Table_at (F : Fun K "at" "Table.at" s_Table_at f fd) (gm_Table_keep : FnM P w K mg base C_Table "keep" 1 ["self", "talks"] (spKeep C_Talk C_Table)) (T : TxT K C_Talk C_Table) : FnOk P w K mg base CX0 2 f fd ["self", "moment"] (spAt C_Talk C_Table) := by
  refine F.ok sc_Table_at (fun vs H Q E h => ?_) (fun cdv A outer s H vs Q E hr h => ?_)
  · obtain ⟨_, _, _, _, _, _, _, rfl, _⟩ := h
    rfl
  obtain ⟨t, dx, l, kd, B, ads, m, rfl, tb, ok, le, k⟩ := h
  have len := All2.len tb.tks
  have few := ok.few
  refine ⟨_, (@pss_cons _ _ _ _ _ (@ps_if _ _ _ _ _ _ _ _ (@pt_cmpR _ _ _ _ _ _ _ _ op_lt (pv 1) (@pe_fld _ _ _ _ _ (pv 0) rfl) (nomark _)) (@pss_one _ _ _ ps_never) pss_nil) (@pss_cons _ _ _ _ _ (@ps_fld _ _ _ _ _ _ _ _ (pv 0) (pv 1) rfl) (@pss_one _ _ _ (@ps_expr _ _ _ _ (@pe_methA _ _ _ _ _ _ _ _ _ _ _ (pv 0) hr (@pa_cons _ _ _ _ _ (@pe_comp _ _ (["talk"]) ([1]) _ _ _ _ _ _ _ _ _ rfl (COk.of (out := defScope s_Table_at) (N := ["self", "moment"]) rfl rfl (by decide +kernel)) (@pi_list _ _ _ _ (@pe_fld _ _ _ _ _ (pv 0) rfl)) (fun _ _ _ => (@pg_name _ _ (0) _ (show List.Nodup (["talk", "moment"] : List Str) by decide +kernel) rfl (Or.inl rfl) (by first | exact .inl rfl | exact .inr rfl | assumption))) (fun _ _ _ => (@pifs_one _ _ _ (@pt_cmpR _ _ _ _ _ _ _ _ op_le (pv 1) (@pe_fldK _ (K) _ _ _ _ rfl (pv 0) rfl) (nomark _)))) (fun _ _ _ => (pv 0)) (by intro _; rfl)) pa_nil (by rfl)) (by rfl) (by rfl) (by rfl)) (by rfl))))), ?_⟩
  rw [st_Table_at]
  walk_at "sv"
  refine FldR.go tb.tab T.table T.n_time tb_time ?_
  walk_at "sv"
  refine BrS.dec (fun z => absurd z (by omega)) fun _ => ?_
  walk_at "sv"
  refine sfld_set tb.tab T.table T.n_time (by show 6 < 1000; decide) set_time fun H1 b1 h1 => ?_
  have nlt : l ≠ t := fun e => by
    have := tb.lst
    rw [e, tb.tab] at this
    cases this
  have l1 := b1 _ _ nlt tb.lst
  have tk1 : All2 (TkAt C_Talk H1) ads B.ts := All2.imp tb.tks fun _ _ r => r.but tb.tab b1
  walk_at "sv"
  refine MethR.go gm_Table_keep h1 T.table (tab_no (by decide)) (by decide) ?_
  walk_at "sv"
  refine FldR.go h1 T.table T.n_talks tb_talks ?_
  refine IlR.go (SqL.of l1) ?_
  refine CmpR.filt (atA (Tk.stands m) ads B.ts) id itl (by rw [List.length_map]; omega) (fun H' s => SqL.of (s _ _ l1)) (fun v H' Q' hv s2 kk => ?_) (fun v H' Q' hv hp s2 kk => ?_) fun D H2 nD s2 hD => ?_
  · obtain ⟨ad, ha, rfl⟩ := List.mem_map.mp hv
    obtain ⟨i, ea⟩ := List.getElem?_of_mem ha
    obtain ⟨x, ex, tk⟩ := All2.at tk1 ea
    obtain ⟨dx', p, q, r, ha', hp, hq, hr1, hd⟩ := id tk
    rw [atA_at tb.nd1 (x := x) (List.mem_of_getElem? (i := i) (by rw [List.getElem?_zip_eq_some]; exact ⟨ea, ex⟩))] at kk
    walk_at "sv"
    refine FldR.go (s2 _ _ ha') T.talk T.n_until tk_until ?_
    walk_at "sv"
    exact kk H' (Same.refl _)
  · walk_at "sv"
    exact kk H' (Same.refl _)
  · rw [List.map_id, pick_filter len fun ad x mm => atA_at tb.nd1 mm] at hD
    have h2 := s2 _ _ h1
    have tk2 : All2 (TkAt C_Talk H2) (pickA (Tk.stands m) ads B.ts) (B.ts.filter (Tk.stands m)) := All2.imp (pick_all tk1) fun _ _ r => r.same s2
    refine ⟨t, dx, D, l, kd, { B with time := m }, _, _, rfl, h2, hD, tk2, ok.filter _, fun kd' H3 nk b3 h3 hk3 => ?_⟩
    walk_at "sv"
    exact k D kd' _ H3 (((b1.keeps tb.tab h1).trans (Same.keeps s2)).trans (b3.keeps h2 h3)) (kept_tab h2 hD tk2 (nodup_map_sub pick_sub tb.nd1) (nodup_map_sub pick_sub tb.nd2) nk b3 h3 hk3)
end
section
variable {C_Talk C_Table : Addr}
theorem BrOV.or {b c : Bool} {u : TE} {σ : L2.St} {H : Hp} {Q : VK} (h : ∀ Q' : VK, Q' (.bl c) H → u σ H Q') (q : Q (.bl (b || c)) H) : BrOV b u σ H Q := by
  cases b with
  | true => exact q
  | false => exact h Q q
theorem BrS.join {b : Bool} {f g : L2.St → Hp → Prop} {σ : L2.St} {H : Hp} (p : Bool → Hp → Prop) (h2 : b = false → p false H) (rest : ∀ c H', c = b → p c H' → g σ H') (h1 : b = true → (∀ H', p true H' → g σ H') → f σ H) : BrS b f g σ H := by
  cases b with
  | true => exact h1 rfl fun H' z => rest true H' rfl z
  | false => exact rest false H rfl (h2 rfl)
theorem IfR.pick {b : Bool} {ta tb : TE} {σ : L2.St} {H : Hp} {Q : VK} (v : Bool → V) (h1 : ∀ Q' : VK, Q' (v true) H → ta σ H Q') (h2 : ∀ Q' : VK, Q' (v false) H → tb σ H Q') (q : Q (v b) H) : IfR b ta tb σ H Q := by
  cases b with
  | true => exact h1 Q q
  | false => exact h2 Q q
theorem ok_snoc {ts : List Tk} {x : Tk} (ok : TsOk ts) (h : ts.length < 200) (l5 : x.lab.length = 5) (m5 : x.sent.length = 5) (fr : freeOf ts x.lab x.sent = true) : TsOk (ts ++ [x]) := by
  unfold freeOf at fr
  rw [Bool.and_eq_true, Bool.and_eq_true, Bool.not_eq_true', Bool.not_eq_true', Bool.not_eq_true', decide_eq_false_iff_not] at fr
  obtain ⟨⟨f1, f2⟩, f3⟩ := fr
  have g2 : x.lab ∉ keysL ts := fun m => by
    rw [isKey_iff.mpr m] at f2
    cases f2
  have g3 : x.back ∉ keysL ts := fun m => by
    rw [show isKey ts (flipL x.sent) = true from isKey_iff.mpr m] at f3
    cases f3
  refine ⟨fun y hy => ?_, ?_, by rw [List.length_append, List.length_singleton]; omega⟩
  · rcases List.mem_append.mp hy with hy | hy
    · exact ok.five y hy
    · obtain rfl := List.mem_singleton.mp hy
      exact ⟨l5, m5⟩
  · rw [keysL_app, List.nodup_append]
    refine ⟨ok.keys, ?_, fun a ha b hb e => ?_⟩
    · rw [show keysL [x] = [x.lab, x.back] from rfl, List.nodup_cons]
      exact ⟨fun m => f1 (List.mem_singleton.mp m), by simp⟩
    · subst e
      rcases List.mem_cons.mp (show a ∈ [x.lab, x.back] from hb) with rfl | hb
      · exact g2 ha
      · obtain rfl := List.mem_singleton.mp hb
        exact g3 ha
def Tb.begin (B : Tb) (ns ms : List Int) : Tb := { B with ts := B.ts ++ [⟨ns, ms, false, B.time + B.short, []⟩] }
def spBegin (C_Talk C_Table : Addr) : Sp := fun vs H Q _ => ∃ (t p q dx l kd : Addr) (B : Tb) (ads : List (Addr × Addr)) (ns ms : List Int), vs = [.ref t, .ref p, .ref q] ∧ TabAt C_Talk C_Table H t B dx l kd ads ∧ TsOk B.ts ∧ B.ts.length < 200 ∧ IsPt H p ns ∧ IsPt H q ms ∧ ns.length = 5 ∧ ms.length = 5 ∧ ¬ B.most ≤ B.ts.length ∧ freeOf B.ts ns ms = true ∧
  ∀ l' kd' ads' H', Keeps H H' → TabAt C_Talk C_Table H' t (B.begin ns ms) dx l' kd' ads' → Q .non H'
theorem ok_Table_begin (F : Fun K "begin" "Table.begin" s_Table_begin f fd) (gm_Table_is_full : FnM P w K mg base C_Table "is_full" 1 ["self"] (spFull C_Talk C_Table)) (gm_Table_free : FnM P w K mg base C_Table "free" 2 ["self", "label", "sent"] (spFree C_Talk C_Table)) (gm_Table_keep : FnM P w K mg base C_Table "keep" 1 ["self", "talks"] (spKeep C_Talk C_Table))
    (gi_Talk : FnI P w K mg base C_Talk 2 ["self", "label", "sent", "until"] (spTalkI C_Talk)) (m_Talk : mg "Talk" = some (.ref C_Talk)) (T : TxT K C_Talk C_Table) : FnOk P w K mg base CX0 4 f fd ["self", "label", "sent"] (spBegin C_Talk C_Table) := by
  refine F.ok sc_Table_begin (fun vs H Q E h => ?_) (fun cdv A outer s H vs Q E hr h => ?_)
  · obtain ⟨_, _, _, _, _, _, _, _, _, _, rfl, _⟩ := h
    rfl
  obtain ⟨t, p, q, dx, l, kd, B, ads, ns, ms, rfl, tb, ok, few, hp, hq, l5, m5, nf, fr, k⟩ := h
  have len := All2.len tb.tks
  refine ⟨_, (@pss_cons _ _ _ _ _ (@ps_if _ _ _ _ _ _ _ _ (@pt_val _ _ _ (@pe_methA0 _ _ _ _ _ _ _ _ (pv 0) hr (by rfl)) (by intro _; rfl)) (@pss_one _ _ _ ps_never) pss_nil) (@pss_cons _ _ _ _ _ (@ps_if _ _ _ _ _ _ _ _ (@pt_not _ _ _ _ (@pt_val _ _ _ (@pe_methA _ _ _ _ _ _ _ _ _ _ _ (pv 0) hr (@pa_cons _ _ _ _ _ (pv 1) (@pa_cons _ _ _ _ _ (pv 2) pa_nil (by rfl)) (by rfl)) (by rfl) (by rfl) (by rfl)) (by intro _; rfl))) (@pss_one _ _ _ ps_never) pss_nil) (@pss_one _ _ _ (@ps_expr _ _ _ _ (@pe_methA _ _ _ _ _ _ _ _ _ _ _ (pv 0) hr (@pa_cons _ _ _ _ _ (@pe_op _ _ _ _ _ _ _ _ op_catQ (@pe_fld _ _ _ _ _ (pv 0) rfl) (@pe_lst _ _ _ _ (@pa_cons _ _ _ _ _ (@pe_new _ _ _ _ _ _ _ _ _ _ _ _ gi_Talk hr (by decide) rfl m_Talk (@pa_cons _ _ _ _ _ (pv 1) (@pa_cons _ _ _ _ _ (pv 2) (@pa_cons _ _ _ _ _ (@pe_op _ _ _ _ _ _ _ _ op_add (@pe_fld _ _ _ _ _ (pv 0) rfl) (@pe_fld _ _ _ _ _ (pv 0) rfl)) pa_nil (by rfl)) (by rfl)) (by rfl)) (by decide) (by rfl) (by rfl)) pa_nil (by rfl)))) pa_nil (by rfl)) (by rfl) (by rfl) (by rfl)) (by rfl))))), ?_⟩
  rw [st_Table_begin]
  walk_at "sv"
  refine MethR.go gm_Table_is_full tb.tab T.table (tab_no (by decide)) (by decide) ?_
  walk_at "sv"
  refine ⟨t, dx, l, kd, B, ads, rfl, tb, ?_⟩
  walk_at "sv"
  refine BrS.dec (fun z => absurd z nf) fun _ => ?_
  walk_at "sv"
  refine MethR.go gm_Table_free tb.tab T.table (tab_no (by decide)) (by decide) ?_
  walk_at "sv"
  refine ⟨t, p, q, dx, l, kd, B, ads, ns, ms, rfl, tb, hp, hq, m5, fun H1 s1 => ?_⟩
  rw [fr]
  walk_at "sv"
  have tab1 := s1 _ _ tb.tab
  have lst1 := s1 _ _ tb.lst
  refine MethR.go gm_Table_keep tab1 T.table (tab_no (by decide)) (by decide) ?_
  walk_at "sv"
  refine FldR.go tab1 T.table T.n_talks tb_talks ?_
  walk_at "sv"
  refine FldR.go tab1 T.table T.n_time tb_time ?_
  walk_at "sv"
  refine FldR.go tab1 T.table T.n_short tb_short ?_
  walk_at "sv"
  refine fun a dxa na ndx ne => ?_
  have s2 : Same H1 (upd (upd H1 dxa (.own a)) a (.ins C_Talk dxa [])) := (same_new ndx (.own a)).trans (same_new (by rw [upd_ne (Ne.symm ne)]; exact na) _)
  have ha2 : upd (upd H1 dxa (.own a)) a (.ins C_Talk dxa []) a = some (.ins C_Talk dxa []) := upd_same
  generalize upd (upd H1 dxa (.own a)) a (.ins C_Talk dxa []) = H2 at *
  have s12 := s1.trans s2
  refine ⟨a, dxa, p, q, B.time + B.short, ns, ms, rfl, ha2, hp.same s12, hq.same s12, m5, fun d H3 nd b3 tk3 => ⟨rfl, ?_⟩⟩
  have s3 : Same H1 H3 := fun x o e => b3 x o (ne_of_none e na) (s2 x o e)
  refine LstR.go (by simp) fun l1 nl1 => ?_
  have s4 := same_new nl1 (.lst [.ref a])
  have hl1 : upd H3 l1 (.lst [.ref a]) l1 = some (.lst [.ref a]) := upd_same
  generalize upd H3 l1 (.lst [.ref a]) = H4 at *
  have s34 := s3.trans s4
  refine catQ_go (SqL.of (s34 _ _ lst1)) (SqL.of hl1) (by rw [List.length_map, List.length_singleton]; omega) fun l2 nl2 => ?_
  have s5 := same_new nl2 (.lst ((ads.map fun ad : Addr × Addr => V.ref ad.1) ++ [.ref a]))
  have hl2 : upd H4 l2 (.lst ((ads.map fun ad : Addr × Addr => V.ref ad.1) ++ [.ref a])) l2 = some (.lst ((ads ++ [(a, d)]).map fun ad : Addr × Addr => V.ref ad.1)) := by
    rw [upd_same, List.map_append]
    rfl
  generalize upd H4 l2 (.lst ((ads.map fun ad : Addr × Addr => V.ref ad.1) ++ [.ref a])) = H5 at *
  have s35 := s34.trans s5
  have s15 := s1.trans s35
  have tab5 := s35 _ _ tab1
  have tk5 : All2 (TkAt C_Talk H5) (ads ++ [(a, d)]) (B.ts ++ [⟨ns, ms, false, B.time + B.short, []⟩]) := (All2.imp tb.tks fun _ _ r => r.same s15).snoc (tk3.same (s4.trans s5))
  walk_at "sv"
  refine ⟨t, dx, l2, l, kd, B, _, _, rfl, tab5, hl2, tk5, ok_snoc ok few l5 m5 fr, fun kd' H6 nk b6 h6 hk6 => ?_⟩
  walk_at "sv"
  have fresh : ∀ ad ∈ ads, ad.1 ≠ a ∧ ad.2 ≠ d := fun ad had => by
    obtain ⟨i, ea⟩ := List.getElem?_of_mem had
    obtain ⟨x, ex, dx', p', q', r', h1, _, _, _, h2⟩ := All2.at tb.tks ea
    refine ⟨fun e => ?_, fun e => ?_⟩
    · have := s1 _ _ h1
      rw [e, na] at this
      cases this
    · have := s12 _ _ h2
      rw [e, nd] at this
      cases this
  refine k l2 kd' _ H6 ((Same.keeps s15).trans (b6.keeps tab5 h6)) (kept_tab tab5 hl2 tk5 ?_ ?_ nk b6 h6 hk6)
  · rw [List.map_append, List.nodup_append]
    refine ⟨tb.nd1, by simp, fun u hu v hv e => ?_⟩
    obtain ⟨ad, had, rfl⟩ := List.mem_map.mp hu
    obtain rfl := List.mem_singleton.mp hv
    exact (fresh ad had).1 e
  · rw [List.map_append, List.nodup_append]
    refine ⟨tb.nd2, by simp, fun u hu v hv e => ?_⟩
    obtain ⟨ad, had, rfl⟩ := List.mem_map.mp hu
    obtain rfl := List.mem_singleton.mp hv
    exact (fresh ad had).2 e
theorem TabAt.same {H H' : Hp} {t dx l kd : Addr} {B : Tb} {ads : List (Addr × Addr)} (h : TabAt C_Talk C_Table H t B dx l kd ads) (s : Same H H') : TabAt C_Talk C_Table H' t B dx l kd ads :=
  ⟨s _ _ h.tab, s _ _ h.lst, All2.imp h.tks fun _ _ r => r.same s, h.nd1, h.nd2, s _ _ h.dic, h.ndk⟩
end
section
variable {C_Talk C_Table : Addr}
section
variable {p q r d : Addr} {x : Tk} {b : Bool} {u : Int}
theorem set_answered : putF "answered" (.bl b) (talkFs p q r d x) = talkFs p q r d { x with ans := b } := by
  unfold talkFs
  rw [put_skip (by decide), put_skip (by decide), put_skip (by decide), put_hit]
theorem set_until : putF "until" (.int u) (talkFs p q r d x) = talkFs p q r d { x with til := u } := by
  unfold talkFs
  rw [put_skip (by decide), put_skip (by decide), put_skip (by decide), put_skip (by decide), put_hit]
end
def Tk.go (x : Tk) (B : Tb) (ns : List Int) (last : Bool) : Tk :=
  ⟨x.lab, x.sent, x.ans || decide (ns = x.back), B.time + (if (x.ans || decide (ns = x.back)) = true then B.long else B.short), if last = true then addK x.fw ns else x.fw⟩
def Tk.over (x : Tk) : Bool := decide (x.lab ∈ x.fw) && decide (x.back ∈ x.fw)
def Tk.not (x y : Tk) : Bool := !decide (y.lab = x.lab)
theorem lab_inj : ∀ {ts : List Tk} {x z : Tk}, (keysL ts).Nodup → z ∈ ts → x ∈ ts → z.lab = x.lab → z = x
  | y :: ts, x, z, nd, hz, hx, e => by
    rw [keysL_cons, List.nodup_cons, List.nodup_cons] at nd
    have out : ∀ u ∈ ts, u.lab ≠ y.lab := fun u hu c => nd.1 (List.mem_cons_of_mem _ (c ▸ List.mem_flatMap.mpr ⟨u, hu, List.mem_cons_self⟩))
    rcases List.mem_cons.mp hz with hz' | hz'
    · rcases List.mem_cons.mp hx with hx' | hx'
      · exact hz'.trans hx'.symm
      · exact absurd (e.symm.trans (congrArg Tk.lab hz')) (out x hx')
    · rcases List.mem_cons.mp hx with hx' | hx'
      · exact absurd (e.trans (congrArg Tk.lab hx')) (out z hz')
      · exact lab_inj nd.2.2 hz' hx' e
theorem keys_of_pairs (ts : List Tk) : keysL ts = (ts.map fun z => (z.lab, z.sent)).flatMap fun p => [p.1, flipL p.2] := by
  unfold keysL
  rw [List.flatMap_map]
  rfl
def putT (ts : List Tk) (x : Tk) : List Tk := ts.map fun z => if z.lab = x.lab then x else z
def Tb.go (B : Tb) (ns : List Int) (last : Bool) (x : Tk) : Tb := { B with ts := if (x.go B ns last).over = true then (putT B.ts (x.go B ns last)).filter (x.go B ns last).not else putT B.ts (x.go B ns last) }
theorem putT_keys {ts : List Tk} {x y : Tk} (hx : x ∈ ts) (nd : (keysL ts).Nodup) (e1 : y.lab = x.lab) (e2 : y.sent = x.sent) : (putT ts y).map (fun z => (z.lab, z.sent)) = ts.map fun z => (z.lab, z.sent) := by
  unfold putT
  rw [List.map_map]
  refine List.map_congr_left fun z hz => ?_
  show (fun z : Tk => (z.lab, z.sent)) (if z.lab = y.lab then y else z) = _
  by_cases e : z.lab = y.lab
  · have : z = x := lab_inj nd hz hx (e.trans e1)
    rw [if_pos e, this]
    show (y.lab, y.sent) = (x.lab, x.sent)
    rw [e1, e2]
  · rw [if_neg e]
theorem putT_ok {ts : List Tk} {x y : Tk} (ok : TsOk ts) (hx : x ∈ ts) (e1 : y.lab = x.lab) (e2 : y.sent = x.sent) : TsOk (putT ts y) ∧ keysL (putT ts y) = keysL ts := by
  have kk : keysL (putT ts y) = keysL ts := by rw [keys_of_pairs, keys_of_pairs, putT_keys hx ok.keys e1 e2]
  refine ⟨⟨fun z hz => ?_, by rw [kk]; exact ok.keys, by unfold putT; rw [List.length_map]; exact ok.few⟩, kk⟩
  unfold putT at hz
  obtain ⟨u, hu, rfl⟩ := List.mem_map.mp hz
  by_cases e : u.lab = y.lab
  · rw [if_pos e, e1, e2]
    exact ok.five x hx
  · rw [if_neg e]
    exact ok.five u hu
theorem keysD_same : ∀ {ads : List (Addr × Addr)} {xs ys : List Tk}, xs.map (fun z => (z.lab, z.sent)) = ys.map (fun z => (z.lab, z.sent)) → keysD ads xs = keysD ads ys
  | [], _, _, _ => by cases ‹List Tk› <;> cases ‹List Tk› <;> rfl
  | ad :: ads, [], [], _ => rfl
  | ad :: ads, x :: xs, y :: ys, h => by
    rw [List.map_cons, List.map_cons] at h
    injection h with h1 h2
    have e1 : x.lab = y.lab := congrArg Prod.fst h1
    have e2 : x.sent = y.sent := congrArg Prod.snd h1
    show (ky x.lab, V.ref ad.1) :: (ky (flipL x.sent), V.ref ad.1) :: keysD ads xs = (ky y.lab, V.ref ad.1) :: (ky (flipL y.sent), V.ref ad.1) :: keysD ads ys
    rw [e1, e2, keysD_same h2]
  | ad :: ads, [], y :: ys, h => by cases h
  | ad :: ads, x :: xs, [], h => by cases h
def spGo (C_Talk C_Table : Addr) : Sp := fun vs H Q _ => ∃ (t p dx l kd : Addr) (B : Tb) (ads : List (Addr × Addr)) (ns : List Int) (last : Bool) (x : Tk), vs = [.ref t, .ref p, .bl last] ∧ TabAt C_Talk C_Table H t B dx l kd ads ∧ TsOk B.ts ∧ IsPt H p ns ∧ B.ts.find? (hasKey ns) = some x ∧ x.fw.length ≤ 100 ∧
  ∀ r l' kd' ads' H', (l' = l ∨ H l' = none) → Keeps H H' → TabAt C_Talk C_Table H' t (B.go ns last x) dx l' kd' ads' → IsPt H' r (if ns = x.back then flipL x.lab else x.sent) → Q (.ref r) H'
theorem labs_sub : ∀ ts : List Tk, (ts.map (·.lab)).Sublist (keysL ts)
  | [] => .slnil
  | x :: ts => by
    rw [keysL_cons, List.map_cons]
    exact ((labs_sub ts).cons _).cons₂ _
theorem gone_tab {H H' : Hp} {t dx l kd a d : Addr} {B : Tb} {ads : List (Addr × Addr)} {i : Nat} {x y : Tk} (tb : TabAt C_Talk C_Table H t B dx l kd ads) (ok : TsOk B.ts) (ea : ads[i]? = some (a, d)) (ex : B.ts[i]? = some x) (e1 : y.lab = x.lab) (e2 : y.sent = x.sent)
    (fr : ∀ b o, b ≠ a → b ≠ d → H b = some o → H' b = some o) (tk : TkAt C_Talk H' (a, d) y) : TabAt C_Talk C_Table H' t { B with ts := putT B.ts y } dx l kd ads := by
  obtain ⟨x', ex', tk0⟩ := All2.at tb.tks ea
  rw [ex] at ex'
  cases ex'
  obtain ⟨n1, n2⟩ := tk_ne tb.tab tk0
  obtain ⟨dxa, p1, q1, r1, ha, hp1, hq1, hr1, hd⟩ := id tk0
  have ne : ∀ b o, H b = some o → (∀ C dx fs, o ≠ .ins C dx fs) → (∀ kvs, o ≠ .dT kvs) → H' b = some o := fun b o hb m1 m2 => by
    refine fr b o (fun e => ?_) (fun e => ?_) hb
    · subst e
      rw [show H b = _ from ha] at hb
      cases hb
      exact m1 _ _ _ rfl
    · subst e
      rw [show H b = _ from hd] at hb
      cases hb
      exact m2 _ rfl
  have mem := List.mem_of_getElem? ex
  refine ⟨fr _ _ (Ne.symm n1) (Ne.symm n2) tb.tab, ne _ _ tb.lst (fun _ _ _ h => by cases h) (fun _ h => by cases h), all2_ix (by unfold putT; rw [List.length_map]; exact All2.len tb.tks) fun j adj z ej ez => ?_, tb.nd1, tb.nd2, ?_, tb.ndk⟩
  · unfold putT at ez
    rw [List.getElem?_map] at ez
    obtain ⟨u, eu, rfl⟩ := Option.map_eq_some_iff.mp ez
    by_cases e : u.lab = y.lab
    · have ij : j = i := nodup_ix (ok.keys.sublist (labs_sub _)) (by rw [List.getElem?_map, eu]; rfl) (by rw [List.getElem?_map, ex]; show some x.lab = some u.lab; rw [e, e1])
      subst ij
      rw [ea] at ej
      cases ej
      rw [if_pos e]
      exact tk
    · rw [if_neg e]
      have ij : j ≠ i := fun h => by
        subst h
        rw [ex] at eu
        cases eu
        exact e e1.symm
      obtain ⟨u', eu', dxu, pu, qu, ru, hu, hpu, hqu, hru, hdu⟩ := All2.at tb.tks ej
      rw [eu] at eu'
      cases eu'
      have m1 : adj.1 ≠ a := fun h => ij (nodup_ix tb.nd1 (by rw [List.getElem?_map, ej]; rfl) (by rw [List.getElem?_map, ea]; exact congrArg some h.symm))
      have m2 : adj.2 ≠ d := fun h => ij (nodup_ix tb.nd2 (by rw [List.getElem?_map, ej]; rfl) (by rw [List.getElem?_map, ea]; exact congrArg some h.symm))
      refine ⟨dxu, pu, qu, ru, fr _ _ m1 (fun h => ?_) hu, ne _ _ hpu (fun _ _ _ h => by cases h) (fun _ h => by cases h), ne _ _ hqu (fun _ _ _ h => by cases h) (fun _ h => by cases h), ne _ _ hru (fun _ _ _ h => by cases h) (fun _ h => by cases h), fr _ _ (fun h => ?_) m2 hdu⟩
      · rw [h, show H d = _ from hd] at hu
        cases hu
      · rw [h, show H a = _ from ha] at hdu
        cases hdu
  · rw [show keysD ads (putT B.ts y) = keysD ads B.ts from keysD_same (putT_keys mem ok.keys e1 e2)]
    refine fr _ _ (fun h => ?_) (fun h => ?_) tb.dic
    · have := tb.dic
      rw [h, show H a = _ from ha] at this
      cases this
    · exact tb.ndk (h ▸ List.mem_map_of_mem (f := Prod.snd) (List.mem_of_getElem? ea))
theorem ok_Table_go_on (F : Fun K "go_on" "Table.go_on" s_Table_go_on f fd) (gm_Talk_has_both_farewells : FnM P w K mg base C_Talk "has_both_farewells" 1 ["self"] (spBoth2 C_Talk)) (gm_Talk_outgoing : FnM P w K mg base C_Talk "outgoing" 2 ["self", "label"] (spOut C_Talk)) (gm_Table_keep : FnM P w K mg base C_Table "keep" 1 ["self", "talks"] (spKeep C_Talk C_Table)) (T : TxT K C_Talk C_Table) : FnOk P w K mg base CX0 3 f fd ["self", "label", "last"] (spGo C_Talk C_Table) := by
  refine F.ok sc_Table_go_on (fun vs H Q E h => ?_) (fun cdv A outer s H vs Q E hr h => ?_)
  · obtain ⟨_, _, _, _, _, _, _, _, _, _, rfl, _⟩ := h
    rfl
  obtain ⟨t, p, dx, l, kd, B, ads, ns, last, x, rfl, tb, ok, hp, fx, fw100, k⟩ := h
  have len := All2.len tb.tks
  rcases keys_val ns len with ⟨e, f0⟩ | ⟨i, ad, x', ea, ex, hk, e, f0⟩
  · rw [fx] at f0
    cases f0
  rw [fx] at f0
  cases f0
  obtain ⟨x', ex', tk⟩ := All2.at tb.tks ea
  rw [ex] at ex'
  cases ex'
  obtain ⟨a, d⟩ := ad
  obtain ⟨n1, n2⟩ := tk_ne tb.tab tk
  obtain ⟨dxa, p1, q1, r1, ha, hp1, hq1, hr1, hd⟩ := id tk
  have ha : H a = some (.ins C_Talk dxa (talkFs p1 q1 r1 d x)) := ha
  have hd : H d = some (.dT (fwD x.fw)) := hd
  have mem := List.mem_of_getElem? ex
  have l5 := (ok.five x mem).1
  have nda : d ≠ a := fun h => by
    rw [h, ha] at hd
    cases hd
  refine ⟨_, (@pss_cons _ _ _ _ _ (@ps_if _ _ _ _ _ _ _ _ (@pt_cmp _ _ _ _ _ _ (@pc_dnotin _ _ _ _ _ (hu_of hr) (pv 1) (@pe_fld _ _ _ _ _ (pv 0) rfl)) (by with_unfolding_all rfl)) (@pss_one _ _ _ ps_never) pss_nil) (@pss_cons _ _ _ _ _ (@ps_set _ _ (3) _ _ _ _ sc_Table_go_on.nd rfl (Or.inr rfl) (@pe_dget _ _ _ _ _ _ (hu_of hr) (@pe_fld _ _ _ _ _ (pv 0) rfl) (pv 1) (fun _ _ => rfl)) (by rfl) (by first | exact .inl rfl | exact .inr rfl | assumption)) (@pss_cons _ _ _ _ _ (@ps_fld _ _ _ _ _ _ _ _ (pv 3) (@pe_or _ _ _ _ _ _ _ (@pe_fld _ _ _ _ _ (pv 3) rfl) (@pe_one _ _ _ _ _ (@pe_cmpR _ _ _ _ _ _ _ _ (op_eqD hr.units) (pv 1) (@pe_fld _ _ _ _ _ (pv 3) rfl) (nomark _)))) rfl) (@pss_cons _ _ _ _ _ (@ps_fld _ _ _ _ _ _ _ _ (pv 3) (@pe_op _ _ _ _ _ _ _ _ op_add (@pe_fld _ _ _ _ _ (pv 0) rfl) (@pe_ifExp _ _ _ _ _ _ _ _ (@pt_val _ _ _ (@pe_fld _ _ _ _ _ (pv 3) rfl) (by intro _; rfl)) (@pe_fld _ _ _ _ _ (pv 0) rfl) (@pe_fld _ _ _ _ _ (pv 0) rfl))) rfl) (@pss_cons _ _ _ _ _ (@ps_if _ _ _ _ _ _ _ _ (@pt_val _ _ _ (pv 2) (by intro _; rfl)) (@pss_one _ _ _ (@ps_dput _ _ _ _ _ _ _ _ _ (hu_of hr) (@pe_fld _ _ _ _ _ (pv 3) rfl) (pv 1) pe_bl rfl)) pss_nil) (@pss_cons _ _ _ _ _ (@ps_if _ _ _ _ _ _ _ _ (@pt_val _ _ _ (@pe_methA0 _ _ _ _ _ _ _ _ (pv 3) hr (by rfl)) (by intro _; rfl)) (@pss_one _ _ _ (@ps_expr _ _ _ _ (@pe_methA _ _ _ _ _ _ _ _ _ _ _ (pv 0) hr (@pa_cons _ _ _ _ _ (@pe_comp _ _ (["other"]) ([3]) _ _ _ _ _ _ _ _ _ rfl (COk.of (out := defScope s_Table_go_on) (N := ["self", "label", "last", "talk"]) rfl rfl (by decide +kernel)) (@pi_list _ _ _ _ (@pe_fld _ _ _ _ _ (pv 0) rfl)) (fun _ _ _ => (@pg_name _ _ (0) _ (show List.Nodup (["other", "talk"] : List Str) by decide +kernel) rfl (Or.inl rfl) (by first | exact .inl rfl | exact .inr rfl | assumption))) (fun _ _ _ => (@pifs_one _ _ _ (@pt_cmpR _ _ _ _ _ _ _ _ (op_neD hr.units) (@pe_fldK _ (K) _ _ _ _ rfl (pv 0) rfl) (@pe_fldK _ (K) _ _ _ _ rfl (pv 1) rfl) (nomark _)))) (fun _ _ _ => (pv 0)) (by intro _; rfl)) pa_nil (by rfl)) (by rfl) (by rfl) (by rfl)) (by rfl))) pss_nil) (@pss_one _ _ _ (@ps_ret _ _ _ _ (@pe_methA _ _ _ _ _ _ _ _ _ _ _ (pv 3) hr (@pa_cons _ _ _ _ _ (pv 1) pa_nil (by rfl)) (by rfl) (by rfl) (by rfl)))))))))), ?_⟩
  rw [st_Table_go_on]
  walk_at "sv"
  refine FldR.go tb.tab T.table T.n_by_key tb_by_key ?_
  refine dinT_go tb.dic hp ?_
  rw [if_pos rfl, e, Option.isSome_some]
  walk_at "sv"
  refine FldR.go tb.tab T.table T.n_by_key tb_by_key ?_
  walk_at "sv"
  refine dgetT_go tb.dic hp e ?_
  walk_at "sv"
  refine FldR.go ha T.talk T.n_answered tk_answered ?_
  walk_at "sv"
  refine BrOV.or (c := decide (ns = x.back)) (fun Q' q' => ?_) ?_
  · walk_at "sv"
    refine FldR.go ha T.talk T.n_back tk_back ?_
    refine ⟨_, _, hp.dt, hr1.dt, pointD_shaped _, pointD_shaped _, ?_⟩
    rw [if_neg Bool.false_ne_true, bool_eq_dec (point_eqv ns x.back)]
    exact q'
  walk_at "sv"
  refine sfld_set ha T.talk T.n_answered (by show 6 < 1000; decide) set_answered fun H1 b1 h1 => ?_
  have tab1 := b1 _ _ (Ne.symm n1) tb.tab
  walk_at "sv"
  refine FldR.go tab1 T.table T.n_time tb_time ?_
  walk_at "sv"
  refine FldR.go h1 T.talk T.n_answered tk_answered ?_
  walk_at "sv"
  refine IfR.pick (fun b => .int (if b = true then B.long else B.short)) (fun Q' q' => ?_) (fun Q' q' => ?_) ?_
  · walk_at "sv"
    exact FldR.go tab1 T.table T.n_long tb_long q'
  · walk_at "sv"
    exact FldR.go tab1 T.table T.n_short tb_short q'
  walk_at "sv"
  refine sfld_set h1 T.talk T.n_until (by show 6 < 1000; decide) set_until fun H2 b2 h2 => ?_
  have b12 := b1.trans b2
  have hd2 := b12 _ _ nda hd
  have hp2 := b12.pt ha hp
  walk_at "sv"
  have fr2 : ∀ b o, b ≠ a → b ≠ d → H b = some o → H2 b = some o := fun b o m1 _ hb => b12 b o m1 hb
  refine BrS.join (fun c H3 => H3 a = some (.ins C_Talk dxa (talkFs p1 q1 r1 d (x.go B ns c))) ∧ H3 d = some (.dT (fwD (x.go B ns c).fw)) ∧ ∀ b o, b ≠ a → b ≠ d → H b = some o → H3 b = some o) (fun _ => ⟨h2, hd2, fr2⟩) (fun c H3 ec facts => ?_) fun el rest => ?_
  rotate_left
  · walk_at "sv"
    refine FldR.go h2 T.talk T.n_farewells tk_farewells ?_
    walk_at "sv"
    refine dputT_go hd2 hp2 (by unfold fwD; rw [List.length_map]; omega) ?_
    rw [fw_put]
    refine rest _ ⟨by rw [upd_ne (Ne.symm nda)]; exact h2, upd_same, fun b o m1 m2 hb => ?_⟩
    rw [upd_ne m2]
    exact fr2 b o m1 m2 hb
  obtain ⟨h3, hd3, fr3⟩ := facts
  have hl : (x.go B ns c).lab = x.lab := rfl
  have hs : (x.go B ns c).sent = x.sent := rfl
  have hb : (x.go B ns c).back = x.back := rfl
  unfold Tb.go at k
  rw [← ec, ← hb, ← hl, ← hs] at k
  generalize x.go B ns c = y at *
  have pts : ∀ b zs, H b = some (.tup zs) → H3 b = some (.tup zs) := fun b zs hz => fr3 b _ (fun h => by rw [h, ha] at hz; cases hz) (fun h => by rw [h, hd] at hz; cases hz) hz
  have lsts : ∀ b zs, H b = some (.lst zs) → H3 b = some (.lst zs) := fun b zs hz => fr3 b _ (fun h => by rw [h, ha] at hz; cases hz) (fun h => by rw [h, hd] at hz; cases hz) hz
  have free3 : ∀ b, H3 b = none → H b = none := fun b n => by
    cases eb : H b with
    | none => rfl
    | some o =>
      by_cases m1 : b = a
      · rw [m1, h3] at n
        cases n
      · by_cases m2 : b = d
        · rw [m2, hd3] at n
          cases n
        · rw [fr3 b o m1 m2 eb] at n
          cases n
  have kp3 : Keeps H H3 := ⟨pts, lsts, free3, fun b o u hz => fr3 b _ (fun h => by rw [h, ha] at hz; cases hz) (fun h => by rw [h, hd] at hz; cases hz) hz⟩
  have tk3 : TkAt C_Talk H3 (a, d) y := ⟨dxa, p1, q1, r1, h3, by rw [hl]; exact pts _ _ hp1, by rw [hs]; exact pts _ _ hq1, by rw [hb]; exact pts _ _ hr1, hd3⟩
  have tb3 := gone_tab tb ok ea ex hl hs fr3 tk3
  have ok3 := (putT_ok ok mem hl hs).1
  have hp3 : IsPt H3 p ns := pts _ _ hp
  have yl5 : y.lab.length = 5 := by rw [hl]; exact l5
  walk_at "sv"
  refine MethR.go gm_Talk_has_both_farewells h3 T.talk (talk_no (by decide)) (by decide) ?_
  walk_at "sv"
  refine ⟨(a, d), y, rfl, tk3, ?_⟩
  walk_at "sv"
  change BrS y.over _ _ _ _
  cases ov : y.over with
  | false =>
    rw [ov, if_neg Bool.false_ne_true] at k
    walk_at "sv"
    refine MethR.go gm_Talk_outgoing h3 T.talk (talk_no (by decide)) (by decide) ?_
    walk_at "sv"
    refine ⟨(a, d), y, p, ns, rfl, tk3, hp3, yl5, fun r H4 s4 hr4 => ?_⟩
    exact k r l kd ads H4 (.inl rfl) (kp3.trans (Same.keeps s4)) (tb3.same s4) hr4
  | true =>
    rw [ov, if_pos rfl] at k
    walk_at "sv"
    refine MethR.go gm_Table_keep tb3.tab T.table (tab_no (by decide)) (by decide) ?_
    walk_at "sv"
    refine FldR.go tb3.tab T.table T.n_talks tb_talks ?_
    have len3 := All2.len tb3.tks
    have few3 := ok3.few
    have lst3 := tb3.lst
    have nd3 := tb3.nd1
    have few3 : (putT B.ts y).length ≤ 200 := few3
    have len3 : ads.length = (putT B.ts y).length := len3
    refine IlR.go (SqL.of lst3) ?_
    refine CmpR.filt (atA y.not ads (putT B.ts y)) id itl (by rw [List.length_map]; omega) (fun H' s => SqL.of (s _ _ lst3)) (fun v H' Q' hv s4 kk => ?_) (fun v H' Q' hv hp' s4 kk => ?_) fun D H4 nD s4 hD => ?_
    · obtain ⟨ad', ha', rfl⟩ := List.mem_map.mp hv
      obtain ⟨j, ej⟩ := List.getElem?_of_mem ha'
      obtain ⟨z, ez, tkz⟩ := All2.at tb3.tks ej
      obtain ⟨dxz, pz, qz, rz, hz, hpz, hqz, hrz, hdz⟩ := id tkz
      rw [atA_at nd3 (x := z) (List.mem_of_getElem? (i := j) (by rw [List.getElem?_zip_eq_some]; exact ⟨ej, ez⟩))] at kk
      obtain ⟨dxy, py, qy, ry, hy, hpy, hqy, hry, hdy⟩ := id tk3
      walk_at "sv"
      refine FldR.go (s4 _ _ hz) T.talk T.n_onward tk_onward ?_
      walk_at "sv"
      refine FldR.go (s4 _ _ hy) T.talk T.n_onward tk_onward ?_
      refine ⟨_, _, (hpz.same s4).dt, (hpy.same s4).dt, pointD_shaped _, pointD_shaped _, ?_⟩
      rw [if_pos rfl, bool_eq_dec (point_eqv z.lab y.lab)]
      walk_at "sv"
      exact kk H' (Same.refl _)
    · walk_at "sv"
      exact kk H' (Same.refl _)
    · rw [List.map_id, pick_filter len3 fun ad x mm => atA_at nd3 mm] at hD
      have tab4 := s4 _ _ tb3.tab
      have tk4 : All2 (TkAt C_Talk H4) (pickA y.not ads (putT B.ts y)) ((putT B.ts y).filter y.not) := All2.imp (pick_all tb3.tks) fun _ _ r => r.same s4
      refine ⟨t, dx, D, l, kd, { B with ts := putT B.ts y }, _, _, rfl, tab4, hD, tk4, ok3.filter _, fun kd' H5 nk b5 h5 hk5 => ?_⟩
      have tb5 := kept_tab tab4 hD tk4 (nodup_map_sub pick_sub tb3.nd1) (nodup_map_sub pick_sub tb3.nd2) nk b5 h5 hk5
      have tk5 := (tk3.same s4).but tab4 b5
      have kp5 := (kp3.trans (Same.keeps s4)).trans (b5.keeps tab4 h5)
      walk_at "sv"
      obtain ⟨dx5, p5, q5, r5, ha5, _⟩ := id tk5
      refine MethR.go gm_Talk_outgoing ha5 T.talk (talk_no (by decide)) (by decide) ?_
      walk_at "sv"
      refine ⟨(a, d), y, p, ns, rfl, tk5, kp5.tup _ _ hp, yl5, fun r H6 s6 hr6 => ?_⟩
      exact k r D kd' _ H6 (.inr (free3 _ nD)) (kp5.trans (Same.keeps s6)) (tb5.same s6) hr6
end
section
variable {C_Talk C_Table : Addr}
def spGoX (C_Talk C_Table C_NoTalk : Addr) : Sp := fun vs H Q E => ∃ (t p dx l kd : Addr) (B : Tb) (ads : List (Addr × Addr)) (ns : List Int) (last : Bool), vs = [.ref t, .ref p, .bl last] ∧ TabAt C_Talk C_Table H t B dx l kd ads ∧ TsOk B.ts ∧ IsPt H p ns ∧ LabN ns ∧ (B.ts.find? (hasKey ns) = none → ∀ H', Same H H' → E (.ref C_NoTalk) none H') ∧
  ∀ x, B.ts.find? (hasKey ns) = some x → x.fw.length ≤ 100 ∧ ∀ r l' kd' ads' H', Keeps H H' → TabAt C_Talk C_Table H' t (B.go ns last x) dx l' kd' ads' → IsPt H' r (if ns = x.back then flipL x.lab else x.sent) → Q (.ref r) H'
theorem ok_Table_go_onX {C_NoTalk : Addr} (F : Fun K "go_on" "Table.go_on" s_Table_go_on f fd) (O_NoTalk : ExcC K mg "NoTalk" C_NoTalk) (gm_Talk_has_both_farewells : FnM P w K mg base C_Talk "has_both_farewells" 1 ["self"] (spBoth2 C_Talk)) (gm_Talk_outgoing : FnM P w K mg base C_Talk "outgoing" 2 ["self", "label"] (spOut C_Talk)) (gm_Table_keep : FnM P w K mg base C_Table "keep" 1 ["self", "talks"] (spKeep C_Talk C_Table)) (T : TxT K C_Talk C_Table) : FnOk P w K mg base (CXe P w) 3 f fd ["self", "label", "last"] (spGoX C_Talk C_Table C_NoTalk) := by
  refine fun_okX F sc_Table_go_on (fun vs H Q E h => ?_) (fun cdv A outer s H vs Q E hr h => ?_)
  · obtain ⟨_, _, _, _, _, _, _, _, _, rfl, _⟩ := h
    rfl
  obtain ⟨t, p, dx, l, kd, B, ads, ns, last, rfl, tb, ok, hp, labn, k1, k2⟩ := h
  have len := All2.len tb.tks
  rcases keys_val ns len with ⟨e, f0⟩ | ⟨i, ad, x, ea, ex, hk, e, f0⟩
  · refine ⟨_, (@pss_cons _ _ _ _ _ (@ps_if _ _ _ _ _ _ _ _ (@pt_cmp _ _ _ _ _ _ (@pc_dnotin _ _ _ _ _ (hu_of hr) (pv 1) (@pe_fld _ _ _ _ _ (pv 0) rfl)) (by with_unfolding_all rfl)) (@pss_one _ _ _ (@ps_raise _ _ _ _ _ _ _ _ _ _ xeOut_cx O_NoTalk rfl rfl (@pa_cons _ _ _ _ _ (@pe_fstr _ _ _ _ _ _ (@pj_cons _ _ _ _ _ pe_str (@pj_cons _ _ _ _ _ (pe_repT hr (pv 1)) pj_nil (by rfl)) (by rfl))) pa_nil (by rfl)) (by decide) (by rfl) (by rfl))) pss_nil) (@pss_cons _ _ _ _ _ (@ps_set _ _ (3) _ _ _ _ sc_Table_go_on.nd rfl (Or.inr rfl) (@pe_dget _ _ _ _ _ _ (hu_of hr) (@pe_fld _ _ _ _ _ (pv 0) rfl) (pv 1) (fun _ _ => rfl)) (by rfl) (by first | exact .inl rfl | exact .inr rfl | assumption)) (@pss_cons _ _ _ _ _ (@ps_fld _ _ _ _ _ _ _ _ (pv 3) (@pe_or _ _ _ _ _ _ _ (@pe_fld _ _ _ _ _ (pv 3) rfl) (@pe_one _ _ _ _ _ (@pe_cmpR _ _ _ _ _ _ _ _ (op_eqD hr.units) (pv 1) (@pe_fld _ _ _ _ _ (pv 3) rfl) (nomark _)))) rfl) (@pss_cons _ _ _ _ _ (@ps_fld _ _ _ _ _ _ _ _ (pv 3) (@pe_op _ _ _ _ _ _ _ _ op_add (@pe_fld _ _ _ _ _ (pv 0) rfl) (@pe_ifExp _ _ _ _ _ _ _ _ (@pt_val _ _ _ (@pe_fld _ _ _ _ _ (pv 3) rfl) (by intro _; rfl)) (@pe_fld _ _ _ _ _ (pv 0) rfl) (@pe_fld _ _ _ _ _ (pv 0) rfl))) rfl) (@pss_cons _ _ _ _ _ (@ps_if _ _ _ _ _ _ _ _ (@pt_val _ _ _ (pv 2) (by intro _; rfl)) (@pss_one _ _ _ (@ps_dput _ _ _ _ _ _ _ _ _ (hu_of hr) (@pe_fld _ _ _ _ _ (pv 3) rfl) (pv 1) pe_bl rfl)) pss_nil) (@pss_cons _ _ _ _ _ (@ps_if _ _ _ _ _ _ _ _ (@pt_val _ _ _ (@pe_methA0 _ _ _ _ _ _ _ _ (pv 3) hr (by rfl)) (by intro _; rfl)) (@pss_one _ _ _ (@ps_expr _ _ _ _ (@pe_methA _ _ _ _ _ _ _ _ _ _ _ (pv 0) hr (@pa_cons _ _ _ _ _ (@pe_comp _ _ (["other"]) ([3]) _ _ _ _ _ _ _ _ _ rfl (COk.of (out := defScope s_Table_go_on) (N := ["self", "label", "last", "talk"]) rfl rfl (by decide +kernel)) (@pi_list _ _ _ _ (@pe_fld _ _ _ _ _ (pv 0) rfl)) (fun _ _ _ => (@pg_name _ _ (0) _ (show List.Nodup (["other", "talk"] : List Str) by decide +kernel) rfl (Or.inl rfl) (by first | exact .inl rfl | exact .inr rfl | assumption))) (fun _ _ _ => (@pifs_one _ _ _ (@pt_cmpR _ _ _ _ _ _ _ _ (op_neD hr.units) (@pe_fldK _ (K) _ _ _ _ rfl (pv 0) rfl) (@pe_fldK _ (K) _ _ _ _ rfl (pv 1) rfl) (nomark _)))) (fun _ _ _ => (pv 0)) (by intro _; rfl)) pa_nil (by rfl)) (by rfl) (by rfl) (by rfl)) (by rfl))) pss_nil) (@pss_one _ _ _ (@ps_ret _ _ _ _ (@pe_methA _ _ _ _ _ _ _ _ _ _ _ (pv 3) hr (@pa_cons _ _ _ _ _ (pv 1) pa_nil (by rfl)) (by rfl) (by rfl) (by rfl)))))))))), ?_⟩
    rw [st_Table_go_on]
    walk_at "sv"
    refine FldR.go tb.tab T.table T.n_by_key tb_by_key ?_
    refine dinT_go tb.dic hp ?_
    rw [if_pos rfl, e, Option.isSome_none]
    walk_at "sv"
    have e1 : (Str.empty ++ ("no talk goes by " : Str)).length = 16 := by decide
    refine JnR.go (by rw [e1]; decide) ?_
    walk_at "sv"
    refine RepA.go hp labn fun z hz => ?_
    refine JnR.go (by rw [Str.length_append, e1]; omega) ?_
    walk_at "sv"
    exact RaR.go (by simp) (k1 f0 H (Same.refl _))
  obtain ⟨fw100, k⟩ := k2 x f0
  have fx := f0
  obtain ⟨x', ex', tk⟩ := All2.at tb.tks ea
  rw [ex] at ex'
  cases ex'
  obtain ⟨a, d⟩ := ad
  obtain ⟨n1, n2⟩ := tk_ne tb.tab tk
  obtain ⟨dxa, p1, q1, r1, ha, hp1, hq1, hr1, hd⟩ := id tk
  have ha : H a = some (.ins C_Talk dxa (talkFs p1 q1 r1 d x)) := ha
  have hd : H d = some (.dT (fwD x.fw)) := hd
  have mem := List.mem_of_getElem? ex
  have l5 := (ok.five x mem).1
  have nda : d ≠ a := fun h => by
    rw [h, ha] at hd
    cases hd
  refine ⟨_, (@pss_cons _ _ _ _ _ (@ps_if _ _ _ _ _ _ _ _ (@pt_cmp _ _ _ _ _ _ (@pc_dnotin _ _ _ _ _ (hu_of hr) (pv 1) (@pe_fld _ _ _ _ _ (pv 0) rfl)) (by with_unfolding_all rfl)) (@pss_one _ _ _ (@ps_raise _ _ _ _ _ _ _ _ _ _ xeOut_cx O_NoTalk rfl rfl (@pa_cons _ _ _ _ _ (@pe_fstr _ _ _ _ _ _ (@pj_cons _ _ _ _ _ pe_str (@pj_cons _ _ _ _ _ (pe_repT hr (pv 1)) pj_nil (by rfl)) (by rfl))) pa_nil (by rfl)) (by decide) (by rfl) (by rfl))) pss_nil) (@pss_cons _ _ _ _ _ (@ps_set _ _ (3) _ _ _ _ sc_Table_go_on.nd rfl (Or.inr rfl) (@pe_dget _ _ _ _ _ _ (hu_of hr) (@pe_fld _ _ _ _ _ (pv 0) rfl) (pv 1) (fun _ _ => rfl)) (by rfl) (by first | exact .inl rfl | exact .inr rfl | assumption)) (@pss_cons _ _ _ _ _ (@ps_fld _ _ _ _ _ _ _ _ (pv 3) (@pe_or _ _ _ _ _ _ _ (@pe_fld _ _ _ _ _ (pv 3) rfl) (@pe_one _ _ _ _ _ (@pe_cmpR _ _ _ _ _ _ _ _ (op_eqD hr.units) (pv 1) (@pe_fld _ _ _ _ _ (pv 3) rfl) (nomark _)))) rfl) (@pss_cons _ _ _ _ _ (@ps_fld _ _ _ _ _ _ _ _ (pv 3) (@pe_op _ _ _ _ _ _ _ _ op_add (@pe_fld _ _ _ _ _ (pv 0) rfl) (@pe_ifExp _ _ _ _ _ _ _ _ (@pt_val _ _ _ (@pe_fld _ _ _ _ _ (pv 3) rfl) (by intro _; rfl)) (@pe_fld _ _ _ _ _ (pv 0) rfl) (@pe_fld _ _ _ _ _ (pv 0) rfl))) rfl) (@pss_cons _ _ _ _ _ (@ps_if _ _ _ _ _ _ _ _ (@pt_val _ _ _ (pv 2) (by intro _; rfl)) (@pss_one _ _ _ (@ps_dput _ _ _ _ _ _ _ _ _ (hu_of hr) (@pe_fld _ _ _ _ _ (pv 3) rfl) (pv 1) pe_bl rfl)) pss_nil) (@pss_cons _ _ _ _ _ (@ps_if _ _ _ _ _ _ _ _ (@pt_val _ _ _ (@pe_methA0 _ _ _ _ _ _ _ _ (pv 3) hr (by rfl)) (by intro _; rfl)) (@pss_one _ _ _ (@ps_expr _ _ _ _ (@pe_methA _ _ _ _ _ _ _ _ _ _ _ (pv 0) hr (@pa_cons _ _ _ _ _ (@pe_comp _ _ (["other"]) ([3]) _ _ _ _ _ _ _ _ _ rfl (COk.of (out := defScope s_Table_go_on) (N := ["self", "label", "last", "talk"]) rfl rfl (by decide +kernel)) (@pi_list _ _ _ _ (@pe_fld _ _ _ _ _ (pv 0) rfl)) (fun _ _ _ => (@pg_name _ _ (0) _ (show List.Nodup (["other", "talk"] : List Str) by decide +kernel) rfl (Or.inl rfl) (by first | exact .inl rfl | exact .inr rfl | assumption))) (fun _ _ _ => (@pifs_one _ _ _ (@pt_cmpR _ _ _ _ _ _ _ _ (op_neD hr.units) (@pe_fldK _ (K) _ _ _ _ rfl (pv 0) rfl) (@pe_fldK _ (K) _ _ _ _ rfl (pv 1) rfl) (nomark _)))) (fun _ _ _ => (pv 0)) (by intro _; rfl)) pa_nil (by rfl)) (by rfl) (by rfl) (by rfl)) (by rfl))) pss_nil) (@pss_one _ _ _ (@ps_ret _ _ _ _ (@pe_methA _ _ _ _ _ _ _ _ _ _ _ (pv 3) hr (@pa_cons _ _ _ _ _ (pv 1) pa_nil (by rfl)) (by rfl) (by rfl) (by rfl)))))))))), ?_⟩
  rw [st_Table_go_on]
  walk_at "sv"
  refine FldR.go tb.tab T.table T.n_by_key tb_by_key ?_
  refine dinT_go tb.dic hp ?_
  rw [if_pos rfl, e, Option.isSome_some]
  walk_at "sv"
  refine FldR.go tb.tab T.table T.n_by_key tb_by_key ?_
  walk_at "sv"
  refine dgetT_go tb.dic hp e ?_
  walk_at "sv"
  refine FldR.go ha T.talk T.n_answered tk_answered ?_
  walk_at "sv"
  refine BrOV.or (c := decide (ns = x.back)) (fun Q' q' => ?_) ?_
  · walk_at "sv"
    refine FldR.go ha T.talk T.n_back tk_back ?_
    refine ⟨_, _, hp.dt, hr1.dt, pointD_shaped _, pointD_shaped _, ?_⟩
    rw [if_neg Bool.false_ne_true, bool_eq_dec (point_eqv ns x.back)]
    exact q'
  walk_at "sv"
  refine sfld_set ha T.talk T.n_answered (by show 6 < 1000; decide) set_answered fun H1 b1 h1 => ?_
  have tab1 := b1 _ _ (Ne.symm n1) tb.tab
  walk_at "sv"
  refine FldR.go tab1 T.table T.n_time tb_time ?_
  walk_at "sv"
  refine FldR.go h1 T.talk T.n_answered tk_answered ?_
  walk_at "sv"
  refine IfR.pick (fun b => .int (if b = true then B.long else B.short)) (fun Q' q' => ?_) (fun Q' q' => ?_) ?_
  · walk_at "sv"
    exact FldR.go tab1 T.table T.n_long tb_long q'
  · walk_at "sv"
    exact FldR.go tab1 T.table T.n_short tb_short q'
  walk_at "sv"
  refine sfld_set h1 T.talk T.n_until (by show 6 < 1000; decide) set_until fun H2 b2 h2 => ?_
  have b12 := b1.trans b2
  have hd2 := b12 _ _ nda hd
  have hp2 := b12.pt ha hp
  walk_at "sv"
  have fr2 : ∀ b o, b ≠ a → b ≠ d → H b = some o → H2 b = some o := fun b o m1 _ hb => b12 b o m1 hb
  refine BrS.join (fun c H3 => H3 a = some (.ins C_Talk dxa (talkFs p1 q1 r1 d (x.go B ns c))) ∧ H3 d = some (.dT (fwD (x.go B ns c).fw)) ∧ ∀ b o, b ≠ a → b ≠ d → H b = some o → H3 b = some o) (fun _ => ⟨h2, hd2, fr2⟩) (fun c H3 ec facts => ?_) fun el rest => ?_
  rotate_left
  · walk_at "sv"
    refine FldR.go h2 T.talk T.n_farewells tk_farewells ?_
    walk_at "sv"
    refine dputT_go hd2 hp2 (by unfold fwD; rw [List.length_map]; omega) ?_
    rw [fw_put]
    refine rest _ ⟨by rw [upd_ne (Ne.symm nda)]; exact h2, upd_same, fun b o m1 m2 hb => ?_⟩
    rw [upd_ne m2]
    exact fr2 b o m1 m2 hb
  obtain ⟨h3, hd3, fr3⟩ := facts
  have hl : (x.go B ns c).lab = x.lab := rfl
  have hs : (x.go B ns c).sent = x.sent := rfl
  have hb : (x.go B ns c).back = x.back := rfl
  unfold Tb.go at k
  rw [← ec, ← hb, ← hl, ← hs] at k
  generalize x.go B ns c = y at *
  have pts : ∀ b zs, H b = some (.tup zs) → H3 b = some (.tup zs) := fun b zs hz => fr3 b _ (fun h => by rw [h, ha] at hz; cases hz) (fun h => by rw [h, hd] at hz; cases hz) hz
  have lsts : ∀ b zs, H b = some (.lst zs) → H3 b = some (.lst zs) := fun b zs hz => fr3 b _ (fun h => by rw [h, ha] at hz; cases hz) (fun h => by rw [h, hd] at hz; cases hz) hz
  have free3 : ∀ b, H3 b = none → H b = none := fun b n => by
    cases eb : H b with
    | none => rfl
    | some o =>
      by_cases m1 : b = a
      · rw [m1, h3] at n
        cases n
      · by_cases m2 : b = d
        · rw [m2, hd3] at n
          cases n
        · rw [fr3 b o m1 m2 eb] at n
          cases n
  have kp3 : Keeps H H3 := ⟨pts, lsts, free3, fun b o u hz => fr3 b _ (fun h => by rw [h, ha] at hz; cases hz) (fun h => by rw [h, hd] at hz; cases hz) hz⟩
  have tk3 : TkAt C_Talk H3 (a, d) y := ⟨dxa, p1, q1, r1, h3, by rw [hl]; exact pts _ _ hp1, by rw [hs]; exact pts _ _ hq1, by rw [hb]; exact pts _ _ hr1, hd3⟩
  have tb3 := gone_tab tb ok ea ex hl hs fr3 tk3
  have ok3 := (putT_ok ok mem hl hs).1
  have hp3 : IsPt H3 p ns := pts _ _ hp
  have yl5 : y.lab.length = 5 := by rw [hl]; exact l5
  walk_at "sv"
  refine MethR.go gm_Talk_has_both_farewells h3 T.talk (talk_no (by decide)) (by decide) ?_
  walk_at "sv"
  refine ⟨(a, d), y, rfl, tk3, ?_⟩
  walk_at "sv"
  change BrS y.over _ _ _ _
  cases ov : y.over with
  | false =>
    rw [ov, if_neg Bool.false_ne_true] at k
    walk_at "sv"
    refine MethR.go gm_Talk_outgoing h3 T.talk (talk_no (by decide)) (by decide) ?_
    walk_at "sv"
    refine ⟨(a, d), y, p, ns, rfl, tk3, hp3, yl5, fun r H4 s4 hr4 => ?_⟩
    exact k r l kd ads H4 (kp3.trans (Same.keeps s4)) (tb3.same s4) hr4
  | true =>
    rw [ov, if_pos rfl] at k
    walk_at "sv"
    refine MethR.go gm_Table_keep tb3.tab T.table (tab_no (by decide)) (by decide) ?_
    walk_at "sv"
    refine FldR.go tb3.tab T.table T.n_talks tb_talks ?_
    have len3 := All2.len tb3.tks
    have few3 := ok3.few
    have lst3 := tb3.lst
    have nd3 := tb3.nd1
    have few3 : (putT B.ts y).length ≤ 200 := few3
    have len3 : ads.length = (putT B.ts y).length := len3
    refine IlR.go (SqL.of lst3) ?_
    refine CmpR.filt (atA y.not ads (putT B.ts y)) id itl (by rw [List.length_map]; omega) (fun H' s => SqL.of (s _ _ lst3)) (fun v H' Q' hv s4 kk => ?_) (fun v H' Q' hv hp' s4 kk => ?_) fun D H4 nD s4 hD => ?_
    · obtain ⟨ad', ha', rfl⟩ := List.mem_map.mp hv
      obtain ⟨j, ej⟩ := List.getElem?_of_mem ha'
      obtain ⟨z, ez, tkz⟩ := All2.at tb3.tks ej
      obtain ⟨dxz, pz, qz, rz, hz, hpz, hqz, hrz, hdz⟩ := id tkz
      rw [atA_at nd3 (x := z) (List.mem_of_getElem? (i := j) (by rw [List.getElem?_zip_eq_some]; exact ⟨ej, ez⟩))] at kk
      obtain ⟨dxy, py, qy, ry, hy, hpy, hqy, hry, hdy⟩ := id tk3
      walk_at "sv"
      refine FldR.go (s4 _ _ hz) T.talk T.n_onward tk_onward ?_
      walk_at "sv"
      refine FldR.go (s4 _ _ hy) T.talk T.n_onward tk_onward ?_
      refine ⟨_, _, (hpz.same s4).dt, (hpy.same s4).dt, pointD_shaped _, pointD_shaped _, ?_⟩
      rw [if_pos rfl, bool_eq_dec (point_eqv z.lab y.lab)]
      walk_at "sv"
      exact kk H' (Same.refl _)
    · walk_at "sv"
      exact kk H' (Same.refl _)
    · rw [List.map_id, pick_filter len3 fun ad x mm => atA_at nd3 mm] at hD
      have tab4 := s4 _ _ tb3.tab
      have tk4 : All2 (TkAt C_Talk H4) (pickA y.not ads (putT B.ts y)) ((putT B.ts y).filter y.not) := All2.imp (pick_all tb3.tks) fun _ _ r => r.same s4
      refine ⟨t, dx, D, l, kd, { B with ts := putT B.ts y }, _, _, rfl, tab4, hD, tk4, ok3.filter _, fun kd' H5 nk b5 h5 hk5 => ?_⟩
      have tb5 := kept_tab tab4 hD tk4 (nodup_map_sub pick_sub tb3.nd1) (nodup_map_sub pick_sub tb3.nd2) nk b5 h5 hk5
      have tk5 := (tk3.same s4).but tab4 b5
      have kp5 := (kp3.trans (Same.keeps s4)).trans (b5.keeps tab4 h5)
      walk_at "sv"
      obtain ⟨dx5, p5, q5, r5, ha5, _⟩ := id tk5
      refine MethR.go gm_Talk_outgoing ha5 T.talk (talk_no (by decide)) (by decide) ?_
      walk_at "sv"
      refine ⟨(a, d), y, p, ns, rfl, tk5, kp5.tup _ _ hp, yl5, fun r H6 s6 hr6 => ?_⟩
      exact k r D kd' _ H6 (kp5.trans (Same.keeps s6)) (tb5.same s6) hr6
end
section
variable {C_Talk C_Table : Addr}
def spBeginX (C_Talk C_Table C_Full C_Taken : Addr) : Sp := fun vs H Q E => ∃ (t p q dx l kd : Addr) (B : Tb) (ads : List (Addr × Addr)) (ns ms : List Int), vs = [.ref t, .ref p, .ref q] ∧ TabAt C_Talk C_Table H t B dx l kd ads ∧ TsOk B.ts ∧ B.ts.length < 200 ∧ IsPt H p ns ∧ IsPt H q ms ∧ ns.length = 5 ∧ ms.length = 5 ∧ LabN ns ∧ LabN ms ∧
  (B.most ≤ B.ts.length → ∀ H', Same H H' → E (.ref C_Full) none H') ∧ (¬ B.most ≤ B.ts.length → freeOf B.ts ns ms = false → ∀ H', Same H H' → E (.ref C_Taken) none H') ∧
  (¬ B.most ≤ B.ts.length → freeOf B.ts ns ms = true → ∀ l' kd' ads' H', Keeps H H' → TabAt C_Talk C_Table H' t (B.begin ns ms) dx l' kd' ads' → Q .non H')
theorem ok_Table_beginX {C_Full C_Taken : Addr} (O_Full : ExcC K mg "Full" C_Full) (O_Taken : ExcC K mg "Taken" C_Taken) (F : Fun K "begin" "Table.begin" s_Table_begin f fd) (gm_Table_is_full : FnM P w K mg base C_Table "is_full" 1 ["self"] (spFull C_Talk C_Table)) (gm_Table_free : FnM P w K mg base C_Table "free" 2 ["self", "label", "sent"] (spFree C_Talk C_Table)) (gm_Table_keep : FnM P w K mg base C_Table "keep" 1 ["self", "talks"] (spKeep C_Talk C_Table))
    (gi_Talk : FnI P w K mg base C_Talk 2 ["self", "label", "sent", "until"] (spTalkI C_Talk)) (m_Talk : mg "Talk" = some (.ref C_Talk)) (T : TxT K C_Talk C_Table) : FnOk P w K mg base (CXe P w) 4 f fd ["self", "label", "sent"] (spBeginX C_Talk C_Table C_Full C_Taken) := by
  refine fun_okX F sc_Table_begin (fun vs H Q E h => ?_) (fun cdv A outer s H vs Q E hr h => ?_)
  · obtain ⟨_, _, _, _, _, _, _, _, _, _, rfl, _⟩ := h
    rfl
  obtain ⟨t, p, q, dx, l, kd, B, ads, ns, ms, rfl, tb, ok, few, hp, hq, l5, m5, ln, lm, kf, kt, k⟩ := h
  have len := All2.len tb.tks
  refine ⟨_, (@pss_cons _ _ _ _ _ (@ps_if _ _ _ _ _ _ _ _ (@pt_val _ _ _ (@pe_methA0 _ _ _ _ _ _ _ _ (pv 0) hr (by rfl)) (by intro _; rfl)) (@pss_one _ _ _ (@ps_raise _ _ _ _ _ _ _ _ _ _ xeOut_cx O_Full rfl rfl (@pa_cons _ _ _ _ _ pe_str pa_nil (by rfl)) (by decide) (by rfl) (by rfl))) pss_nil) (@pss_cons _ _ _ _ _ (@ps_if _ _ _ _ _ _ _ _ (@pt_not _ _ _ _ (@pt_val _ _ _ (@pe_methA _ _ _ _ _ _ _ _ _ _ _ (pv 0) hr (@pa_cons _ _ _ _ _ (pv 1) (@pa_cons _ _ _ _ _ (pv 2) pa_nil (by rfl)) (by rfl)) (by rfl) (by rfl) (by rfl)) (by intro _; rfl))) (@pss_one _ _ _ (@ps_raise _ _ _ _ _ _ _ _ _ _ xeOut_cx O_Taken rfl rfl (@pa_cons _ _ _ _ _ (@pe_fstr _ _ _ _ _ _ (@pj_cons _ _ _ _ _ pe_str (@pj_cons _ _ _ _ _ (pe_repT hr (pv 1)) (@pj_cons _ _ _ _ _ pe_str (@pj_cons _ _ _ _ _ (pe_repT hr (pv 2)) (@pj_cons _ _ _ _ _ pe_str pj_nil (by rfl)) (by rfl)) (by rfl)) (by rfl)) (by rfl))) pa_nil (by rfl)) (by decide) (by rfl) (by rfl))) pss_nil) (@pss_one _ _ _ (@ps_expr _ _ _ _ (@pe_methA _ _ _ _ _ _ _ _ _ _ _ (pv 0) hr (@pa_cons _ _ _ _ _ (@pe_op _ _ _ _ _ _ _ _ op_catQ (@pe_fld _ _ _ _ _ (pv 0) rfl) (@pe_lst _ _ _ _ (@pa_cons _ _ _ _ _ (@pe_new _ _ _ _ _ _ _ _ _ _ _ _ gi_Talk hr (by decide) rfl m_Talk (@pa_cons _ _ _ _ _ (pv 1) (@pa_cons _ _ _ _ _ (pv 2) (@pa_cons _ _ _ _ _ (@pe_op _ _ _ _ _ _ _ _ op_add (@pe_fld _ _ _ _ _ (pv 0) rfl) (@pe_fld _ _ _ _ _ (pv 0) rfl)) pa_nil (by rfl)) (by rfl)) (by rfl)) (by decide) (by rfl) (by rfl)) pa_nil (by rfl)))) pa_nil (by rfl)) (by rfl) (by rfl) (by rfl)) (by rfl))))), ?_⟩
  rw [st_Table_begin]
  walk_at "sv"
  refine MethR.go gm_Table_is_full tb.tab T.table (tab_no (by decide)) (by decide) ?_
  walk_at "sv"
  refine ⟨t, dx, l, kd, B, ads, rfl, tb, ?_⟩
  walk_at "sv"
  refine BrS.dec (fun z => ?_) fun nf => ?_
  · walk_at "sv"
    exact RaR.go (by simp) (kf z H (Same.refl _))
  walk_at "sv"
  refine MethR.go gm_Table_free tb.tab T.table (tab_no (by decide)) (by decide) ?_
  walk_at "sv"
  refine ⟨t, p, q, dx, l, kd, B, ads, ns, ms, rfl, tb, hp, hq, m5, fun H1 s1 => ?_⟩
  cases fr : freeOf B.ts ns ms with
  | false =>
    walk_at "sv"
    have e1 : (Str.empty ++ ("a talk of " : Str)).length = 10 := by decide
    have e2 : (" and " : Str).length = 5 := by decide
    have e3 : (" would not have keys of its own" : Str).length = 31 := by decide
    refine JnR.go (by rw [e1]; decide) ?_
    walk_at "sv"
    refine RepA.go (hp.same s1) ln fun z1 hz1 => ?_
    refine JnR.go (by rw [Str.length_append, e1]; omega) ?_
    walk_at "sv"
    refine JnR.go (by rw [Str.length_append, Str.length_append, e1, e2]; omega) ?_
    walk_at "sv"
    refine RepA.go (hq.same s1) lm fun z2 hz2 => ?_
    refine JnR.go (by rw [Str.length_append, Str.length_append, Str.length_append, e1, e2]; omega) ?_
    walk_at "sv"
    refine JnR.go (by rw [Str.length_append, Str.length_append, Str.length_append, Str.length_append, e1, e2, e3]; omega) ?_
    walk_at "sv"
    exact RaR.go (by simp) (kt nf fr H1 s1)
  | true =>
  have k := k nf fr
  walk_at "sv"
  have tab1 := s1 _ _ tb.tab
  have lst1 := s1 _ _ tb.lst
  refine MethR.go gm_Table_keep tab1 T.table (tab_no (by decide)) (by decide) ?_
  walk_at "sv"
  refine FldR.go tab1 T.table T.n_talks tb_talks ?_
  walk_at "sv"
  refine FldR.go tab1 T.table T.n_time tb_time ?_
  walk_at "sv"
  refine FldR.go tab1 T.table T.n_short tb_short ?_
  walk_at "sv"
  refine fun a dxa na ndx ne => ?_
  have s2 : Same H1 (upd (upd H1 dxa (.own a)) a (.ins C_Talk dxa [])) := (same_new ndx (.own a)).trans (same_new (by rw [upd_ne (Ne.symm ne)]; exact na) _)
  have ha2 : upd (upd H1 dxa (.own a)) a (.ins C_Talk dxa []) a = some (.ins C_Talk dxa []) := upd_same
  generalize upd (upd H1 dxa (.own a)) a (.ins C_Talk dxa []) = H2 at *
  have s12 := s1.trans s2
  refine ⟨a, dxa, p, q, B.time + B.short, ns, ms, rfl, ha2, hp.same s12, hq.same s12, m5, fun d H3 nd b3 tk3 => ⟨rfl, ?_⟩⟩
  have s3 : Same H1 H3 := fun x o e => b3 x o (ne_of_none e na) (s2 x o e)
  refine LstR.go (by simp) fun l1 nl1 => ?_
  have s4 := same_new nl1 (.lst [.ref a])
  have hl1 : upd H3 l1 (.lst [.ref a]) l1 = some (.lst [.ref a]) := upd_same
  generalize upd H3 l1 (.lst [.ref a]) = H4 at *
  have s34 := s3.trans s4
  refine catQ_go (SqL.of (s34 _ _ lst1)) (SqL.of hl1) (by rw [List.length_map, List.length_singleton]; omega) fun l2 nl2 => ?_
  have s5 := same_new nl2 (.lst ((ads.map fun ad : Addr × Addr => V.ref ad.1) ++ [.ref a]))
  have hl2 : upd H4 l2 (.lst ((ads.map fun ad : Addr × Addr => V.ref ad.1) ++ [.ref a])) l2 = some (.lst ((ads ++ [(a, d)]).map fun ad : Addr × Addr => V.ref ad.1)) := by
    rw [upd_same, List.map_append]
    rfl
  generalize upd H4 l2 (.lst ((ads.map fun ad : Addr × Addr => V.ref ad.1) ++ [.ref a])) = H5 at *
  have s35 := s34.trans s5
  have s15 := s1.trans s35
  have tab5 := s35 _ _ tab1
  have tk5 : All2 (TkAt C_Talk H5) (ads ++ [(a, d)]) (B.ts ++ [⟨ns, ms, false, B.time + B.short, []⟩]) := (All2.imp tb.tks fun _ _ r => r.same s15).snoc (tk3.same (s4.trans s5))
  walk_at "sv"
  refine ⟨t, dx, l2, l, kd, B, _, _, rfl, tab5, hl2, tk5, ok_snoc ok few l5 m5 fr, fun kd' H6 nk b6 h6 hk6 => ?_⟩
  walk_at "sv"
  have fresh : ∀ ad ∈ ads, ad.1 ≠ a ∧ ad.2 ≠ d := fun ad had => by
    obtain ⟨i, ea⟩ := List.getElem?_of_mem had
    obtain ⟨x, ex, dx', p', q', r', h1, _, _, _, h2⟩ := All2.at tb.tks ea
    refine ⟨fun e => ?_, fun e => ?_⟩
    · have := s1 _ _ h1
      rw [e, na] at this
      cases this
    · have := s12 _ _ h2
      rw [e, nd] at this
      cases this
  refine k l2 kd' _ H6 ((Same.keeps s15).trans (b6.keeps tab5 h6)) (kept_tab tab5 hl2 tk5 ?_ ?_ nk b6 h6 hk6)
  · rw [List.map_append, List.nodup_append]
    refine ⟨tb.nd1, by simp, fun u hu v hv e => ?_⟩
    obtain ⟨ad, had, rfl⟩ := List.mem_map.mp hu
    obtain rfl := List.mem_singleton.mp hv
    exact (fresh ad had).1 e
  · rw [List.map_append, List.nodup_append]
    refine ⟨tb.nd2, by simp, fun u hu v hv e => ?_⟩
    obtain ⟨ad, had, rfl⟩ := List.mem_map.mp hu
    obtain rfl := List.mem_singleton.mp hv
    exact (fresh ad had).2 e
end
section
variable {C_Talk C_Table C_OutOfTime C_SieveError : Addr}
theorem str_len' (z : Str) : z.length = z.cps.toList.length := Array.length_toList.symm
theorem num_len60 {n : Int} (h0 : 0 ≤ n) (h1 : n < 10 ^ 60) : (Str.ofString (toString n)).length ≤ 61 := by
  have a := int_text_length_le10 (a := n) (k := 60) (by decide) (by omega)
  have b : (Str.ofString (toString n)).length = (toString n).length := by
    rw [str_len', Str.ofString_eq_toList]
    simp [String.length_toList]
  rw [b]
  exact a
theorem FmtR.num {n : Int} {H : Hp} {Q : VK} (h0 : 0 ≤ n) (h1 : n < 10 ^ 60) (q : Q (.str (Str.ofString (toString n))) H) : FmtR (.int n) H Q := .inr ⟨n, rfl, log_small h0 (by omega), q⟩
def spXMom (C : Addr) : Sp := fun vs H Q _ => ∃ (a : Addr) (n : Int), vs = [.ref a, .int n] ∧ H a = some (exN a C none) ∧ 0 ≤ n ∧ n < 10 ^ 60 ∧ ∀ d, H d = none → Q .non (upd (upd H d (.xd [("moment", .int n)])) a (exN a C (some d)))
theorem ok_OutOfTime_init {N : Addr} (F : Fun K "__init__" "OutOfTime.__init__" s_OutOfTime___init__ f fd) (m_SieveError : mg "SieveError" = some (.ref C_SieveError)) (xb_SieveError : ExcB K C_SieveError) (k : ExcK K C_OutOfTime N) (xs : ExcS K C_OutOfTime) (na : NoAttr K C_OutOfTime "moment") : FnOk P w K mg base CX0 1 f fd ["self", "moment"] (spXMom C_OutOfTime) := by
  refine F.ok sc_OutOfTime___init__ (fun vs H Q E h => ?_) (fun cdv A outer s H vs Q E hr h => ?_)
  · obtain ⟨_, _, rfl, _⟩ := h
    rfl
  obtain ⟨a, n, rfl, ha, n0, n1, q⟩ := h
  refine ⟨_, (@pss_cons _ _ _ _ _ (@ps_expr _ _ _ _ (@pe_xinit _ _ _ _ _ _ _ _ _ (@pe_glob _ _ (.ref C_SieveError) _ _ rfl m_SieveError rfl (by decide)) xb_SieveError (@pa_cons _ _ _ _ _ (pv 0) (@pa_cons _ _ _ _ _ (@pe_fstr _ _ _ _ _ _ (@pj_cons _ _ _ _ _ pe_str (@pj_cons _ _ _ _ _ (@pe_fmt _ _ _ _ (pv 1)) (@pj_cons _ _ _ _ _ pe_str pj_nil (by rfl)) (by rfl)) (by rfl))) pa_nil (by rfl)) (by rfl)) (by rfl) (by rfl) (by rfl)) (by rfl)) (@pss_one _ _ _ (@ps_fldX _ _ _ _ _ _ _ _ (pv 0) (pv 1) rfl))), ?_⟩
  rw [st_OutOfTime___init__]
  walk_at "sv"
  have e1 : (Str.empty ++ ("the time is " : Str)).length = 12 := by decide
  have e2 : (" already" : Str).length = 8 := by decide
  have nl := num_len60 n0 n1
  refine JnR.go (by rw [e1]; decide) ?_
  walk_at "sv"
  refine FmtR.num n0 n1 ?_
  refine JnR.go (by rw [Str.length_append, e1]; omega) ?_
  walk_at "sv"
  refine JnR.go (by rw [Str.length_append, Str.length_append, e1, e2]; omega) ?_
  walk_at "sv"
  refine ⟨a, C_OutOfTime, N, none, _, rfl, ha, k, ?_⟩
  refine ⟨a, C_OutOfTime, rfl, ha, xs, na, q⟩
def spAtX (C_Talk C_Table C_OutOfTime : Addr) : Sp := fun vs H Q E => ∃ (t dx l kd : Addr) (B : Tb) (ads : List (Addr × Addr)) (m : Int), vs = [.ref t, .int m] ∧ TabAt C_Talk C_Table H t B dx l kd ads ∧ m < B.time ∧ 0 ≤ B.time ∧ B.time < 10 ^ 60 ∧ ∀ d H', Same H H' → H' d = some (.xd [("moment", .int B.time)]) → E (.ref C_OutOfTime) (some d) H'
theorem ok_Table_atX (F : Fun K "at" "Table.at" s_Table_at f fd) (X_OutOfTime : XcI P w K mg base "OutOfTime" C_OutOfTime 1 ["self", "moment"] (spXMom C_OutOfTime)) (gm_Table_keep : FnM P w K mg base C_Table "keep" 1 ["self", "talks"] (spKeep C_Talk C_Table)) (T : TxT K C_Talk C_Table) : FnOk P w K mg base (CXe P w) 3 f fd ["self", "moment"] (spAtX C_Talk C_Table C_OutOfTime) := by
  obtain ⟨N, fI, fdI, O_OutOfTime, G_OutOfTime, B_OutOfTime⟩ := X_OutOfTime.ex
  refine fun_okX F sc_Table_at (fun vs H Q E h => ?_) (fun cdv A outer s H vs Q E hr h => ?_)
  · obtain ⟨_, _, _, _, _, _, _, rfl, _⟩ := h
    rfl
  obtain ⟨t, dx, l, kd, B, ads, m, rfl, tb, lt, t0, t1, q⟩ := h
  refine ⟨_, (@pss_cons _ _ _ _ _ (@ps_if _ _ _ _ _ _ _ _ (@pt_cmpR _ _ _ _ _ _ _ _ op_lt (pv 1) (@pe_fld _ _ _ _ _ (pv 0) rfl) (nomark _)) (@pss_one _ _ _ (@ps_raiseI _ _ _ _ _ _ _ _ _ _ _ _ _ _ _ _ xeOut_cx O_OutOfTime G_OutOfTime (hr.mono (by decide)) B_OutOfTime rfl rfl (@pa_cons _ _ _ _ _ (@pe_fld _ _ _ _ _ (pv 0) rfl) pa_nil (by rfl)) (by decide) (by rfl) (by rfl))) pss_nil) (@pss_cons _ _ _ _ _ (@ps_fld _ _ _ _ _ _ _ _ (pv 0) (pv 1) rfl) (@pss_one _ _ _ (@ps_expr _ _ _ _ (@pe_methA _ _ _ _ _ _ _ _ _ _ _ (pv 0) hr (@pa_cons _ _ _ _ _ (@pe_comp _ _ (["talk"]) ([1]) _ _ _ _ _ _ _ _ _ rfl (COk.of (out := defScope s_Table_at) (N := ["self", "moment"]) rfl rfl (by decide +kernel)) (@pi_list _ _ _ _ (@pe_fld _ _ _ _ _ (pv 0) rfl)) (fun _ _ _ => (@pg_name _ _ (0) _ (show List.Nodup (["talk", "moment"] : List Str) by decide +kernel) rfl (Or.inl rfl) (by first | exact .inl rfl | exact .inr rfl | assumption))) (fun _ _ _ => (@pifs_one _ _ _ (@pt_cmpR _ _ _ _ _ _ _ _ op_le (pv 1) (@pe_fldK _ (K) _ _ _ _ rfl (pv 0) rfl) (nomark _)))) (fun _ _ _ => (pv 0)) (by intro _; rfl)) pa_nil (by rfl)) (by rfl) (by rfl) (by rfl)) (by rfl))))), ?_⟩
  rw [st_Table_at]
  walk_at "sv"
  refine FldR.go tb.tab T.table T.n_time tb_time ?_
  walk_at "sv"
  rw [decide_eq_true lt]
  walk_at "sv"
  refine FldR.go tb.tab T.table T.n_time tb_time ?_
  walk_at "sv"
  refine ⟨show 1 ≤ sizeLine by decide, fun a na => ⟨a, B.time, rfl, upd_same, t0, t1, fun d nd' => ?_⟩⟩
  have nda : d ≠ a := fun e => by
    rw [e, upd_same] at nd'
    cases nd'
  have nd0 : H d = none := by
    rw [upd_ne nda] at nd'
    exact nd'
  refine ⟨rfl, some d, upd_same, fun d' e => ?_, ?_⟩
  · cases e
    exact ⟨nda, _, by rw [upd_ne nda, upd_same]⟩
  · refine q d _ (fun x o' ex => ?_) ?_
    · have n1 : x ≠ a := ne_of_none ex na
      have n2 : x ≠ d := ne_of_none ex nd0
      unfold del
      rw [if_neg n1, upd_ne n1, upd_ne n2, upd_ne n1]
      exact ex
    · unfold del
      rw [if_neg nda, upd_ne nda, upd_same]
end
theorem mod_in (a : Int) {b : Int} (h : 0 < b) : 0 ≤ a % b ∧ a % b < b := ⟨Int.emod_nonneg _ (by omega), Int.emod_lt_of_pos _ h⟩
theorem nat_of {a : Int} {n : Nat} (h0 : 0 ≤ a) (h1 : a < (n : Int)) : ∃ m : Nat, a = (m : Int) ∧ m < n := ⟨a.toNat, by omega, by omega⟩
theorem ok_lflip (F : Fun K "_law_flip" "_law_flip" s__law_flip f fd) : FnOk P w K mg base CX0 1 f fd ["_law_label_here"] spFlip := by
  refine F.ok sc__law_flip (fun vs H Q E h => ?_) (fun cdv A outer s H vs Q E hr h => ?_)
  · obtain ⟨_, _, _, _, _, _, rfl, _⟩ := h
    rfl
  obtain ⟨p, k, sd, n, r, fr, rfl, hp, q⟩ := h
  refine ⟨_, (@pss_one _ _ _ (@ps_ret _ _ _ _ (@pe_tup _ _ _ _ _ (@pa_cons _ _ _ _ _ (@pe_ix _ _ _ _ _ _ _ ix_tup (pv 0) pe_int (fun _ _ => rfl)) (@pa_cons _ _ _ _ _ (@pe_ix _ _ _ _ _ _ _ ix_tup (pv 0) pe_int (fun _ _ => rfl)) (@pa_cons _ _ _ _ _ (@pe_ix _ _ _ _ _ _ _ ix_tup (pv 0) pe_int (fun _ _ => rfl)) (@pa_cons _ _ _ _ _ (@pe_ix _ _ _ _ _ _ _ ix_tup (pv 0) pe_int (fun _ _ => rfl)) (@pa_cons _ _ _ _ _ (@pe_ix _ _ _ _ _ _ _ ix_tup (pv 0) pe_int (fun _ _ => rfl)) pa_nil (by rfl)) (by rfl)) (by rfl)) (by rfl)) (by rfl))))), ?_⟩
  rw [st__law_flip]
  walk_at "sv"
  refine ixT_go (i := 0) (SqT.of hp) rfl ?_
  walk_at "sv"
  refine ixT_go (i := 3) (SqT.of hp) rfl ?_
  walk_at "sv"
  refine ixT_go (i := 4) (SqT.of hp) rfl ?_
  walk_at "sv"
  refine ixT_go (i := 1) (SqT.of hp) rfl ?_
  walk_at "sv"
  refine ixT_go (i := 2) (SqT.of hp) rfl ?_
  walk_at "sv"
  refine TupR.go (by simp) fun t nt => ?_
  exact q _ _ nt (same_new nt _) upd_same
def EndAt (H : Hp) (v : V) (e : Int × Int) : Prop := ∃ a, v = .ref a ∧ H a = some (.tup [.int e.1, .int e.2])
theorem EndAt.same {H H' : Hp} {v : V} {e : Int × Int} (h : EndAt H v e) (s : Same H H') : EndAt H' v e := by
  obtain ⟨a, e, h⟩ := h
  exact ⟨a, e, s _ _ h⟩
def EndOk (e : Int × Int) : Prop := 0 ≤ e.1 ∧ e.1 < 4294967296 ∧ 0 ≤ e.2 ∧ e.2 < 65536
def labOf (k : Int) (e e' : Int × Int) : List Int := [k, e.1, e.2, e'.1, e'.2]
theorem lab_n {k : Int} {e e' : Int × Int} (h0 : 0 ≤ k) (h1 : k < 256) (he : EndOk e) (he' : EndOk e') : LabN (labOf k e e') := by
  obtain ⟨a1, a2, a3, a4⟩ := he
  obtain ⟨b1, b2, b3, b4⟩ := he'
  refine ⟨by show 5 ≤ 8; decide, fun n hn => ?_⟩
  unfold labOf at hn
  simp only [List.mem_cons, List.not_mem_nil, or_false] at hn
  rcases hn with rfl | rfl | rfl | rfl | rfl <;> constructor <;> omega
theorem pick_end {H : Hp} {vs : List V} {es : List (Int × Int)} (al : All2 (EndAt H) vs es) (l4 : es.length = 4) (c : Int) : ∃ (m : Nat) (a : Addr) (e : Int × Int), c % 4 = (m : Int) ∧ vs[m]? = some (.ref a) ∧ es[m]? = some e ∧ H a = some (.tup [.int e.1, .int e.2]) := by
  obtain ⟨h0, h1⟩ := mod_in c (show (0 : Int) < 4 by decide)
  obtain ⟨m, em, lm⟩ := nat_of (n := 4) h0 h1
  obtain ⟨e, ee⟩ := at_of lm l4
  obtain ⟨v, ev, a, rfl, ha⟩ := All2.ix al ee
  exact ⟨m, a, e, em, ev, ee, ha⟩
def EndsAt (H : Hp) (t : Addr) : Prop := ∃ (lk le : Addr) (ks : List Int) (evs : List V) (es : List (Int × Int)), H t = some (.tup [.ref lk, .ref le]) ∧ H lk = some (.lst (ks.map V.int)) ∧ ks.length = 4 ∧ (∀ k ∈ ks, 0 ≤ k ∧ k < 256) ∧ H le = some (.lst evs) ∧ All2 (EndAt H) evs es ∧ es.length = 4 ∧ ∀ e ∈ es, EndOk e
theorem EndsAt.keeps {H H' : Hp} {t : Addr} (h : EndsAt H t) (k : Keeps H H') : EndsAt H' t := by
  obtain ⟨lk, le, ks, evs, es, h1, h2, h3, h4, h5, h6, h7, h8⟩ := h
  exact ⟨lk, le, ks, evs, es, k.tup _ _ h1, k.lst _ _ h2, h3, h4, k.lst _ _ h5, All2.imp h6 fun _ _ r => by
    obtain ⟨a, e, h⟩ := r
    exact ⟨a, e, k.tup _ _ h⟩, h7, h8⟩
def spEnds : Sp := fun vs H Q _ => ∃ c : Int, vs = [.int c] ∧ ∀ t H', Same H H' → EndsAt H' t → Q (.ref t) H'
theorem ok_ends (F : Fun K "_law_ends" "_law_ends" s__law_ends f fd) (g__law_stream : Fn P w K mg base "_law_stream" 1 ["_law_cell", "_law_many"] spStream) : FnOk P w K mg base CX0 2 f fd ["_law_cell"] spEnds := by
  refine F.ok sc__law_ends (fun vs H Q E h => ?_) (fun cdv A outer s H vs Q E hr h => ?_)
  · obtain ⟨_, rfl, _⟩ := h
    rfl
  obtain ⟨c, rfl, q⟩ := h
  refine ⟨_, (@pss_cons _ _ _ _ _ (@ps_set _ _ (1) _ _ _ _ sc__law_ends.nd rfl (Or.inl rfl) (@pe_fn _ _ _ _ _ _ _ _ _ _ _ g__law_stream hr (by decide) rfl (@pa_cons _ _ _ _ _ (pv 0) (@pa_cons _ _ _ _ _ pe_int pa_nil (by rfl)) (by rfl)) (by decide) (by rfl) (by rfl)) (by rfl) (by first | exact .inl rfl | exact .inr rfl | assumption)) (@pss_cons _ _ _ _ _ (@ps_set _ _ (2) _ _ _ _ sc__law_ends.nd rfl (Or.inl rfl) (@pe_op _ _ _ _ _ _ _ _ op_mod (@pe_ix _ _ _ _ _ _ _ ix_list (pv 1) pe_int (fun _ _ => rfl)) pe_int) (by rfl) (by first | exact .inl rfl | exact .inr rfl | assumption)) (@pss_cons _ _ _ _ _ (@ps_set _ _ (3) _ _ _ _ sc__law_ends.nd rfl (Or.inl rfl) (@pe_tup _ _ _ _ _ (@pa_cons _ _ _ _ _ (@pe_op _ _ _ _ _ _ _ _ op_mod (@pe_ix _ _ _ _ _ _ _ ix_list (pv 1) pe_int (fun _ _ => rfl)) pe_int) (@pa_cons _ _ _ _ _ (@pe_op _ _ _ _ _ _ _ _ op_mod (@pe_ix _ _ _ _ _ _ _ ix_list (pv 1) pe_int (fun _ _ => rfl)) pe_int) pa_nil (by rfl)) (by rfl))) (by rfl) (by first | exact .inl rfl | exact .inr rfl | assumption)) (@pss_cons _ _ _ _ _ (@ps_set _ _ (4) _ _ _ _ sc__law_ends.nd rfl (Or.inl rfl) (@pe_tup _ _ _ _ _ (@pa_cons _ _ _ _ _ (@pe_op _ _ _ _ _ _ _ _ op_mod (@pe_ix _ _ _ _ _ _ _ ix_list (pv 1) pe_int (fun _ _ => rfl)) pe_int) (@pa_cons _ _ _ _ _ (@pe_op _ _ _ _ _ _ _ _ op_mod (@pe_ix _ _ _ _ _ _ _ ix_list (pv 1) pe_int (fun _ _ => rfl)) pe_int) pa_nil (by rfl)) (by rfl))) (by rfl) (by first | exact .inl rfl | exact .inr rfl | assumption)) (@pss_cons _ _ _ _ _ (@ps_set _ _ (5) _ _ _ _ sc__law_ends.nd rfl (Or.inl rfl) (@pe_lst _ _ _ _ (@pa_cons _ _ _ _ _ (pv 2) (@pa_cons _ _ _ _ _ (pv 2) (@pa_cons _ _ _ _ _ (pv 2) (@pa_cons _ _ _ _ _ (@pe_op _ _ _ _ _ _ _ _ op_mod (@pe_op _ _ _ _ _ _ _ _ op_add (pv 2) pe_int) pe_int) pa_nil (by rfl)) (by rfl)) (by rfl)) (by rfl))) (by rfl) (by first | exact .inl rfl | exact .inr rfl | assumption)) (@pss_one _ _ _ (@ps_ret _ _ _ _ (@pe_tup _ _ _ _ _ (@pa_cons _ _ _ _ _ (pv 5) (@pa_cons _ _ _ _ _ (@pe_lst _ _ _ _ (@pa_cons _ _ _ _ _ (pv 3) (@pa_cons _ _ _ _ _ (pv 4) (@pa_cons _ _ _ _ _ (@pe_tup _ _ _ _ _ (@pa_cons _ _ _ _ _ (@pe_ix _ _ _ _ _ _ _ ix_tup (pv 3) pe_int (fun _ _ => rfl)) (@pa_cons _ _ _ _ _ (@pe_ix _ _ _ _ _ _ _ ix_tup (pv 4) pe_int (fun _ _ => rfl)) pa_nil (by rfl)) (by rfl))) (@pa_cons _ _ _ _ _ (@pe_tup _ _ _ _ _ (@pa_cons _ _ _ _ _ (@pe_ix _ _ _ _ _ _ _ ix_tup (pv 4) pe_int (fun _ _ => rfl)) (@pa_cons _ _ _ _ _ (@pe_op _ _ _ _ _ _ _ _ op_mod (@pe_op _ _ _ _ _ _ _ _ op_add (@pe_ix _ _ _ _ _ _ _ ix_tup (pv 4) pe_int (fun _ _ => rfl)) pe_int) pe_int) pa_nil (by rfl)) (by rfl))) pa_nil (by rfl)) (by rfl)) (by rfl)) (by rfl))) pa_nil (by rfl)) (by rfl)))))))))), ?_⟩
  rw [st__law_ends]
  walk_at "sv"
  refine ⟨c, 5, rfl, by decide, fun l ds H1 nl s1 hl dl db => ?_⟩
  obtain ⟨d0, d1, d2, d3, d4, rfl⟩ := five dl
  have hl : H1 l = some (.lst [.int d0, .int d1, .int d2, .int d3, .int d4]) := hl
  walk_at "sv"
  refine ixL_go (i := 4) (SqL.of hl) rfl ?_
  walk_at "sv"
  refine ⟨by decide, ?_⟩
  walk_at "sv"
  refine ixL_go (i := 0) (SqL.of hl) rfl ?_
  walk_at "sv"
  refine ⟨by decide, ?_⟩
  walk_at "sv"
  refine ixL_go (i := 1) (SqL.of hl) rfl ?_
  walk_at "sv"
  refine ⟨by decide, ?_⟩
  walk_at "sv"
  refine TupR.go (by simp) fun a0 n0 => ?_
  have z0 := same_new n0 (.tup [.int (d0 % 4294967296), .int (d1 % 65536)])
  have h0 : upd H1 a0 (.tup [.int (d0 % 4294967296), .int (d1 % 65536)]) a0 = some (.tup [.int (d0 % 4294967296), .int (d1 % 65536)]) := upd_same
  generalize upd H1 a0 (.tup [.int (d0 % 4294967296), .int (d1 % 65536)]) = H2 at *
  have hl := z0 _ _ hl
  walk_at "sv"
  refine ixL_go (i := 2) (SqL.of hl) rfl ?_
  walk_at "sv"
  refine ⟨by decide, ?_⟩
  walk_at "sv"
  refine ixL_go (i := 3) (SqL.of hl) rfl ?_
  walk_at "sv"
  refine ⟨by decide, ?_⟩
  walk_at "sv"
  refine TupR.go (by simp) fun a1 n1 => ?_
  have z1 := same_new n1 (.tup [.int (d2 % 4294967296), .int (d3 % 65536)])
  have h1 : upd H2 a1 (.tup [.int (d2 % 4294967296), .int (d3 % 65536)]) a1 = some (.tup [.int (d2 % 4294967296), .int (d3 % 65536)]) := upd_same
  generalize upd H2 a1 (.tup [.int (d2 % 4294967296), .int (d3 % 65536)]) = H3 at *
  have h0 := z1 _ _ h0
  walk_at "sv"
  refine ⟨by decide, ?_⟩
  walk_at "sv"
  refine LstR.go (by simp) fun lk nlk => ?_
  have z2 := same_new nlk (.lst [.int (d4 % 256), .int (d4 % 256), .int (d4 % 256), .int ((d4 % 256 + 1) % 256)])
  have hlk : upd H3 lk (.lst [.int (d4 % 256), .int (d4 % 256), .int (d4 % 256), .int ((d4 % 256 + 1) % 256)]) lk = some (.lst ([d4 % 256, d4 % 256, d4 % 256, (d4 % 256 + 1) % 256].map V.int)) := upd_same
  generalize upd H3 lk (.lst [.int (d4 % 256), .int (d4 % 256), .int (d4 % 256), .int ((d4 % 256 + 1) % 256)]) = H4 at *
  have h0 := z2 _ _ h0
  have h1 := z2 _ _ h1
  walk_at "sv"
  refine ixT_go (i := 0) (SqT.of h0) rfl ?_
  walk_at "sv"
  refine ixT_go (i := 1) (SqT.of h1) rfl ?_
  walk_at "sv"
  refine TupR.go (by simp) fun a2 n2 => ?_
  have z3 := same_new n2 (.tup [.int (d0 % 4294967296), .int (d3 % 65536)])
  have h2 : upd H4 a2 (.tup [.int (d0 % 4294967296), .int (d3 % 65536)]) a2 = some (.tup [.int (d0 % 4294967296), .int (d3 % 65536)]) := upd_same
  generalize upd H4 a2 (.tup [.int (d0 % 4294967296), .int (d3 % 65536)]) = H5 at *
  have h0 := z3 _ _ h0
  have h1 := z3 _ _ h1
  walk_at "sv"
  refine ixT_go (i := 0) (SqT.of h1) rfl ?_
  walk_at "sv"
  refine ixT_go (i := 1) (SqT.of h1) rfl ?_
  walk_at "sv"
  refine ⟨by decide, ?_⟩
  walk_at "sv"
  refine TupR.go (by simp) fun a3 n3 => ?_
  have z4 := same_new n3 (.tup [.int (d2 % 4294967296), .int ((d3 % 65536 + 1) % 65536)])
  have h3 : upd H5 a3 (.tup [.int (d2 % 4294967296), .int ((d3 % 65536 + 1) % 65536)]) a3 = some (.tup [.int (d2 % 4294967296), .int ((d3 % 65536 + 1) % 65536)]) := upd_same
  generalize upd H5 a3 (.tup [.int (d2 % 4294967296), .int ((d3 % 65536 + 1) % 65536)]) = H6 at *
  have h0 := z4 _ _ h0
  have h1 := z4 _ _ h1
  have h2 := z4 _ _ h2
  refine LstR.go (by simp) fun le nle => ?_
  have z5 := same_new nle (.lst [.ref a0, .ref a1, .ref a2, .ref a3])
  have hle : upd H6 le (.lst [.ref a0, .ref a1, .ref a2, .ref a3]) le = some (.lst [.ref a0, .ref a1, .ref a2, .ref a3]) := upd_same
  generalize upd H6 le (.lst [.ref a0, .ref a1, .ref a2, .ref a3]) = H7 at *
  have h0 := z5 _ _ h0
  have h1 := z5 _ _ h1
  have h2 := z5 _ _ h2
  have h3 := z5 _ _ h3
  have z35 := (z3.trans z4).trans z5
  have hlk := z35 _ _ hlk
  walk_at "sv"
  refine TupR.go (by simp) fun t nt => ?_
  have z6 := same_new nt (.tup [.ref lk, .ref le])
  have w1 := fun z : Int => mod_in z (show (0 : Int) < 4294967296 by decide)
  have w2 := fun z : Int => mod_in z (show (0 : Int) < 65536 by decide)
  have w3 := fun z : Int => mod_in z (show (0 : Int) < 256 by decide)
  refine q t _ (((((s1.trans z0).trans z1).trans z2).trans z35).trans z6) ⟨lk, le, _, _, [(d0 % 4294967296, d1 % 65536), (d2 % 4294967296, d3 % 65536), (d0 % 4294967296, d3 % 65536), (d2 % 4294967296, (d3 % 65536 + 1) % 65536)], upd_same, z6 _ _ hlk, rfl, fun k hk => ?_, z6 _ _ hle, .cons ⟨a0, rfl, z6 _ _ h0⟩ (.cons ⟨a1, rfl, z6 _ _ h1⟩ (.cons ⟨a2, rfl, z6 _ _ h2⟩ (.cons ⟨a3, rfl, z6 _ _ h3⟩ .nil))), rfl, fun e he => ?_⟩
  · simp only [List.mem_cons, List.not_mem_nil, or_false] at hk
    rcases hk with rfl | rfl | rfl | rfl
    · exact w3 _
    · exact w3 _
    · exact w3 _
    · exact w3 _
  · simp only [List.mem_cons, List.not_mem_nil, or_false] at he
    rcases he with rfl | rfl | rfl | rfl
    · exact ⟨(w1 d0).1, (w1 d0).2, (w2 d1).1, (w2 d1).2⟩
    · exact ⟨(w1 d2).1, (w1 d2).2, (w2 d3).1, (w2 d3).2⟩
    · exact ⟨(w1 d0).1, (w1 d0).2, (w2 d3).1, (w2 d3).2⟩
    · exact ⟨(w1 d2).1, (w1 d2).2, (w2 (d3 % 65536 + 1)).1, (w2 (d3 % 65536 + 1)).2⟩
def spLabel : Sp := fun vs H Q _ => ∃ (c : Int) (t : Addr), vs = [.int c, .ref t] ∧ EndsAt H t ∧ ∀ p lab H', Same H H' → IsPt H' p lab → lab.length = 5 → LabN lab → Q (.ref p) H'
theorem ok_label (F : Fun K "_law_label" "_law_label" s__law_label f fd) : FnOk P w K mg base CX0 1 f fd ["_law_draw", "_law_ends_here"] spLabel := by
  refine F.ok sc__law_label (fun vs H Q E h => ?_) (fun cdv A outer s H vs Q E hr h => ?_)
  · obtain ⟨_, _, rfl, _⟩ := h
    rfl
  obtain ⟨c, t, rfl, ⟨lk, le, ks, evs, es, ht, hlk, k4, kb, hle, al, e4, eok⟩, q⟩ := h
  refine ⟨_, (@pss_cons _ _ _ _ _ (@ps_asg _ _ _ _ _ _ (pv 1) (@pg_tup _ _ _ _ _ _ rfl (@pgs_cons _ _ _ _ _ (@pg_name _ _ (2) _ sc__law_label.nd rfl (Or.inl rfl) (by first | exact .inl rfl | exact .inr rfl | assumption)) (@pgs_cons _ _ _ _ _ (@pg_name _ _ (3) _ sc__law_label.nd rfl (Or.inl rfl) (by first | exact .inl rfl | exact .inr rfl | assumption)) pgs_nil (by rfl)) (by rfl)) (by rfl) (by rfl)) (by rfl) (by rfl) (by rfl)) (@pss_one _ _ _ (@ps_ret _ _ _ _ (@pe_op _ _ _ _ _ _ _ _ op_catA (@pe_op _ _ _ _ _ _ _ _ op_catA (@pe_tup _ _ _ _ _ (@pa_cons _ _ _ _ _ (@pe_ix _ _ _ _ _ _ _ ix_list (pv 2) (@pe_op _ _ _ _ _ _ _ _ op_mod (pv 0) pe_int) (fun _ _ => rfl)) pa_nil (by rfl))) (@pe_ix _ _ _ _ _ _ _ ix_list (pv 3) (@pe_op _ _ _ _ _ _ _ _ op_mod (@pe_op _ _ _ _ _ _ _ _ op_divW (pv 0) pe_int) pe_int) (fun _ _ => rfl))) (@pe_ix _ _ _ _ _ _ _ ix_list (pv 3) (@pe_op _ _ _ _ _ _ _ _ op_mod (@pe_op _ _ _ _ _ _ _ _ op_divW (pv 0) pe_int) pe_int) (fun _ _ => rfl)))))), ?_⟩
  rw [st__law_label]
  walk_at "sv"
  refine gtup2 (SqT.of ht) ?_
  walk_at "sv"
  refine ⟨by decide, ?_⟩
  obtain ⟨h0, h1⟩ := mod_in c (show (0 : Int) < 4 by decide)
  obtain ⟨m, em, lm⟩ := nat_of (n := 4) h0 h1
  obtain ⟨k, ek⟩ := at_of lm k4
  rw [em]
  refine ixL_go (SqL.of hlk) (by rw [List.getElem?_map, ek]; rfl) ?_
  walk_at "sv"
  refine TupR.go (by simp) fun u nu => ?_
  have zu := same_new nu (.tup [.int k])
  have hu : upd H u (.tup [.int k]) u = some (.tup [.int k]) := upd_same
  generalize upd H u (.tup [.int k]) = H1 at *
  walk_at "sv"
  refine ⟨⟨by decide, by decide⟩, by decide, ?_⟩
  obtain ⟨m0, b0, e0, em0, ev0, ee0, hb0⟩ := pick_end al e4 (c / 4)
  rw [em0]
  refine ixL_go (SqL.of (zu _ _ hle)) ev0 ?_
  refine catA_go hu (zu _ _ hb0) (by simp) fun x H2 y2 hx => ?_
  have z2 := zu.trans y2
  walk_at "sv"
  refine ⟨⟨by decide, by decide⟩, by decide, ?_⟩
  obtain ⟨m1, b1, e1, em1, ev1, ee1, hb1⟩ := pick_end al e4 (c / 16)
  rw [em1]
  refine ixL_go (SqL.of (z2 _ _ hle)) ev1 ?_
  refine catA_go hx (z2 _ _ hb1) (by simp) fun p H3 y3 hp => ?_
  obtain ⟨kb0, kb1⟩ := kb k (List.mem_of_getElem? ek)
  exact q p (labOf k e0 e1) H3 (z2.trans y3) hp rfl (lab_n kb0 kb1 (eok _ (List.mem_of_getElem? ee0)) (eok _ (List.mem_of_getElem? ee1)))
def rwD (x : Tk) : PyData := .tuple [pointD x.lab, pointD x.sent, .bool x.ans, .int x.til]
theorem rw_dts {H : Hp} {vs : List V} {xs : List Tk} (h : All2 (RwAt H) vs xs) : Dts H vs (xs.map rwD) := by
  induction h with
  | nil => exact .nil
  | cons h _ ih =>
    obtain ⟨t, p, q, rfl, ht, hp, hq⟩ := h
    exact .cons (.tup (.inl ht) (.cons hp.dt (.cons hq.dt (.cons (.bl _) (.cons (.int _) .nil))))) ih
theorem rw_shaped (xs : List Tk) : SeqAt.shaped (.list (xs.map rwD)) = true := by
  have pl : ∀ ns : List Int, PyData.canLayAll0 (ns.map .int) = true := canLayAll_of PyData.int fun z => by simp [PyData.canLay0]
  have pd : ∀ ns : List Int, PyData.depthAll (ns.map .int) ≤ 1 := depthAll_of PyData.int (n := 1) fun z => by simp [PyData.depth]
  have a := canLayAll_of rwD (fun x => by simp [rwD, pointD, PyData.canLay0, PyData.canLayAll0, pl]) xs
  have b := depthAll_of rwD (n := 10) (fun x => by
    have d1 := pd x.lab
    have d2 := pd x.sent
    simp [rwD, pointD, PyData.depth, PyData.depthAll]
    omega) xs
  exact shaped_of (by simp [PyData.canLay0, a]) (by simp only [PyData.depth]; omega)
theorem rw_eqv : ∀ xs : List Tk, PyData.eqvAll (xs.map rwD) (xs.map rwD) = true
  | [] => by simp [PyData.eqvAll]
  | x :: xs => by
    have a := (point_eqv x.lab x.lab).mpr rfl
    have b := (point_eqv x.sent x.sent).mpr rfl
    rw [List.map_cons, PyData.eqvAll, rw_eqv xs]
    simp [rwD, PyData.eqv, PyData.eqvAll, a, b]
theorem rws_same {H : Hp} {Q : VK} {neg : Bool} {a b : Addr} {vs us : List V} {xs : List Tk} (ha : H a = some (.lst vs)) (hb : H b = some (.lst us)) (la : All2 (RwAt H) vs xs) (lb : All2 (RwAt H) us xs) (q : Q (.bl (!neg)) H) : rEqD neg (.ref a) (.ref b) H Q := by
  refine ⟨_, _, .lst (.inl ha) (rw_dts la), .lst (.inl hb) (rw_dts lb), rw_shaped xs, rw_shaped xs, ?_⟩
  have e : PyData.eqv (.list (xs.map rwD)) (.list (xs.map rwD)) = true := by
    rw [PyData.eqv]
    exact rw_eqv xs
  rw [e]
  cases neg
  · exact q
  · exact q
theorem RwAt.same {H H' : Hp} {v : V} {x : Tk} (h : RwAt H v x) (s : Same H H') : RwAt H' v x := by
  obtain ⟨t, p, q, e, ht, hp, hq⟩ := h
  exact ⟨t, p, q, e, s _ _ ht, hp.same s, hq.same s⟩
theorem if_join {b : Bool} {t : TS} {D : Ends} {σ : L2.St} {H : Hp} (p : Bool → L2.St → Hp → Prop) (h2 : b = false → p false σ H) (rest : ∀ c σ' H', c = b → p c σ' H' → D.nx σ' H') (h1 : b = true → ∀ N : L2.St → Hp → Prop, (∀ σ' H', p true σ' H' → N σ' H') → t { D with nx := N } σ H) : BrS b (t D) (tNext D) σ H := by
  cases b with
  | true => exact h1 rfl D.nx fun σ' H' z => rest true σ' H' rfl z
  | false => exact rest false σ H rfl (h2 rfl)
--CUT--
section
open PySem PySem.Spec PyProof.Rows L2
def hidB (H : Hp) (S : Addr → Prop) (b : Addr) : Prop := S b ∨ ∃ a, S a ∧ H b = some (.own a)
open Classical in
noncomputable def cutH (H : Hp) (S : Addr → Prop) : Hp := fun b => if hidB H S b then none else H b
open Classical in
noncomputable def glueH (H : Hp) (S : Addr → Prop) (H2 : Hp) : Hp := fun b => if hidB H S b then H b else H2 b
section
variable {P : Program} {w : World} {H H2 : Hp} {h h' : Heap} {S : Addr → Prop} {b a : Addr} {o : HO}
theorem cut_in (hb : hidB H S b) : cutH H S b = none := if_pos hb
theorem cut_out (hb : ¬ hidB H S b) : cutH H S b = H b := if_neg hb
theorem glue_in (hb : hidB H S b) : glueH H S H2 b = H b := if_pos hb
theorem glue_out (hb : ¬ hidB H S b) : glueH H S H2 b = H2 b := if_neg hb
theorem cut_some (e : cutH H S b = some o) : ¬ hidB H S b ∧ H b = some o := by
  by_cases hb : hidB H S b
  · rw [cut_in hb] at e
    cases e
  · exact ⟨hb, (cut_out hb).symm.trans e⟩
theorem cut_none (e : H b = none) : cutH H S b = none := by
  by_cases hb : hidB H S b
  · exact cut_in hb
  · rw [cut_out hb, e]
theorem hid_tup (hS : ∀ a, S a → Mut (H a)) {xs : List V} (e : H b = some (.tup xs)) : ¬ hidB H S b := by
  rintro (s | ⟨a, _, e'⟩)
  · have := hS b s
    rw [e] at this
    exact this
  · rw [e] at e'
    cases e'
theorem hid_frz (hS : ∀ a, S a → Mut (H a)) {ob : Obj} {u : HO} (e : H b = some (.frz ob u)) : ¬ hidB H S b := by
  rintro (s | ⟨a, _, e'⟩)
  · have := hS b s
    rw [e] at this
    exact this
  · rw [e] at e'
    cases e'
theorem hid_tbl (hS : ∀ a, S a → Mut (H a)) {ps : Array Value} (e : H b = some (.tbl ps)) : ¬ hidB H S b := by
  rintro (s | ⟨a, _, e'⟩)
  · have := hS b s
    rw [e] at this
    exact this
  · rw [e] at e'
    cases e'
theorem hid_own (hS : ∀ a, S a → Mut (H a)) (e : H b = some (.own a)) : hidB H S b ↔ S a := by
  constructor
  · rintro (s | ⟨c, sc, e'⟩)
    · have := hS b s
      rw [e] at this
      exact this.elim
    · rw [e] at e'
      cases e'
      exact sc
  · exact fun s => .inr ⟨a, s, e⟩
theorem hid_some (hS : ∀ a, S a → Mut (H a)) (hb : hidB H S b) : ∃ o, H b = some o := by
  rcases hb with s | ⟨a, _, e⟩
  · have := hS b s
    cases e : H b with
    | none =>
      rw [e] at this
      exact this.elim
    | some o => exact ⟨o, rfl⟩
  · exact ⟨_, e⟩
theorem cut_ok (hS : ∀ a, S a → Mut (H a)) (x : HOk P w H h) : HOk P w (cutH H S) h := fun b o e => by
  obtain ⟨nb, e⟩ := cut_some e
  refine (x b o e).stay (fun _ _ _ q => q) (fun c q => ?_) fun c xs q => ?_
  · rw [cut_out fun z => nb (.inl ((hid_own hS q).mp z))]
    exact q
  · rw [cut_out (hid_tup hS q)]
    exact q
theorem ok_get (x : ObjOk P w H h a o) : ∃ ob, h.get? a = some ob := by
  cases o with
  | lst xs => obtain ⟨_, _, _, _, e⟩ := x; exact ⟨_, e⟩
  | tup xs => obtain ⟨_, _, _, ob, e, _⟩ := x; exact ⟨_, e⟩
  | dK kvs => obtain ⟨_, _, _, _, ob, _, _, e, _⟩ := x; exact ⟨_, e⟩
  | dT kvs => obtain ⟨_, _, _, _, ob, _, _, e, _⟩ := x; exact ⟨_, e⟩
  | set S n => obtain ⟨ob, _, _, _, e, _⟩ := x; exact ⟨_, e⟩
  | ins C dx fs => obtain ⟨_, _, _, e, _⟩ := x; exact ⟨_, e⟩
  | own y => exact x
  | xd fs => obtain ⟨_, ⟨ob, _, _, e, _⟩, _⟩ := x; exact ⟨_, e⟩
  | rng lo hi => obtain ⟨_, _, _, e⟩ := x; exact ⟨_, e⟩
  | frz ob u => obtain ⟨e, _⟩ := x; exact ⟨_, e⟩
  | tbl ps => exact ⟨_, (show h.get? a = some _ from x)⟩
  | met f y => exact ⟨_, (show h.get? a = some _ from x)⟩
  | ext φ => obtain ⟨_, e, _⟩ := x; exact e
theorem glue_ok {fs : List Addr} (hS : ∀ a, S a → Mut (H a)) (hf : ∀ b ∈ fs, H b = none) (x : HOk P w H h) (un : Un fs [] (cutH H S) H2 h h') (x2 : HOk P w H2 h') : Un fs [] H (glueH H S H2) h h' ∧ HOk P w (glueH H S H2) h' ∧ ∀ b, hidB H S b → H2 b = none := by
  have ne : ∀ b : Addr, b ∉ ([] : List Addr) := fun b z => absurd z (by simp)
  have nfs : ∀ b, hidB H S b → b ∉ fs := fun b hb z => by
    obtain ⟨o, e⟩ := hid_some hS hb
    rw [hf b z] at e
    cases e
  have kp : ∀ b o, hidB H S b → h.get? b = some o → h'.get? b = some o := fun b o hb e => un.keep b o e (cut_in hb) (nfs b hb) (ne b)
  have fr : ∀ b, hidB H S b → H2 b = none := fun b hb => by
    obtain ⟨o, e⟩ := hid_some hS hb
    obtain ⟨ob, eb⟩ := ok_get (x b o e)
    exact un.free b ob eb (cut_in hb) (ne b)
  have tup : ∀ b xs, H b = some (.tup xs) → glueH H S H2 b = some (.tup xs) := fun b xs e => by
    have nb := hid_tup hS e
    rw [glue_out nb]
    exact un.tups b xs ((cut_out nb).trans e)
  have out : ∀ b o, H2 b = some o → glueH H S H2 b = some o := fun b o e => by
    rw [glue_out fun hb => by
      rw [fr b hb] at e
      cases e]
    exact e
  refine ⟨⟨fun b o e n hb hx => un.keep b o e (cut_none n) hb hx, fun b o e n hb hx => un.slot b o e (cut_none n) hb hx, fun b o e n hx => ?_, un.there, tup, fun b ob u e => ?_, fun b ps e => ?_⟩, fun b o e => ?_, fr⟩
  · rw [glue_out fun hb => by
      obtain ⟨o', e'⟩ := hid_some hS hb
      rw [n] at e'
      cases e']
    exact un.free b o e (cut_none n) hx
  · have nb := hid_frz hS e
    rw [glue_out nb]
    exact un.frzs b ob u ((cut_out nb).trans e)
  · have nb := hid_tbl hS e
    rw [glue_out nb]
    exact un.tbls b ps ((cut_out nb).trans e)
  · by_cases hb : hidB H S b
    · rw [glue_in hb] at e
      rcases id hb with s | ⟨a, _, ea⟩
      · refine (x b o e).stay (fun c u hc q => ?_) (fun c q => ?_) tup
        · rcases hc with rfl | hc
          · exact kp c u hb q
          · exact kp c u ((hid_own hS hc).mpr s) q
        · rw [glue_in ((hid_own hS q).mpr s)]
          exact q
      · rw [ea] at e
        cases e
        obtain ⟨ob, q⟩ := (show ∃ ob, h.get? b = some ob from x b _ ea)
        exact ⟨ob, kp b ob hb q⟩
    · rw [glue_out hb] at e
      exact (x2 b o e).stay (fun _ _ _ q => q) (fun c q => out c _ q) fun c xs q => out c _ q
end
def frm (sp : Sp) : Sp := fun vs H Q E => ∃ S : Addr → Prop, (∀ a, S a → Mut (H a)) ∧ sp vs (cutH H S) (fun v H2 => (∀ b, hidB H S b → H2 b = none) → Q v (glueH H S H2)) (fun c d H2 => (∀ b, hidB H S b → H2 b = none) → E c d (glueH H S H2))
theorem frm_ok {P : Program} {w : World} {K : PySem.W.Frag} {mg : Str → Option Value} {base : Heap} {k : Nat} {f : Addr} {fd : FuncData} {ps : List Str} {sp : Sp} (F : FnOk P w K mg base CX0 k f fd ps sp) : FnOk P w K mg base CX0 k f fd ps (frm sp) := by
  refine ⟨fun vs H Q E h => ?_, fun A outer s H args us vs Q E hr e0 hb hv h => ?_⟩
  · obtain ⟨S, _, h⟩ := h
    exact F.len _ _ _ _ h
  · obtain ⟨S, hS, h⟩ := h
    refine codeAny_mono (F.run A outer s _ args us vs _ _ hr ⟨e0.frames, e0.mod, fun b o e => ⟨(e0.bs b o e).1, cut_none (e0.bs b o e).2⟩, e0.bsz, e0.funs, fun b hb => cut_none (e0.frf b hb), cut_ok hS e0.hok, e0.bare⟩ hb hv h) fun r s' hq => ?_
    cases r with
    | error e => exact hq
    | ok fl =>
      cases fl with
      | next => exact hq
      | brk => exact hq
      | cont => exact hq
      | ret u =>
        obtain ⟨v, H2, os, bare, un, hok2, rv, q⟩ := hq
        obtain ⟨un', hok', fr⟩ := glue_ok hS e0.frf e0.hok un hok2
        exact ⟨v, _, os, bare, un', hok', rv, q fr⟩
end
section
variable {C_Talk C_Table : Addr}
def Own (t kd : Addr) (ads : List (Addr × Addr)) (a : Addr) : Prop := a = t ∨ a = kd ∨ a ∈ ads.map (·.1) ∨ a ∈ ads.map (·.2)
def InsD : Option HO → Prop
  | some (.ins _ _ _) => True
  | some (.dT _) => True
  | _ => False
theorem InsD.mut {o : Option HO} (h : InsD o) : Mut o := by
  cases o with
  | none => exact h.elim
  | some u =>
    cases u with
    | ins C dx fs => exact True.intro
    | dT kvs => exact True.intro
    | _ => exact h.elim
theorem TabAt.own {H : Hp} {t dx l kd : Addr} {B : Tb} {ads : List (Addr × Addr)} (h : TabAt C_Talk C_Table H t B dx l kd ads) {a : Addr} (o : Own t kd ads a) : InsD (H a) := by
  rcases o with rfl | rfl | o | o
  · rw [h.tab]
    exact True.intro
  · rw [h.dic]
    exact True.intro
  · obtain ⟨ad, ha, rfl⟩ := List.mem_map.mp o
    obtain ⟨i, ea⟩ := List.getElem?_of_mem ha
    obtain ⟨x, _, dx', p, q, r, e, _⟩ := All2.at h.tks ea
    rw [e]
    exact True.intro
  · obtain ⟨ad, ha, rfl⟩ := List.mem_map.mp o
    obtain ⟨i, ea⟩ := List.getElem?_of_mem ha
    obtain ⟨x, _, dx', p, q, r, _, _, _, _, e⟩ := All2.at h.tks ea
    rw [e]
    exact True.intro
theorem TabAt.to {H H' : Hp} {t dx l kd : Addr} {B : Tb} {ads : List (Addr × Addr)} (h : TabAt C_Talk C_Table H t B dx l kd ads) (ow : ∀ a o, Own t kd ads a → H a = some o → H' a = some o) (tp : ∀ a xs, H a = some (.tup xs) → H' a = some (.tup xs)) (ls : ∀ a xs, H a = some (.lst xs) → H' a = some (.lst xs)) : TabAt C_Talk C_Table H' t B dx l kd ads := by
  refine ⟨ow _ _ (.inl rfl) h.tab, ls _ _ h.lst, all2_ix (All2.len h.tks) fun i ad x ea ex => ?_, h.nd1, h.nd2, ow _ _ (.inr (.inl rfl)) h.dic, h.ndk⟩
  obtain ⟨x', ex', dx', p, q, r, h1, h2, h3, h4, h5⟩ := All2.at h.tks ea
  rw [ex] at ex'
  cases ex'
  have m := List.mem_of_getElem? ea
  exact ⟨dx', p, q, r, ow _ _ (.inr (.inr (.inl (List.mem_map_of_mem m)))) h1, tp _ _ h2, tp _ _ h3, tp _ _ h4, ow _ _ (.inr (.inr (.inr (List.mem_map_of_mem m)))) h5⟩
def Apart (t kd : Addr) (ads : List (Addr × Addr)) (t' kd' : Addr) (ads' : List (Addr × Addr)) : Prop := ∀ a, Own t kd ads a → ¬ Own t' kd' ads' a
theorem Apart.symm {t kd t' kd' : Addr} {ads ads' : List (Addr × Addr)} (h : Apart t kd ads t' kd' ads') : Apart t' kd' ads' t kd ads := fun a o o' => h a o' o
def del2 (H : Hp) (a b : Addr) : Hp := fun x => if x = a ∨ x = b then none else H x
section
variable {H H' : Hp} {a b x : Addr} {o : HO}
theorem del2_some (e : del2 H a b x = some o) : x ≠ a ∧ x ≠ b ∧ H x = some o := by
  unfold del2 at e
  split at e
  · cases e
  · rename_i n
    exact ⟨fun z => n (.inl z), fun z => n (.inr z), e⟩
theorem del2_of (h1 : x ≠ a) (h2 : x ≠ b) (e : H x = some o) : del2 H a b x = some o := by
  unfold del2
  rw [if_neg fun z => z.elim h1 h2]
  exact e
theorem del2_updL : del2 (upd H a o) a b = del2 H a b := by
  funext x
  unfold del2
  split
  · rfl
  · rename_i n
    exact upd_ne fun z => n (.inl z)
theorem del2_updR : del2 (upd H b o) a b = del2 H a b := by
  funext x
  unfold del2
  split
  · rfl
  · rename_i n
    exact upd_ne fun z => n (.inr z)
theorem del2_same (s : Same H H') : Same (del2 H a b) (del2 H' a b) := fun x o e => by
  obtain ⟨h1, h2, e⟩ := del2_some e
  exact del2_of h1 h2 (s _ _ e)
end
theorem EndsAt.to {H H' : Hp} {t : Addr} (h : EndsAt H t) (tp : ∀ a xs, H a = some (.tup xs) → H' a = some (.tup xs)) (ls : ∀ a xs, H a = some (.lst xs) → H' a = some (.lst xs)) : EndsAt H' t := by
  obtain ⟨lk, le, ks, evs, es, h1, h2, h3, h4, h5, h6, h7, h8⟩ := h
  exact ⟨lk, le, ks, evs, es, tp _ _ h1, ls _ _ h2, h3, h4, ls _ _ h5, All2.imp h6 fun _ _ r => by
    obtain ⟨a, e, h⟩ := r
    exact ⟨a, e, tp _ _ h⟩, h7, h8⟩
theorem frame_tab {H : Hp} {he st t dx l kd t' dx' l' kd' : Addr} {B B' : Tb} {ads ads' : List (Addr × Addr)} {hs ss : List V} (hh : H he = some (.lst hs)) (hst : H st = some (.lst ss)) (tb : TabAt C_Talk C_Table (del2 H he st) t B dx l kd ads) (tb' : TabAt C_Talk C_Table (del2 H he st) t' B' dx' l' kd' ads') (ap : Apart t kd ads t' kd' ads') :
    ∃ S : Addr → Prop, (∀ a, S a → Mut (H a)) ∧ Same (cutH H S) H ∧ (∀ a xs, del2 H he st a = some (.tup xs) → cutH H S a = some (.tup xs)) ∧ (∀ a xs, del2 H he st a = some (.lst xs) → cutH H S a = some (.lst xs)) ∧ TabAt C_Talk C_Table (cutH H S) t B dx l kd ads ∧
      ∀ (H2 : Hp), (∀ b, hidB H S b → H2 b = none) → Keeps (cutH H S) H2 → glueH H S H2 he = some (.lst hs) ∧ glueH H S H2 st = some (.lst ss) ∧ (∀ a o, H2 a = some o → del2 (glueH H S H2) he st a = some o) ∧ Keeps (del2 H he st) (del2 (glueH H S H2) he st) ∧ TabAt C_Talk C_Table (del2 (glueH H S H2) he st) t' B' dx' l' kd' ads' ∧
        ∀ (B2 : Tb) (l2 kd2 : Addr) (ads2 : List (Addr × Addr)), TabAt C_Talk C_Table H2 t B2 dx l2 kd2 ads2 → Apart t kd2 ads2 t' kd' ads' := by
  let S : Addr → Prop := fun a => a = he ∨ a = st ∨ Own t' kd' ads' a
  have ow : ∀ a, Own t' kd' ads' a → a ≠ he ∧ a ≠ st ∧ InsD (H a) := fun a o => by
    have i := tb'.own o
    have : ∃ u, del2 H he st a = some u := by
      cases e : del2 H he st a with
      | none =>
        rw [e] at i
        exact i.elim
      | some u => exact ⟨u, rfl⟩
    obtain ⟨u, e⟩ := this
    obtain ⟨h1, h2, e'⟩ := del2_some e
    rw [e] at i
    rw [e']
    exact ⟨h1, h2, i⟩
  have hS : ∀ a, S a → Mut (H a) := fun a s => by
    rcases s with rfl | rfl | s
    · rw [hh]
      exact True.intro
    · rw [hst]
      exact True.intro
    · exact (ow a s).2.2.mut
  have hhe : hidB H S he := .inl (.inl rfl)
  have hhs : hidB H S st := .inl (.inr (.inl rfl))
  have sm : Same (cutH H S) H := fun a o e => (cut_some e).2
  have ls : ∀ a xs, a ≠ he → a ≠ st → H a = some (.lst xs) → ¬ hidB H S a := fun a xs h1 h2 e => by
    rintro (s | ⟨c, _, e'⟩)
    · rcases s with s | s | s
      · exact h1 s
      · exact h2 s
      · have := (ow a s).2.2
        rw [e] at this
        exact this
    · rw [e] at e'
      cases e'
  have no : ∀ a o, Own t kd ads a → del2 H he st a = some o → ¬ hidB H S a := fun a o w e => by
    obtain ⟨h1, h2, e'⟩ := del2_some e
    have i := tb.own w
    rw [e] at i
    rintro (s | ⟨c, _, e''⟩)
    · rcases s with s | s | s
      · exact h1 s
      · exact h2 s
      · exact ap a w s
    · rw [e'] at e''
      cases e''
      exact i
  have lsC : ∀ a xs, del2 H he st a = some (.lst xs) → cutH H S a = some (.lst xs) := fun a xs e => by
    obtain ⟨h1, h2, e⟩ := del2_some e
    rw [cut_out (ls a xs h1 h2 e)]
    exact e
  have tpC : ∀ a xs, del2 H he st a = some (.tup xs) → cutH H S a = some (.tup xs) := fun a xs e => by
    obtain ⟨h1, h2, e⟩ := del2_some e
    rw [cut_out (hid_tup hS e)]
    exact e
  refine ⟨S, hS, sm, tpC, lsC, tb.to (fun a o w e => ?_) tpC lsC, fun H2 fr kp => ?_⟩
  · rw [cut_out (no a o w e)]
    exact (del2_some e).2.2
  · have out : ∀ a o, H2 a = some o → del2 (glueH H S H2) he st a = some o := fun a o e => by
      have nh : ¬ hidB H S a := fun z => by
        rw [fr a z] at e
        cases e
      refine del2_of (fun z => nh (z ▸ hhe)) (fun z => nh (z ▸ hhs)) ?_
      rw [glue_out nh]
      exact e
    have kk : Keeps (del2 H he st) (del2 (glueH H S H2) he st) := ⟨fun a xs e => out _ _ (kp.tup _ _ (tpC _ _ e)), fun a xs e => out _ _ (kp.lst _ _ (lsC _ _ e)), fun a e => ?_, fun a o u e => ?_⟩
    refine ⟨(glue_in hhe).trans hh, (glue_in hhs).trans hst, out, kk, tb'.to (fun a o w e => ?_) kk.tup kk.lst, fun B2 l2 kd2 ads2 tb2 a w w' => ?_⟩
    · obtain ⟨h1, h2, e⟩ := del2_some e
      refine del2_of h1 h2 ?_
      rw [glue_in (.inl (.inr (.inr w)))]
      exact e
    · have i := tb2.own w
      rw [fr a (.inl (.inr (.inr w')))] at i
      exact i
    · cases e' : del2 H he st a with
      | none => rfl
      | some o =>
        obtain ⟨h1, h2, e'⟩ := del2_some e'
        have g : glueH H S H2 a = none := by
          unfold del2 at e
          rw [if_neg fun z => z.elim h1 h2] at e
          exact e
        by_cases hb : hidB H S a
        · rw [glue_in hb, e'] at g
          cases g
        · rw [glue_out hb] at g
          have := kp.free a g
          rw [cut_out hb, e'] at this
          cases this
    · obtain ⟨h1, h2, e⟩ := del2_some e
      have nh := hid_frz hS e
      exact out _ _ (kp.frz _ _ _ ((cut_out nh).trans e))
end
def R6 (H : Hp) (v : V) (x : Tk) : Prop := ∃ t p q, v = .ref t ∧ H t = some (.tup [.ref p, .ref q, .bl x.ans, .int x.til, .bl (decide (x.lab ∈ x.fw)), .bl (decide (x.back ∈ x.fw))]) ∧ IsPt H p x.lab ∧ IsPt H q x.sent
theorem R6.to {H H' : Hp} {v : V} {x : Tk} (h : R6 H v x) (k : ∀ a xs, H a = some (.tup xs) → H' a = some (.tup xs)) : R6 H' v x := by
  obtain ⟨t, p, q, e, h1, h2, h3⟩ := h
  exact ⟨t, p, q, e, k _ _ h1, k _ _ h2, k _ _ h3⟩
theorem r6s_to {H H' : Hp} {us : List V} {ts : List Tk} (h : All2 (R6 H) us ts) (k : ∀ a xs, H a = some (.tup xs) → H' a = some (.tup xs)) : All2 (R6 H') us ts := All2.imp h fun _ _ r => r.to k
theorem r6s_same {H H' : Hp} {us : List V} {ts : List Tk} (h : All2 (R6 H) us ts) (s : Same H H') : All2 (R6 H') us ts := r6s_to h fun _ _ e => s _ _ e
def ixK (ns : List Int) : List Tk → Option Nat
  | [] => none
  | x :: ts => if hasKey ns x = true then some 0 else (ixK ns ts).map (· + 1)
def ixI (ns : List Int) (ts : List Tk) : Int := match ixK ns ts with
  | some i => (i : Int)
  | none => -1
theorem ixK_cases (ns : List Int) : ∀ ts : List Tk, (ixK ns ts = none ∧ ts.find? (hasKey ns) = none) ∨ ∃ i x, ixK ns ts = some i ∧ ts[i]? = some x ∧ hasKey ns x = true ∧ ts.find? (hasKey ns) = some x
  | [] => .inl ⟨rfl, rfl⟩
  | x :: ts => by
    by_cases h : hasKey ns x = true
    · exact .inr ⟨0, x, if_pos h, rfl, h, by rw [List.find?_cons, h]⟩
    · have h' : hasKey ns x = false := by simpa using h
      have e : ixK ns (x :: ts) = (ixK ns ts).map (· + 1) := if_neg h
      have f : (x :: ts).find? (hasKey ns) = ts.find? (hasKey ns) := by rw [List.find?_cons, h']
      rw [e, f]
      rcases ixK_cases ns ts with ⟨a, b⟩ | ⟨i, y, a, b, c, d⟩
      · exact .inl ⟨by rw [a]; rfl, b⟩
      · exact .inr ⟨i + 1, y, by rw [a]; rfl, b, c, d⟩
theorem ixK_at {ns : List Int} : ∀ {ts : List Tk} {i : Nat} {x : Tk}, ts[i]? = some x → hasKey ns x = true → (∀ j y, j < i → ts[j]? = some y → hasKey ns y = false) → ixK ns ts = some i
  | y :: ts, 0, x, e, h, _ => by
    have e : some y = some x := e
    cases e
    exact if_pos h
  | y :: ts, i + 1, x, e, h, no => by
    have n0 := no 0 y (Nat.succ_pos _) rfl
    have e2 : ixK ns (y :: ts) = (ixK ns ts).map (· + 1) := if_neg (by rw [n0]; exact Bool.false_ne_true)
    rw [e2, ixK_at (ts := ts) (i := i) e h fun j z lj ez => no (j + 1) z (Nat.succ_lt_succ lj) ez]
    rfl
theorem ixK_no {ns : List Int} {ts : List Tk} (no : ∀ (j : Nat) (y : Tk), ts[j]? = some y → hasKey ns y = false) : ixK ns ts = none := by
  rcases ixK_cases ns ts with ⟨a, _⟩ | ⟨i, x, _, b, c, _⟩
  · exact a
  · rw [no i x b] at c
    cases c
theorem ixI_neg (ns : List Int) (ts : List Tk) : decide (ixI ns ts < 0) = !isKey ts ns := by
  unfold ixI isKey
  rcases ixK_cases ns ts with ⟨a, b⟩ | ⟨i, x, a, _, _, b⟩
  · rw [a, b]
    rfl
  · rw [a, b]
    exact decide_eq_false (by show ¬ ((i : Int) < 0); omega)
theorem key_or {ns : List Int} {x : Tk} (h : hasKey ns x = true) : ns = x.lab ∨ ns = x.back := by
  unfold hasKey at h
  rw [Bool.or_eq_true, decide_eq_true_eq, decide_eq_true_eq] at h
  exact h.imp Eq.symm Eq.symm
theorem no_key {ns : List Int} {x : Tk} (h1 : ¬ ns = x.lab) (h2 : ¬ ns = x.back) : hasKey ns x = false := by
  unfold hasKey
  rw [decide_eq_false (fun e => h1 e.symm), decide_eq_false (fun e => h2 e.symm)]
  rfl
theorem is_key {ns : List Int} {x : Tk} (h : ns = x.lab ∨ ns = x.back) : hasKey ns x = true := by
  unfold hasKey
  rcases h with rfl | rfl
  · rw [decide_eq_true rfl, Bool.true_or]
  · rw [decide_eq_true (p := x.back = x.back) rfl, Bool.or_true]
def spAtI : Sp := fun vs H Q _ => ∃ (l p : Addr) (us : List V) (ts : List Tk) (ns : List Int), vs = [.ref l, .ref p] ∧ H l = some (.lst us) ∧ All2 (R6 H) us ts ∧ (∀ x ∈ ts, x.sent.length = 5) ∧ ts.length ≤ 200 ∧ IsPt H p ns ∧ ∀ H', Same H H' → Q (.int (ixI ns ts)) H'
theorem ok_atI (F : Fun K "_law_at" "_law_at" s__law_at f fd) (g__law_flip : Fn P w K mg base "_law_flip" 1 ["_law_label_here"] spFlip) (b_range : mg "range" = none) (b_len : mg "len" = none) : FnOk P w K mg base CX0 2 f fd ["_law_talks", "_law_label_here"] spAtI := by
  refine F.ok sc__law_at (fun vs H Q E h => ?_) (fun cdv A outer s H vs Q E hr h => ?_)
  · obtain ⟨_, _, _, _, _, rfl, _⟩ := h
    rfl
  obtain ⟨l, p, us, ts, ns, rfl, hl, al, l5, few, hp, q⟩ := h
  have len := All2.len al
  refine ⟨_, (@pss_cons _ _ _ _ _ (@ps_for _ _ _ _ _ _ _ _ PassesOwn.never rfl (@pi_range1 _ _ _ _ _ _ rfl b_range (@pa_cons _ _ _ _ _ (@pe_callB _ _ _ _ _ _ _ _ _ call_lenR rfl b_len bo_len (@pa_cons _ _ _ _ _ (pv 0) pa_nil (by rfl)) (by decide) (by decide) (by rfl) (by rfl)) pa_nil (by rfl)) (by rfl)) (@pg_name _ _ (2) _ sc__law_at.nd rfl (Or.inl rfl) (by first | exact .inl rfl | exact .inr rfl | assumption)) (@pss_one _ _ _ (@ps_if _ _ _ _ _ _ _ _ (@PW.pt _ _ _ (@pw_or _ _ _ _ _ _ _ (@pt_cmpR _ _ _ _ _ _ _ _ (op_eqD hr.units) (pv 1) (@pe_ix _ _ _ _ _ _ _ ix_tup (@pe_ix _ _ _ _ _ _ _ ix_list (pv 0) (pv 2) (fun _ _ => rfl)) pe_int (fun _ _ => rfl)) (nomark _)) (@pw_or1 _ _ _ _ (@pt_cmpR _ _ _ _ _ _ _ _ (op_eqD hr.units) (pv 1) (@pe_fn _ _ _ _ _ _ _ _ _ _ _ g__law_flip hr (by decide) rfl (@pa_cons _ _ _ _ _ (@pe_ix _ _ _ _ _ _ _ ix_tup (@pe_ix _ _ _ _ _ _ _ ix_list (pv 0) (pv 2) (fun _ _ => rfl)) pe_int (fun _ _ => rfl)) pa_nil (by rfl)) (by decide) (by rfl) (by rfl)) (nomark _))))) (@pss_one _ _ _ (@ps_ret _ _ _ _ (pv 2))) pss_nil)) (by intro _; rfl)) (@pss_one _ _ _ (@ps_ret _ _ _ _ (@pe_un _ _ _ _ _ _ un_neg pe_int)))), ?_⟩
  rw [st__law_at]
  walk_at "sv"
  refine LenR.lst (SqL.of hl) ?_
  refine RngR.go (by omega) (by omega) ?_
  rw [Int.toNat_natCast]
  refine ForR.range (fun i σ H' => Same H H' ∧ (∀ j y, j < i → ts[j]? = some y → hasKey ns y = false) ∧ ∃ y, σ = [some (.ref l), some (.ref p), y]) ⟨Same.refl _, fun j y h => absurd h (Nat.not_lt_zero _), _, rfl⟩ (fun i σ H1 hi pv => ?_) (fun σ H1 pv => ?_)
  · obtain ⟨sm, no, y, rfl⟩ := pv
    obtain ⟨v, ev⟩ : ∃ v, us[i]? = some v := ⟨us[i], List.getElem?_eq_getElem hi⟩
    obtain ⟨x, ex, t, p1, q1, rfl, ht, hp1, hq1⟩ := All2.at al ev
    rw [Int.zero_add]
    walk_at "sv"
    refine ixL_go (SqL.of (sm _ _ hl)) ev ?_
    walk_at "sv"
    refine ixT_go (i := 0) (SqT.of (sm _ _ ht)) rfl ?_
    refine ⟨_, _, (hp.same sm).dt, (hp1.same sm).dt, pointD_shaped _, pointD_shaped _, ?_⟩
    rw [if_neg Bool.false_ne_true, bool_eq_dec (point_eqv ns x.lab)]
    walk_at "sv"
    refine BrO.dec (fun e1 => ?_) fun e1 => ?_
    · walk_at "sv"
      have := q H1 sm
      unfold ixI at this
      rw [ixK_at ex (is_key (.inl e1)) no] at this
      exact this
    · walk_at "sv"
      refine ixL_go (SqL.of (sm _ _ hl)) ev ?_
      walk_at "sv"
      refine ixT_go (i := 1) (SqT.of (sm _ _ ht)) rfl ?_
      refine spFlip.go (hq1.same sm) (l5 x (List.mem_of_getElem? ex)) fun r H2 nr s2 hr2 => ?_
      refine ⟨_, _, ((hp.same sm).same s2).dt, hr2.dt, pointD_shaped _, pointD_shaped _, ?_⟩
      rw [if_neg Bool.false_ne_true, bool_eq_dec (point_eqv ns (flipL x.sent))]
      walk_at "sv"
      refine BrS.dec (fun e2 => ?_) fun e2 => ?_
      · walk_at "sv"
        have := q H2 (sm.trans s2)
        unfold ixI at this
        rw [ixK_at ex (is_key (.inr e2)) no] at this
        exact this
      · walk_at "sv"
        refine ⟨sm.trans s2, fun j z lj ez => ?_, _, rfl⟩
        rcases Nat.lt_succ_iff_lt_or_eq.mp lj with lj | rfl
        · exact no j z lj ez
        · rw [ex] at ez
          cases ez
          exact no_key e1 e2
  · obtain ⟨sm, no, y, rfl⟩ := pv
    walk_at "sv"
    have := q H1 sm
    unfold ixI at this
    rw [ixK_no fun j z ez => no j z (by have := (List.getElem?_eq_some_iff.mp ez).1; omega) ez] at this
    exact this
def spFreeL : Sp := fun vs H Q _ => ∃ (l p r : Addr) (us : List V) (ts : List Tk) (ns ms : List Int), vs = [.ref l, .ref p, .ref r] ∧ H l = some (.lst us) ∧ All2 (R6 H) us ts ∧ (∀ x ∈ ts, x.sent.length = 5) ∧ ts.length ≤ 200 ∧ IsPt H p ns ∧ IsPt H r ms ∧ ms.length = 5 ∧ ∀ H', Same H H' → Q (.bl (freeOf ts ns ms)) H'
theorem ok_freeL (F : Fun K "_law_free" "_law_free" s__law_free f fd) (g__law_flip : Fn P w K mg base "_law_flip" 1 ["_law_label_here"] spFlip) (g__law_at : Fn P w K mg base "_law_at" 2 ["_law_talks", "_law_label_here"] spAtI) : FnOk P w K mg base CX0 3 f fd ["_law_talks", "_law_label_here", "_law_sent"] spFreeL := by
  refine F.ok sc__law_free (fun vs H Q E h => ?_) (fun cdv A outer s H vs Q E hr h => ?_)
  · obtain ⟨_, _, _, _, _, _, _, rfl, _⟩ := h
    rfl
  obtain ⟨l, p, r, us, ts, ns, ms, rfl, hl, al, l5, few, hp, hr1, m5, q⟩ := h
  refine ⟨_, (@pss_cons _ _ _ _ _ (@ps_set _ _ (3) _ _ _ _ sc__law_free.nd rfl (Or.inl rfl) (@pe_fn _ _ _ _ _ _ _ _ _ _ _ g__law_flip hr (by decide) rfl (@pa_cons _ _ _ _ _ (pv 2) pa_nil (by rfl)) (by decide) (by rfl) (by rfl)) (by rfl) (by first | exact .inl rfl | exact .inr rfl | assumption)) (@pss_one _ _ _ (@ps_ret _ _ _ _ (@pe_and _ _ _ _ _ _ _ (@pe_cmpR _ _ _ _ _ _ _ _ (op_neD hr.units) (pv 1) (pv 3) (nomark _)) (@pe_and _ _ _ _ _ _ _ (@pe_cmpR _ _ _ _ _ _ _ _ op_lt (@pe_fn _ _ _ _ _ _ _ _ _ _ _ g__law_at hr (by decide) rfl (@pa_cons _ _ _ _ _ (pv 0) (@pa_cons _ _ _ _ _ (pv 1) pa_nil (by rfl)) (by rfl)) (by decide) (by rfl) (by rfl)) pe_int (nomark _)) (@pe_one _ _ _ _ _ (@pe_cmpR _ _ _ _ _ _ _ _ op_lt (@pe_fn _ _ _ _ _ _ _ _ _ _ _ g__law_at hr (by decide) rfl (@pa_cons _ _ _ _ _ (pv 0) (@pa_cons _ _ _ _ _ (pv 3) pa_nil (by rfl)) (by rfl)) (by decide) (by rfl) (by rfl)) pe_int (nomark _)))))))), ?_⟩
  rw [st__law_free]
  walk_at "sv"
  refine spFlip.go hr1 m5 fun x H1 nx s1 hx1 => ?_
  walk_at "sv"
  refine ⟨_, _, (hp.same s1).dt, hx1.dt, pointD_shaped _, pointD_shaped _, ?_⟩
  rw [if_pos rfl, bool_eq_dec (point_eqv ns (flipL ms))]
  by_cases e1 : ns = flipL ms
  · have := q H1 s1
    unfold freeOf at this
    rw [decide_eq_true e1] at this ⊢
    walk_at "sv"
    exact this
  · rw [decide_eq_false e1]
    walk_at "sv"
    refine ⟨l, p, us, ts, ns, rfl, s1 _ _ hl, r6s_same al s1, l5, few, hp.same s1, fun H2 s2 => ?_⟩
    have s12 := s1.trans s2
    walk_at "sv"
    rw [ixI_neg]
    cases e2 : isKey ts ns with
    | true =>
      have := q H2 s12
      unfold freeOf at this
      rw [decide_eq_false e1, e2] at this
      walk_at "sv"
      exact this
    | false =>
      walk_at "sv"
      refine ⟨l, x, us, ts, flipL ms, rfl, s12 _ _ hl, r6s_same al s12, l5, few, hx1.same s2, fun H3 s3 => ?_⟩
      have := q H3 (s12.trans s3)
      unfold freeOf at this
      rw [decide_eq_false e1, e2] at this
      walk_at "sv"
      rw [ixI_neg]
      exact this
theorem lab_flip {ns : List Int} (h : LabN ns) : LabN (flipL ns) := by
  unfold flipL
  split
  · rename_i k s n r f
    obtain ⟨_, h⟩ := h
    refine ⟨by show 5 ≤ 8; decide, fun m hm => h m ?_⟩
    simp only [List.mem_cons, List.not_mem_nil, or_false] at hm ⊢
    rcases hm with rfl | rfl | rfl | rfl | rfl <;> simp
  · exact h
structure Fi (B : Tb) (i : Nat) : Prop where
  ok : TsOk B.ts
  few : (B.ts.length : Int) ≤ B.most
  most : B.most ≤ 6
  sh : 0 ≤ B.short ∧ B.short ≤ 1000000000
  lo : 0 ≤ B.long ∧ B.long ≤ 1000000000
  tm : 0 ≤ B.time ∧ B.time ≤ (i : Int) * 2000000000
  til : ∀ z ∈ B.ts, B.time ≤ z.til ∧ z.til ≤ B.time + 1000000000
  lab : ∀ z ∈ B.ts, LabN z.lab ∧ LabN z.sent ∧ z.fw.length ≤ i
theorem Fi.up {B : Tb} {i : Nat} (h : Fi B i) : Fi B (i + 1) := ⟨h.ok, h.few, h.most, h.sh, h.lo, ⟨h.tm.1, by have := h.tm.2; omega⟩, h.til, fun z hz => ⟨(h.lab z hz).1, (h.lab z hz).2.1, Nat.le_succ_of_le (h.lab z hz).2.2⟩⟩
theorem addK_len (ks : List (List Int)) (k : List Int) : (addK ks k).length ≤ ks.length + 1 := by
  unfold addK
  split
  · omega
  · rw [List.length_append, List.length_singleton]
    exact Nat.le_refl _
def Nx (B B' : Tb) : Prop := B' = B ∨ (∃ ns ms, B' = B.begin ns ms ∧ ns.length = 5 ∧ ms.length = 5 ∧ LabN ns ∧ LabN ms ∧ ¬ B.most ≤ B.ts.length ∧ freeOf B.ts ns ms = true) ∨ (∃ ns last x, B' = B.go ns last x ∧ B.ts.find? (hasKey ns) = some x) ∨ ∃ m, B' = B.at m ∧ B.time ≤ m ∧ m ≤ B.time + 1000000007
theorem Fi.go {B : Tb} {i : Nat} {ns : List Int} {last : Bool} {x : Tk} (h : Fi B i) (fx : B.ts.find? (hasKey ns) = some x) : Fi (B.go ns last x) (i + 1) := by
  have hx := List.mem_of_find?_eq_some fx
  obtain ⟨okp, _⟩ := putT_ok (y := x.go B ns last) h.ok hx rfl rfl
  have s1 := h.sh
  have s2 := h.lo
  have mem : ∀ z ∈ putT B.ts (x.go B ns last), (B.time ≤ z.til ∧ z.til ≤ B.time + 1000000000) ∧ LabN z.lab ∧ LabN z.sent ∧ z.fw.length ≤ i + 1 := fun z hz => by
    obtain ⟨u, hu, e⟩ := List.mem_map.mp hz
    have e : (if u.lab = (x.go B ns last).lab then x.go B ns last else u) = z := e
    split at e
    · subst e
      obtain ⟨a, b, c⟩ := h.lab x hx
      refine ⟨?_, a, b, ?_⟩
      · show B.time ≤ B.time + (if _ then B.long else B.short) ∧ B.time + (if _ then B.long else B.short) ≤ B.time + 1000000000
        split <;> omega
      · show (if last = true then addK x.fw ns else x.fw).length ≤ i + 1
        have := addK_len x.fw ns
        split <;> omega
    · subst e
      exact ⟨h.til u hu, (h.lab u hu).1, (h.lab u hu).2.1, Nat.le_succ_of_le (h.lab u hu).2.2⟩
  have len : (putT B.ts (x.go B ns last)).length = B.ts.length := List.length_map _
  have f := h.few
  have tm : 0 ≤ B.time ∧ B.time ≤ ((i + 1 : Nat) : Int) * 2000000000 := h.up.tm
  by_cases o : (x.go B ns last).over = true
  · have e : (B.go ns last x).ts = (putT B.ts (x.go B ns last)).filter (x.go B ns last).not := if_pos o
    refine ⟨?_, ?_, h.most, h.sh, h.lo, tm, ?_, ?_⟩ <;> rw [e]
    · exact okp.filter _
    · have := List.length_filter_le (x.go B ns last).not (putT B.ts (x.go B ns last))
      show (_ : Int) ≤ B.most
      omega
    · exact fun z hz => (mem z (List.mem_filter.mp hz).1).1
    · exact fun z hz => (mem z (List.mem_filter.mp hz).1).2
  · have e : (B.go ns last x).ts = putT B.ts (x.go B ns last) := if_neg o
    refine ⟨?_, ?_, h.most, h.sh, h.lo, tm, ?_, ?_⟩ <;> rw [e]
    · exact okp
    · show (_ : Int) ≤ B.most
      omega
    · exact fun z hz => (mem z hz).1
    · exact fun z hz => (mem z hz).2
theorem Fi.next {B B' : Tb} {i : Nat} (h : Fi B i) (n : Nx B B') : Fi B' (i + 1) ∧ B'.short = B.short ∧ B'.long = B.long ∧ B'.most = B.most := by
  rcases n with rfl | ⟨ns, ms, rfl, l5, m5, ln, lm, nf, fr⟩ | ⟨ns, last, x, rfl, fx⟩ | ⟨m, rfl, m1, m2⟩
  · exact ⟨h.up, rfl, rfl, rfl⟩
  · have s1 := h.sh
    have f := h.few
    have f5 := h.most
    refine ⟨⟨ok_snoc h.ok (by omega) l5 m5 fr, ?_, h.most, h.sh, h.lo, h.up.tm, fun z hz => ?_, fun z hz => ?_⟩, rfl, rfl, rfl⟩
    · show ((B.ts ++ [_]).length : Int) ≤ B.most
      rw [List.length_append, List.length_singleton]
      omega
    · rcases List.mem_append.mp hz with hz | hz
      · exact h.til z hz
      · rw [List.mem_singleton] at hz
        subst hz
        show B.time ≤ B.time + B.short ∧ B.time + B.short ≤ B.time + 1000000000
        omega
    · rcases List.mem_append.mp hz with hz | hz
      · exact h.up.lab z hz
      · rw [List.mem_singleton] at hz
        subst hz
        exact ⟨ln, lm, Nat.zero_le _⟩
  · exact ⟨h.go fx, rfl, rfl, rfl⟩
  · refine ⟨⟨h.ok.filter _, ?_, h.most, h.sh, h.lo, ?_, fun z hz => ?_, fun z hz => h.up.lab z (List.mem_filter.mp hz).1⟩, rfl, rfl, rfl⟩
    · have := List.length_filter_le (Tk.stands m) B.ts
      have f := h.few
      show ((B.ts.filter (Tk.stands m)).length : Int) ≤ B.most
      omega
    · have := h.tm
      show 0 ≤ m ∧ m ≤ ((i + 1 : Nat) : Int) * 2000000000
      omega
    · obtain ⟨hz, st⟩ := List.mem_filter.mp hz
      have := of_decide_eq_true st
      have t := h.til z hz
      show m ≤ z.til ∧ z.til ≤ m + 1000000000
      omega
theorem put_split {ts : List Tk} {i : Nat} {x y : Tk} (nd : (keysL ts).Nodup) (e : ts[i]? = some x) (el : y.lab = x.lab) : putT ts y = ts.take i ++ [y] ++ ts.drop (i + 1) ∧ (putT ts y).filter y.not = ts.take i ++ ts.drop (i + 1) := by
  have nl : (ts.map Tk.lab).Nodup := nd.sublist (labs_sub ts)
  obtain ⟨hi, rfl⟩ := List.getElem?_eq_some_iff.mp e
  have sp : ts = ts.take i ++ ts[i] :: ts.drop (i + 1) := by rw [List.getElem_cons_drop, List.take_append_drop]
  rw [sp, List.map_append, List.map_cons] at nl
  obtain ⟨_, nd2, dj⟩ := List.nodup_append.mp nl
  have a1 : ∀ z ∈ ts.take i, ¬ z.lab = y.lab := fun z hz c => dj _ (List.mem_map_of_mem hz) _ List.mem_cons_self (c.trans el)
  have a2 : ∀ z ∈ ts.drop (i + 1), ¬ z.lab = y.lab := fun z hz c => (List.nodup_cons.mp nd2).1 (by rw [← el, ← c]; exact List.mem_map_of_mem hz)
  have m1 : (ts.take i).map (fun z => if z.lab = y.lab then y else z) = ts.take i := by
    refine (List.map_congr_left fun z hz => ?_).trans (List.map_id _)
    exact if_neg (a1 z hz)
  have m2 : (ts.drop (i + 1)).map (fun z => if z.lab = y.lab then y else z) = ts.drop (i + 1) := by
    refine (List.map_congr_left fun z hz => ?_).trans (List.map_id _)
    exact if_neg (a2 z hz)
  have p : putT ts y = ts.take i ++ [y] ++ ts.drop (i + 1) := by
    unfold putT
    conv => lhs; rw [sp]
    rw [List.map_append, List.map_cons, m1, m2, if_pos el.symm, List.append_assoc]
    rfl
  refine ⟨p, ?_⟩
  rw [p, List.filter_append, List.filter_append]
  have f1 : (ts.take i).filter y.not = ts.take i := List.filter_eq_self.mpr fun z hz => by
    unfold Tk.not
    rw [decide_eq_false (a1 z hz)]
    rfl
  have f2 : (ts.drop (i + 1)).filter y.not = ts.drop (i + 1) := List.filter_eq_self.mpr fun z hz => by
    unfold Tk.not
    rw [decide_eq_false (a2 z hz)]
    rfl
  have f3 : [y].filter y.not = [] := by
    unfold Tk.not
    rw [List.filter_cons_of_neg (by rw [decide_eq_true rfl]; decide)]
    rfl
  rw [f1, f2, f3, List.append_nil]
theorem lab_back {ts : List Tk} (nd : (keysL ts).Nodup) {x : Tk} (hx : x ∈ ts) : x.lab ≠ x.back := by
  obtain ⟨i, e⟩ := List.getElem?_of_mem hx
  exact fun z => (key_fresh nd e).2.2 z.symm
theorem addK_mem {ks : List (List Int)} {k z : List Int} : z ∈ addK ks k ↔ z ∈ ks ∨ z = k := by
  unfold addK
  split
  · rename_i h
    exact ⟨.inl, fun o => o.elim id fun e => e ▸ h⟩
  · rw [List.mem_append, List.mem_singleton]
theorem all2_take {α β : Type} {R : α → β → Prop} {xs : List α} {ys : List β} (h : All2 R xs ys) : ∀ n : Nat, All2 R (xs.take n) (ys.take n) ∧ All2 R (xs.drop n) (ys.drop n) := by
  induction h with
  | nil => exact fun n => by rw [List.take_nil, List.take_nil, List.drop_nil, List.drop_nil]; exact ⟨.nil, .nil⟩
  | cons r t ih =>
    intro n
    cases n with
    | zero => exact ⟨.nil, .cons r t⟩
    | succ n => exact ⟨.cons r (ih n).1, (ih n).2⟩
section
variable {C_Talk C_Table C_Full C_Taken C_NoTalk C_SieveError C_OutOfTime : Addr}
structure T6 (C_Talk C_Table : Addr) (H : Hp) (t dx : Addr) (B : Tb) (lt kd : Addr) (ads : List (Addr × Addr)) (l : Addr) (us : List V) : Prop where
  tab : TabAt C_Talk C_Table H t B dx lt kd ads
  fi : Fi B 90
  lst : H l = some (.lst us)
  rows : All2 (R6 H) us B.ts
theorem T6.same {H H' : Hp} {t dx : Addr} {B : Tb} {lt kd : Addr} {ads : List (Addr × Addr)} {l : Addr} {us : List V} (h : T6 C_Talk C_Table H t dx B lt kd ads l us) (s : Same H H') : T6 C_Talk C_Table H' t dx B lt kd ads l us := ⟨h.tab.same s, h.fi, s _ _ h.lst, r6s_same h.rows s⟩
theorem Fi.f200 {B : Tb} {i : Nat} (h : Fi B i) : B.ts.length < 200 := by
  have := h.few
  have := h.most
  omega
theorem Fi.sent {B : Tb} {i : Nat} (h : Fi B i) : ∀ x ∈ B.ts, x.sent.length = 5 := fun x hx => (h.ok.five x hx).2
end
--CUT--
section
variable {C_Talk C_Table C_Full C_Taken C_NoTalk C_SieveError C_OutOfTime : Addr}
theorem exc_same {H H' : Hp} {a C : Addr} {dd : Option Addr} (h : IsExc H a C dd) (s : Same H H') : IsExc H' a C dd := by
  obtain ⟨φ, e, k⟩ := h
  exact ⟨φ, s _ _ e, k⟩
def spBegun (C_Talk C_Table : Addr) : Sp := fun vs H Q _ => ∃ (t dx lt kd l sp p q : Addr) (B : Tb) (ads : List (Addr × Addr)) (us : List V) (ns ms : List Int), vs = [.ref t, .ref l, .int B.time, .ref sp, .ref p, .ref q] ∧ T6 C_Talk C_Table H t dx B lt kd ads l us ∧ H sp = some (.tup [.int B.short, .int B.long, .int B.most]) ∧ IsPt H p ns ∧ IsPt H q ms ∧ ns.length = 5 ∧ ms.length = 5 ∧ LabN ns ∧ LabN ms ∧
  ∀ B' lt' kd' ads' l' us' H', Keeps H H' → TabAt C_Talk C_Table H' t B' dx lt' kd' ads' → Nx B B' → B'.time = B.time → H' l' = some (.lst us') → All2 (R6 H') us' B'.ts → Q (.ref l') H'
theorem ok_begun (F : Fun K "_law_begun" "_law_begun" s__law_begun f fd) (gx_Table_begin : FnMX P w K mg base C_Table "begin" 4 ["self", "label", "sent"] (spBeginX C_Talk C_Table C_Full C_Taken)) (g__law_free : Fn P w K mg base "_law_free" 3 ["_law_talks", "_law_label_here", "_law_sent"] spFreeL) (m_SieveError : mg "SieveError" = some (.ref C_SieveError)) (m_Full : mg "Full" = some (.ref C_Full)) (m_Taken : mg "Taken" = some (.ref C_Taken)) (b_isinstance : mg "isinstance" = none) (b_len : mg "len" = none) (T : TxT K C_Talk C_Table) (f_k1 : PySem.W.kitCls K (.ref C_Full) (.ref C_SieveError) = some true) (f_k2 : PySem.W.kitCls K (.ref C_Taken) (.ref C_SieveError) = some true) (hb_SieveError : PySem.W.mroIn K C_SieveError (.type "BaseException") = some true)
    (Z1 : ExcI K C_Full) (Z2 : ExcI K C_Taken) (f11 : PySem.W.kitOne K (.ref C_Full) (.ref C_Full) = some true) (f12 : PySem.W.kitOne K (.ref C_Full) (.ref C_Taken) = some false) (f21 : PySem.W.kitOne K (.ref C_Taken) (.ref C_Full) = some false) (f22 : PySem.W.kitOne K (.ref C_Taken) (.ref C_Taken) = some true) : FnOk P w K mg base CX0 5 f fd ["_law_table", "_law_talks", "_law_time", "_law_spans", "_law_label_here", "_law_sent"] (spBegun C_Talk C_Table) := by
  refine F.ok sc__law_begun (fun vs H Q E h => ?_) (fun cdv A outer s H vs Q E hr h => ?_)
  · obtain ⟨_, _, _, _, _, _, _, _, _, _, _, _, _, rfl, _⟩ := h
    rfl
  obtain ⟨t, dx, lt, kd, l, sp, p, q, B, ads, us, ns, ms, rfl, t6, hsp, hp, hq, l5, m5, ln, lm, k⟩ := h
  have ul := All2.len t6.rows
  have few := t6.fi.few
  have f200 := t6.fi.f200
  let R1 : RX := fun cls dd σ' H' => ∃ C, cls = .ref C ∧ dd = none ∧ (C = C_Full ∧ B.most ≤ B.ts.length ∨ C = C_Taken ∧ ¬ B.most ≤ B.ts.length ∧ freeOf B.ts ns ms = false) ∧ Same H H' ∧ σ' = [some (.ref t), some (.ref l), some (.int B.time), some (.ref sp), some (.ref p), some (.ref q), some .non, none]
  have hm1 : ∀ cls dd σ H, R1 cls dd σ H → ∃ C', cls = .ref C' ∧ PySem.W.kitCls K (.ref C') (.ref C_SieveError) = some true := fun cls dd σ H r => by
    obtain ⟨C, e, _, o, _⟩ := r
    rcases o with ⟨rfl, _⟩ | ⟨rfl, _⟩
    · exact ⟨_, e, f_k1⟩
    · exact ⟨_, e, f_k2⟩
  refine ⟨_, (@pss_cons _ _ _ _ _ (@ps_set _ _ (6) _ _ _ _ sc__law_begun.nd rfl (Or.inl rfl) pe_non (by rfl) (by first | exact .inl rfl | exact .inr rfl | assumption)) (@pss_cons _ _ _ _ _ (@ps_tryAs _ _ _ _ _ _ _ _ _ _ _ _ (7) (R1) ⟨rfl, rfl, rfl⟩ rfl m_SieveError hm1 hb_SieveError sc__law_begun.nd rfl rfl (fun _ => (@pss_one _ _ _ (@ps_expr _ _ _ _ (@pe_methT _ _ _ _ _ _ _ _ _ _ _ _ _ _ _ _ _ gx_Table_begin T.table ⟨rfl, rfl, rfl⟩ hr (by decide) (pv 0) (@pa_cons _ _ _ _ _ (pv 4) (@pa_cons _ _ _ _ _ (pv 5) pa_nil (by rfl)) (by rfl)) (by rfl) (by rfl) (by rfl)) (by rfl)))) (fun _ _ => (@pss_one _ _ _ (@ps_set _ _ (6) _ _ _ _ sc__law_begun.nd rfl (Or.inl rfl) (pv 7) (by rfl) (by first | exact .inl rfl | exact .inr rfl | assumption)))) (by decide)) (@pss_cons _ _ _ _ _ (@ps_if _ _ _ _ _ _ _ _ (@pt_cmpR _ _ _ _ _ _ _ _ op_eq (@pe_callB _ _ _ _ _ _ _ _ _ call_lenR rfl b_len bo_len (@pa_cons _ _ _ _ _ (pv 1) pa_nil (by rfl)) (by decide) (by decide) (by rfl) (by rfl)) (@pe_ix _ _ _ _ _ _ _ ix_tup (pv 3) pe_int (fun _ _ => rfl)) (nomark _)) (@pss_cons _ _ _ _ _ (@ps_if _ _ _ _ _ _ _ _ (@PW.pt _ _ _ (@pw_and _ _ _ _ _ _ _ (@pt_val _ _ _ (@pe_callB _ _ _ _ _ _ _ _ _ call_isiN rfl b_isinstance bo_isinstance (@pa_cons _ _ _ _ _ (pv 6) (@pa_cons _ _ _ _ _ (@pe_glob _ _ (.ref C_Full) _ _ rfl m_Full rfl (by decide)) pa_nil (by rfl)) (by rfl)) (by decide) (by decide) (by rfl) (by rfl)) (by intro _; rfl)) (@pw_and1 _ _ _ _ (@pt_not _ _ _ _ (@pt_val _ _ _ (@pe_callB _ _ _ _ _ _ _ _ _ call_isiN rfl b_isinstance bo_isinstance (@pa_cons _ _ _ _ _ (pv 6) (@pa_cons _ _ _ _ _ (@pe_glob _ _ (.ref C_Taken) _ _ rfl m_Taken rfl (by decide)) pa_nil (by rfl)) (by rfl)) (by decide) (by decide) (by rfl) (by rfl)) (by intro _; rfl)))))) (@pss_one _ _ _ (@ps_ret _ _ _ _ (pv 1))) pss_nil) (@pss_one _ _ _ (@ps_ret _ _ _ _ pe_non))) pss_nil) (@pss_cons _ _ _ _ _ (@ps_if _ _ _ _ _ _ _ _ (@pt_not _ _ _ _ (@pt_val _ _ _ (@pe_fn _ _ _ _ _ _ _ _ _ _ _ g__law_free hr (by decide) rfl (@pa_cons _ _ _ _ _ (pv 1) (@pa_cons _ _ _ _ _ (pv 4) (@pa_cons _ _ _ _ _ (pv 5) pa_nil (by rfl)) (by rfl)) (by rfl)) (by decide) (by rfl) (by rfl)) (by intro _; rfl))) (@pss_cons _ _ _ _ _ (@ps_if _ _ _ _ _ _ _ _ (@PW.pt _ _ _ (@pw_and _ _ _ _ _ _ _ (@pt_val _ _ _ (@pe_callB _ _ _ _ _ _ _ _ _ call_isiN rfl b_isinstance bo_isinstance (@pa_cons _ _ _ _ _ (pv 6) (@pa_cons _ _ _ _ _ (@pe_glob _ _ (.ref C_Taken) _ _ rfl m_Taken rfl (by decide)) pa_nil (by rfl)) (by rfl)) (by decide) (by decide) (by rfl) (by rfl)) (by intro _; rfl)) (@pw_and1 _ _ _ _ (@pt_not _ _ _ _ (@pt_val _ _ _ (@pe_callB _ _ _ _ _ _ _ _ _ call_isiN rfl b_isinstance bo_isinstance (@pa_cons _ _ _ _ _ (pv 6) (@pa_cons _ _ _ _ _ (@pe_glob _ _ (.ref C_Full) _ _ rfl m_Full rfl (by decide)) pa_nil (by rfl)) (by rfl)) (by decide) (by decide) (by rfl) (by rfl)) (by intro _; rfl)))))) (@pss_one _ _ _ (@ps_ret _ _ _ _ (pv 1))) pss_nil) (@pss_one _ _ _ (@ps_ret _ _ _ _ pe_non))) pss_nil) (@pss_cons _ _ _ _ _ (@ps_if _ _ _ _ _ _ _ _ (@pt_cmpR _ _ _ _ _ _ _ _ op_notN (pv 6) pe_non (nomark _)) (@pss_one _ _ _ (@ps_ret _ _ _ _ pe_non)) pss_nil) (@pss_one _ _ _ (@ps_ret _ _ _ _ (@pe_op _ _ _ _ _ _ _ _ op_catQ (pv 1) (@pe_lst _ _ _ _ (@pa_cons _ _ _ _ _ (@pe_tup _ _ _ _ _ (@pa_cons _ _ _ _ _ (pv 4) (@pa_cons _ _ _ _ _ (pv 5) (@pa_cons _ _ _ _ _ pe_bl (@pa_cons _ _ _ _ _ (@pe_op _ _ _ _ _ _ _ _ op_add (pv 2) (@pe_ix _ _ _ _ _ _ _ ix_tup (pv 3) pe_int (fun _ _ => rfl))) (@pa_cons _ _ _ _ _ pe_bl (@pa_cons _ _ _ _ _ pe_bl pa_nil (by rfl)) (by rfl)) (by rfl)) (by rfl)) (by rfl)) (by rfl))) pa_nil (by rfl))))))))))), ?_⟩
  rw [st__law_begun]
  walk_at "sv"
  refine ⟨?_, fun cls dd σ' H' xa r hx => ?_⟩
  · walk_at "sv"
    refine MethT.go t6.tab.tab (tab_no (by decide)) ?_
    walk_at "sv"
    refine ⟨t, p, q, dx, lt, kd, B, ads, ns, ms, rfl, t6.tab, t6.fi.ok, f200, hp, hq, l5, m5, ln, lm, fun z H' s' => ⟨_, rfl, rfl, .inl ⟨rfl, z⟩, s', rfl⟩, fun z y H' s' => ⟨_, rfl, rfl, .inr ⟨rfl, z, y⟩, s', rfl⟩, fun nf fr lt' kd' ads' H1 kp tb' => ?_⟩
    have rows1 := r6s_to t6.rows kp.tup
    walk_at "sv"
    refine LenR.lst (SqL.of (kp.lst _ _ t6.lst)) ?_
    walk_at "sv"
    refine ixT_go (i := 2) (SqT.of (kp.tup _ _ hsp)) rfl ?_
    walk_at "sv"
    rw [ul, decide_eq_false (show ¬ (B.ts.length : Int) = B.most by omega)]
    walk_at "sv"
    refine ⟨l, p, q, us, B.ts, ns, ms, rfl, kp.lst _ _ t6.lst, rows1, t6.fi.sent, by omega, kp.tup _ _ hp, kp.tup _ _ hq, m5, fun H2 s2 => ?_⟩
    rw [fr]
    have kp2 := kp.trans (Same.keeps s2)
    walk_at "sv"
    refine ixT_go (i := 0) (SqT.of (kp2.tup _ _ hsp)) rfl ?_
    walk_at "sv"
    refine TupR.go (by simp) fun tt ntt => ?_
    have z3 := same_new ntt (.tup [.ref p, .ref q, .bl false, .int (B.time + B.short), .bl false, .bl false])
    have htt : upd H2 tt (.tup [.ref p, .ref q, .bl false, .int (B.time + B.short), .bl false, .bl false]) tt = some (.tup [.ref p, .ref q, .bl false, .int (B.time + B.short), .bl false, .bl false]) := upd_same
    generalize upd H2 tt (.tup [.ref p, .ref q, .bl false, .int (B.time + B.short), .bl false, .bl false]) = H3 at *
    refine LstR.go (by simp) fun l4 nl4 => ?_
    have z4 := same_new nl4 (.lst [.ref tt])
    have hl4 : upd H3 l4 (.lst [.ref tt]) l4 = some (.lst [.ref tt]) := upd_same
    generalize upd H3 l4 (.lst [.ref tt]) = H4 at *
    have kp4 := (kp2.trans (Same.keeps z3)).trans (Same.keeps z4)
    refine catQ_go (SqL.of (kp4.lst _ _ t6.lst)) (SqL.of hl4) (by rw [ul, List.length_singleton]; omega) fun l5' nl5 => ?_
    have z5 := same_new nl5 (.lst (us ++ [.ref tt]))
    have kp5 := kp4.trans (Same.keeps z5)
    refine k (B.begin ns ms) lt' kd' ads' l5' (us ++ [.ref tt]) _ kp5 (((tb'.same s2).same z3).same (z4.trans z5)) (.inr (.inl ⟨ns, ms, rfl, l5, m5, ln, lm, nf, fr⟩)) rfl upd_same ?_
    exact (r6s_to t6.rows kp5.tup).snoc ⟨tt, p, q, rfl, (z4.trans z5) _ _ htt, kp5.tup _ _ hp, kp5.tup _ _ hq⟩
  · obtain ⟨C, rfl, rfl, o, s', rfl⟩ := r
    have ie : IsExc (upd H' xa (excO xa (.ref C) none)) xa C none := IsExc.of upd_same
    have s2 : Same H (upd H' xa (excO xa (.ref C) none)) := s'.trans (same_new hx _)
    generalize upd H' xa (excO xa (.ref C) none) = H2 at *
    walk_at "sv"
    refine LenR.lst (SqL.of (s2 _ _ t6.lst)) ?_
    walk_at "sv"
    refine ixT_go (i := 2) (SqT.of (s2 _ _ hsp)) rfl ?_
    walk_at "sv"
    rw [ul]
    rcases o with ⟨rfl, z⟩ | ⟨rfl, z, y⟩
    · rw [decide_eq_true (show (B.ts.length : Int) = B.most by omega)]
      walk_at "sv"
      refine isiN_exc ie Z1 f11 ?_
      walk_at "sv"
      refine isiN_exc ie Z1 f12 ?_
      walk_at "sv"
      exact k B lt kd ads l us H2 (Same.keeps s2) (t6.tab.same s2) (.inl rfl) rfl (s2 _ _ t6.lst) (r6s_same t6.rows s2)
    · rw [decide_eq_false (show ¬ (B.ts.length : Int) = B.most by omega)]
      walk_at "sv"
      refine ⟨l, p, q, us, B.ts, ns, ms, rfl, s2 _ _ t6.lst, r6s_same t6.rows s2, t6.fi.sent, by omega, hp.same s2, hq.same s2, m5, fun H3 s3 => ?_⟩
      rw [y]
      have s23 := s2.trans s3
      walk_at "sv"
      refine isiN_exc (exc_same ie s3) Z2 f22 ?_
      walk_at "sv"
      refine isiN_exc (exc_same ie s3) Z2 f21 ?_
      walk_at "sv"
      exact k B lt kd ads l us H3 (Same.keeps s23) (t6.tab.same s23) (.inl rfl) rfl (s23 _ _ t6.lst) (r6s_same t6.rows s23)
end
section
variable {C_Talk C_Table C_Full C_Taken C_NoTalk C_SieveError C_OutOfTime : Addr}
theorem gtup6 {a : Addr} {x y z u v o : V} {i j k l m n : Nat} {σ : L2.St} {H : Hp} {R : L2.St → Hp → Prop} (h : SqT K H a [x, y, z, u, v, o]) (q : R ((((((σ.set i (some x)).set j (some y)).set k (some z)).set l (some u)).set m (some v)).set n (some o)) H) :
    gTup K 6 (gCons (gName i) (gCons (gName j) (gCons (gName k) (gCons (gName l) (gCons (gName m) (gCons (gName n) gNil)))))) (.ref a) σ H R := ⟨a, _, rfl, h, rfl, _, _, rfl, _, _, rfl, _, _, rfl, _, _, rfl, _, _, rfl, _, _, rfl, rfl, q⟩
theorem go_lab {x : Tk} {B : Tb} {ns : List Int} {last : Bool} (lb : x.lab ≠ x.back) (e : ns = x.lab) : (x.go B ns last).ans = x.ans ∧ decide (x.lab ∈ (x.go B ns last).fw) = (decide (x.lab ∈ x.fw) || last) ∧ decide (x.back ∈ (x.go B ns last).fw) = decide (x.back ∈ x.fw) := by
  subst e
  unfold Tk.go
  refine ⟨?_, ?_, ?_⟩
  · show (x.ans || decide (x.lab = x.back)) = x.ans
    rw [decide_eq_false lb, Bool.or_false]
  · show decide (x.lab ∈ if last = true then addK x.fw x.lab else x.fw) = _
    cases last with
    | true => rw [if_pos rfl, Bool.or_true, decide_eq_true (addK_mem.mpr (.inr rfl))]
    | false => rw [if_neg Bool.false_ne_true, Bool.or_false]
  · show decide (x.back ∈ if last = true then addK x.fw x.lab else x.fw) = _
    cases last with
    | true =>
      rw [if_pos rfl]
      exact decide_eq_decide.mpr (addK_mem.trans ⟨fun o => o.resolve_right fun z => lb z.symm, .inl⟩)
    | false => rw [if_neg Bool.false_ne_true]
theorem go_back {x : Tk} {B : Tb} {ns : List Int} {last : Bool} (lb : x.lab ≠ x.back) (e : ns = x.back) : (x.go B ns last).ans = true ∧ decide (x.lab ∈ (x.go B ns last).fw) = decide (x.lab ∈ x.fw) ∧ decide (x.back ∈ (x.go B ns last).fw) = (decide (x.back ∈ x.fw) || last) := by
  subst e
  unfold Tk.go
  refine ⟨?_, ?_, ?_⟩
  · show (x.ans || decide (x.back = x.back)) = true
    rw [decide_eq_true (p := x.back = x.back) rfl, Bool.or_true]
  · show decide (x.lab ∈ if last = true then addK x.fw x.back else x.fw) = _
    cases last with
    | true =>
      rw [if_pos rfl]
      exact decide_eq_decide.mpr (addK_mem.trans ⟨fun o => o.resolve_right lb, .inl⟩)
    | false => rw [if_neg Bool.false_ne_true]
  · show decide (x.back ∈ if last = true then addK x.fw x.back else x.fw) = _
    cases last with
    | true => rw [if_pos rfl, Bool.or_true, decide_eq_true (addK_mem.mpr (.inr rfl))]
    | false => rw [if_neg Bool.false_ne_true, Bool.or_false]
theorem BrA.both {b c : Bool} {u : TT} {σ : L2.St} {H : Hp} {Q : Bool → Hp → Prop} (h : ∀ Q' : Bool → Hp → Prop, Q' c H → u σ H Q') (q : Q (b && c) H) : BrA b u σ H Q := by
  cases b with
  | true => exact h Q q
  | false => exact q
theorem spanAt (a : Bool) (B : Tb) : ∃ m : Nat, (if a = true then (1 : Int) else 0) = (m : Int) ∧ [V.int B.short, V.int B.long, V.int B.most][m]? = some (.int (if a = true then B.long else B.short)) := by
  cases a
  · exact ⟨0, rfl, rfl⟩
  · exact ⟨1, rfl, rfl⟩
def spGone (C_Talk C_Table : Addr) : Sp := fun vs H Q _ => ∃ (t dx lt kd l sp p : Addr) (B : Tb) (ads : List (Addr × Addr)) (us : List V) (ns : List Int) (last : Bool), vs = [.ref t, .ref l, .int B.time, .ref sp, .ref p, .bl last] ∧ T6 C_Talk C_Table H t dx B lt kd ads l us ∧ H sp = some (.tup [.int B.short, .int B.long, .int B.most]) ∧ IsPt H p ns ∧ LabN ns ∧
  ∀ B' lt' kd' ads' l' us' H', Keeps H H' → TabAt C_Talk C_Table H' t B' dx lt' kd' ads' → Nx B B' → B'.time = B.time → H' l' = some (.lst us') → All2 (R6 H') us' B'.ts → Q (.ref l') H'
theorem ok_gone (F : Fun K "_law_gone" "_law_gone" s__law_gone f fd) (gx_Table_go_on : FnMX P w K mg base C_Table "go_on" 3 ["self", "label", "last"] (spGoX C_Talk C_Table C_NoTalk)) (g__law_at : Fn P w K mg base "_law_at" 2 ["_law_talks", "_law_label_here"] spAtI) (g__law_flip : Fn P w K mg base "_law_flip" 1 ["_law_label_here"] spFlip) (m_SieveError : mg "SieveError" = some (.ref C_SieveError)) (m_NoTalk : mg "NoTalk" = some (.ref C_NoTalk)) (b_isinstance : mg "isinstance" = none) (b_tuple : mg "tuple" = none) (b_int : mg "int" = none) (T : TxT K C_Talk C_Table) (f_k : PySem.W.kitCls K (.ref C_NoTalk) (.ref C_SieveError) = some true) (hb_SieveError : PySem.W.mroIn K C_SieveError (.type "BaseException") = some true)
    (Z1 : ExcI K C_NoTalk) (f11 : PySem.W.kitOne K (.ref C_NoTalk) (.ref C_NoTalk) = some true) : FnOk P w K mg base CX0 4 f fd ["_law_table", "_law_talks", "_law_time", "_law_spans", "_law_label_here", "_law_last"] (spGone C_Talk C_Table) := by
  refine F.ok sc__law_gone (fun vs H Q E h => ?_) (fun cdv A outer s H vs Q E hr h => ?_)
  · obtain ⟨_, _, _, _, _, _, _, _, _, _, _, _, rfl, _⟩ := h
    rfl
  obtain ⟨t, dx, lt, kd, l, sp, p, B, ads, us, ns, last, rfl, t6, hsp, hp, ln, k⟩ := h
  have ul := All2.len t6.rows
  have f200 := t6.fi.f200
  let R1 : RX := fun cls dd σ' H' => cls = .ref C_NoTalk ∧ dd = none ∧ B.ts.find? (hasKey ns) = none ∧ Same H H' ∧ σ' = [some (.ref t), some (.ref l), some (.int B.time), some (.ref sp), some (.ref p), some (.bl last), some .non, some .non, none, none, none, none, none, none, none, none, none, none]
  have hm1 : ∀ cls dd σ H, R1 cls dd σ H → ∃ C', cls = .ref C' ∧ PySem.W.kitCls K (.ref C') (.ref C_SieveError) = some true := fun cls dd σ H r => ⟨_, r.1, f_k⟩
  refine ⟨_, (@pss_cons _ _ _ _ _ (@ps_set _ _ (6) _ _ _ _ sc__law_gone.nd rfl (Or.inl rfl) pe_non (by rfl) (by first | exact .inl rfl | exact .inr rfl | assumption)) (@pss_cons _ _ _ _ _ (@ps_set _ _ (7) _ _ _ _ sc__law_gone.nd rfl (Or.inl rfl) pe_non (by rfl) (by first | exact .inl rfl | exact .inr rfl | assumption)) (@pss_cons _ _ _ _ _ (@ps_tryAs _ _ _ _ _ _ _ _ _ _ _ _ (8) (R1) ⟨rfl, rfl, rfl⟩ rfl m_SieveError hm1 hb_SieveError sc__law_gone.nd rfl rfl (fun _ => (@pss_one _ _ _ (@ps_set _ _ (7) _ _ _ _ sc__law_gone.nd rfl (Or.inl rfl) (@pe_methT _ _ _ _ _ _ _ _ _ _ _ _ _ _ _ _ _ gx_Table_go_on T.table ⟨rfl, rfl, rfl⟩ hr (by decide) (pv 0) (@pa_cons _ _ _ _ _ (pv 4) (@pa_cons _ _ _ _ _ (pv 5) pa_nil (by rfl)) (by rfl)) (by rfl) (by rfl) (by rfl)) (by rfl) (by first | exact .inl rfl | exact .inr rfl | assumption)))) (fun _ _ => (@pss_one _ _ _ (@ps_set _ _ (6) _ _ _ _ sc__law_gone.nd rfl (Or.inl rfl) (pv 8) (by rfl) (by first | exact .inl rfl | exact .inr rfl | assumption)))) (by decide)) (@pss_cons _ _ _ _ _ (@ps_set _ _ (9) _ _ _ _ sc__law_gone.nd rfl (Or.inl rfl) (@pe_fn _ _ _ _ _ _ _ _ _ _ _ g__law_at hr (by decide) rfl (@pa_cons _ _ _ _ _ (pv 1) (@pa_cons _ _ _ _ _ (pv 4) pa_nil (by rfl)) (by rfl)) (by decide) (by rfl) (by rfl)) (by rfl) (by first | exact .inl rfl | exact .inr rfl | assumption)) (@pss_cons _ _ _ _ _ (@ps_if _ _ _ _ _ _ _ _ (@pt_cmpR _ _ _ _ _ _ _ _ op_lt (pv 9) pe_int (nomark _)) (@pss_cons _ _ _ _ _ (@ps_if _ _ _ _ _ _ _ _ (@pt_val _ _ _ (@pe_callB _ _ _ _ _ _ _ _ _ call_isiN rfl b_isinstance bo_isinstance (@pa_cons _ _ _ _ _ (pv 6) (@pa_cons _ _ _ _ _ (@pe_glob _ _ (.ref C_NoTalk) _ _ rfl m_NoTalk rfl (by decide)) pa_nil (by rfl)) (by rfl)) (by decide) (by decide) (by rfl) (by rfl)) (by intro _; rfl)) (@pss_one _ _ _ (@ps_ret _ _ _ _ (pv 1))) pss_nil) (@pss_one _ _ _ (@ps_ret _ _ _ _ pe_non))) pss_nil) (@pss_cons _ _ _ _ _ (@ps_asg _ _ _ _ _ _ (@pe_ix _ _ _ _ _ _ _ ix_list (pv 1) (pv 9) (fun _ _ => rfl)) (@pg_tup _ _ _ _ _ _ rfl (@pgs_cons _ _ _ _ _ (@pg_name _ _ (10) _ sc__law_gone.nd rfl (Or.inl rfl) (by first | exact .inl rfl | exact .inr rfl | assumption)) (@pgs_cons _ _ _ _ _ (@pg_name _ _ (11) _ sc__law_gone.nd rfl (Or.inl rfl) (by first | exact .inl rfl | exact .inr rfl | assumption)) (@pgs_cons _ _ _ _ _ (@pg_name _ _ (12) _ sc__law_gone.nd rfl (Or.inl rfl) (by first | exact .inl rfl | exact .inr rfl | assumption)) (@pgs_cons _ _ _ _ _ (@pg_name _ _ (13) _ sc__law_gone.nd rfl (Or.inl rfl) (by first | exact .inl rfl | exact .inr rfl | assumption)) (@pgs_cons _ _ _ _ _ (@pg_name _ _ (14) _ sc__law_gone.nd rfl (Or.inl rfl) (by first | exact .inl rfl | exact .inr rfl | assumption)) (@pgs_cons _ _ _ _ _ (@pg_name _ _ (15) _ sc__law_gone.nd rfl (Or.inl rfl) (by first | exact .inl rfl | exact .inr rfl | assumption)) pgs_nil (by rfl)) (by rfl)) (by rfl)) (by rfl)) (by rfl)) (by rfl)) (by rfl) (by rfl)) (by rfl) (by rfl) (by rfl)) (@pss_cons _ _ _ _ _ (@ps_set _ _ (16) _ _ _ _ sc__law_gone.nd rfl (Or.inl rfl) (pv 11) (by rfl) (by first | exact .inl rfl | exact .inr rfl | assumption)) (@pss_cons _ _ _ _ _ (@ps_if _ _ _ _ _ _ _ _ (@pt_cmpR _ _ _ _ _ _ _ _ (op_eqD hr.units) (pv 4) (pv 10) (nomark _)) (@pss_one _ _ _ (@ps_set _ _ (14) _ _ _ _ sc__law_gone.nd rfl (Or.inl rfl) (@pe_or _ _ _ _ _ _ _ (pv 14) (@pe_one _ _ _ _ _ (pv 5))) (by rfl) (by first | exact .inl rfl | exact .inr rfl | assumption))) (@pss_cons _ _ _ _ _ (@ps_set _ _ (16) _ _ _ _ sc__law_gone.nd rfl (Or.inl rfl) (@pe_fn _ _ _ _ _ _ _ _ _ _ _ g__law_flip hr (by decide) rfl (@pa_cons _ _ _ _ _ (pv 10) pa_nil (by rfl)) (by decide) (by rfl) (by rfl)) (by rfl) (by first | exact .inl rfl | exact .inr rfl | assumption)) (@pss_cons _ _ _ _ _ (@ps_set _ _ (12) _ _ _ _ sc__law_gone.nd rfl (Or.inl rfl) pe_bl (by rfl) (by first | exact .inl rfl | exact .inr rfl | assumption)) (@pss_one _ _ _ (@ps_set _ _ (15) _ _ _ _ sc__law_gone.nd rfl (Or.inl rfl) (@pe_or _ _ _ _ _ _ _ (pv 15) (@pe_one _ _ _ _ _ (pv 5))) (by rfl) (by first | exact .inl rfl | exact .inr rfl | assumption)))))) (@pss_cons _ _ _ _ _ (@ps_if _ _ _ _ _ _ _ _ (@PW.pt _ _ _ (@pw_or _ _ _ _ _ _ _ (@pt_cmpR _ _ _ _ _ _ _ _ op_notN (pv 6) pe_non (nomark _)) (@pw_or _ _ _ _ _ _ _ (@pt_not _ _ _ _ (@pt_val _ _ _ (@pe_callB _ _ _ _ _ _ _ _ _ call_isi rfl b_isinstance bo_isinstance (@pa_cons _ _ _ _ _ (pv 7) (@pa_cons _ _ _ _ _ (@pe_bltn _ _ (.ty "tuple") (.type "tuple") _ rfl b_tuple bo_tuple rfl (by decide) (by decide)) pa_nil (by rfl)) (by rfl)) (by decide) (by decide) (by rfl) (by rfl)) (by intro _; rfl))) (@pw_or1 _ _ _ _ (@pt_cmpR _ _ _ _ _ _ _ _ (op_neD hr.units) (pv 7) (pv 16) (nomark _)))))) (@pss_one _ _ _ (@ps_ret _ _ _ _ pe_non)) pss_nil) (@pss_cons _ _ _ _ _ (@ps_if _ _ _ _ _ _ _ _ (@PW.pt _ _ _ (@pw_and _ _ _ _ _ _ _ (@pt_val _ _ _ (pv 14) (by intro _; rfl)) (@pw_and1 _ _ _ _ (@pt_val _ _ _ (pv 15) (by intro _; rfl))))) (@pss_one _ _ _ (@ps_ret _ _ _ _ (@pe_op _ _ _ _ _ _ _ _ op_catQ (@pe_slice _ _ _ _ _ _ _ _ _ _ sl_list (pv 1) po_none (@po_some _ _ _ (pv 9))) (@pe_slice _ _ _ _ _ _ _ _ _ _ sl_list (pv 1) (@po_some _ _ _ (@pe_op _ _ _ _ _ _ _ _ op_add (pv 9) pe_int)) po_none)))) pss_nil) (@pss_cons _ _ _ _ _ (@ps_set _ _ (17) _ _ _ _ sc__law_gone.nd rfl (Or.inl rfl) (@pe_tup _ _ _ _ _ (@pa_cons _ _ _ _ _ (pv 10) (@pa_cons _ _ _ _ _ (pv 11) (@pa_cons _ _ _ _ _ (pv 12) (@pa_cons _ _ _ _ _ (@pe_op _ _ _ _ _ _ _ _ op_add (pv 2) (@pe_ix _ _ _ _ _ _ _ ix_tup (pv 3) (@pe_callTy _ _ _ _ _ _ _ _ _ call_intB rfl b_int bo_int (@pa_cons _ _ _ _ _ (pv 12) pa_nil (by rfl)) (by decide) (by decide) (by rfl) (by rfl)) (fun _ _ => rfl))) (@pa_cons _ _ _ _ _ (pv 14) (@pa_cons _ _ _ _ _ (pv 15) pa_nil (by rfl)) (by rfl)) (by rfl)) (by rfl)) (by rfl)) (by rfl))) (by rfl) (by first | exact .inl rfl | exact .inr rfl | assumption)) (@pss_one _ _ _ (@ps_ret _ _ _ _ (@pe_op _ _ _ _ _ _ _ _ op_catQ (@pe_op _ _ _ _ _ _ _ _ op_catQ (@pe_slice _ _ _ _ _ _ _ _ _ _ sl_list (pv 1) po_none (@po_some _ _ _ (pv 9))) (@pe_lst _ _ _ _ (@pa_cons _ _ _ _ _ (pv 17) pa_nil (by rfl)))) (@pe_slice _ _ _ _ _ _ _ _ _ _ sl_list (pv 1) (@po_some _ _ _ (@pe_op _ _ _ _ _ _ _ _ op_add (pv 9) pe_int)) po_none))))))))))))))), ?_⟩
  rw [st__law_gone]
  walk_at "sv"
  refine ⟨?_, fun cls dd σ' H' xa r hx => ?_⟩
  · walk_at "sv"
    refine MethT.go t6.tab.tab (tab_no (by decide)) ?_
    walk_at "sv"
    refine ⟨t, p, dx, lt, kd, B, ads, ns, last, rfl, t6.tab, t6.fi.ok, hp, ln, fun z H' s' => ⟨rfl, rfl, z, s', rfl⟩, fun x fx => ⟨Nat.le_trans (t6.fi.lab x (List.mem_of_find?_eq_some fx)).2.2 (by decide), fun r lt' kd' ads' H1 kp tb' hr1 => ?_⟩⟩
    have xm := List.mem_of_find?_eq_some fx
    have rows1 := r6s_to t6.rows kp.tup
    have hl1 := kp.lst _ _ t6.lst
    walk_at "sv"
    refine ⟨l, p, us, B.ts, ns, rfl, hl1, rows1, t6.fi.sent, by omega, kp.tup _ _ hp, fun H2 s2 => ?_⟩
    rcases ixK_cases ns B.ts with ⟨_, b⟩ | ⟨i, x', ei, ex, hk, fx'⟩
    · rw [fx] at b
      cases b
    rw [fx] at fx'
    cases fx'
    have eI : ixI ns B.ts = (i : Int) := by
      unfold ixI
      rw [ei]
    rw [eI]
    obtain ⟨v, ev, tx, px, qx, rfl, htx, hpx, hqx⟩ := All2.ix rows1 ex
    have htx2 := s2 _ _ htx
    have hl2 := s2 _ _ hl1
    have lb := lab_back t6.fi.ok.keys xm
    walk_at "sv"
    rw [decide_eq_false (show ¬ (i : Int) < 0 by omega)]
    walk_at "sv"
    refine ixL_go (SqL.of hl2) ev ?_
    refine gtup6 (SqT.of htx2) ?_
    walk_at "sv"
    refine ⟨_, _, ((show IsPt H1 p ns from kp.tup _ _ hp).same s2).dt, (hpx.same s2).dt, pointD_shaped _, pointD_shaped _, ?_⟩
    rw [if_neg Bool.false_ne_true, bool_eq_dec (point_eqv ns x.lab)]
    have go : ∀ {due : List Int} {rd : Addr} {H3 : Hp}, Same H2 H3 → IsPt H3 rd due → (if ns = x.back then flipL x.lab else x.sent) = due → IsPt H3 r due := fun s3 hd e => by
      have := (hr1.same s2).same s3
      rw [e] at this
      exact this
    walk_at "sv"
    have psp := put_split (y := x.go B ns last) t6.fi.ok.keys ex rfl
    refine BrS.dec (fun e1 => ?_) fun e1 => ?_
    · walk_at "sv"
      refine BrOV.or (c := last) (fun Q' q' => by walk_at "sv"; exact q') ?_
      obtain ⟨ga, gl, gb⟩ := go_lab (B := B) (last := last) lb e1
      have hd3 : IsPt H2 qx x.sent := hqx.same s2
      have s3 := Same.refl H2
      have hf3 := go s3 hd3 (if_neg fun z => lb (e1.symm.trans z))
      walk_at "sv"
      refine isi_tup (show H2 r = some (.tup _) from hf3) ?_
      walk_at "sv"
      refine ⟨_, _, hf3.dt, hd3.dt, pointD_shaped _, pointD_shaped _, ?_⟩
      rw [if_pos rfl, bool_eq_dec (point_eqv _ _), decide_eq_true rfl]
      walk_at "sv"
      have s23 := s2.trans s3
      have kp3 := kp.trans (Same.keeps s23)
      have hl3 := kp3.lst _ _ t6.lst
      have tb3 := tb'.same s23
      have ov : (x.go B ns last).over = ((decide (x.lab ∈ x.fw) || last) && decide (x.back ∈ x.fw)) := by
        unfold Tk.over
        show (decide (x.lab ∈ (x.go B ns last).fw) && decide (x.back ∈ (x.go B ns last).fw)) = _
        rw [gl, gb]
      refine BrA.both (c := decide (x.back ∈ x.fw)) (fun Q' q' => by walk_at "sv"; exact q') ?_
      rw [← ov]
      cases eo : (x.go B ns last).over with
      | true =>
        walk_at "sv"
        refine PartR.go ?_
        refine slTakeA_go (SqL.of hl3) fun l4 nl4 => ?_
        have z4 := same_new nl4 (.lst (us.take i))
        have hl4 : upd H2 l4 (.lst (us.take i)) l4 = some (.lst (us.take i)) := upd_same
        generalize upd H2 l4 (.lst (us.take i)) = H4 at *
        walk_at "sv"
        rw [show (i : Int) + 1 = ((i + 1 : Nat) : Int) from rfl]
        refine PartR.go ?_
        refine slDropA_go (SqL.of (z4 _ _ hl3)) fun l5 nl5 => ?_
        have z5 := same_new nl5 (.lst (us.drop (i + 1)))
        have hl5 : upd H4 l5 (.lst (us.drop (i + 1))) l5 = some (.lst (us.drop (i + 1))) := upd_same
        generalize upd H4 l5 (.lst (us.drop (i + 1))) = H5 at *
        refine catQ_go (SqL.of (z5 _ _ hl4)) (SqL.of hl5) (by rw [List.length_take, List.length_drop]; omega) fun l6 nl6 => ?_
        have z6 := same_new nl6 (.lst (us.take i ++ us.drop (i + 1)))
        have z46 := (z4.trans z5).trans z6
        have kp6 := kp3.trans (Same.keeps z46)
        refine k (B.go ns last x) lt' kd' ads' l6 (us.take i ++ us.drop (i + 1)) _ kp6 (tb3.same z46) (.inr (.inr (.inl ⟨ns, last, x, rfl, fx⟩))) rfl upd_same ?_
        rw [show (B.go ns last x).ts = B.ts.take i ++ B.ts.drop (i + 1) from (if_pos eo).trans psp.2]
        have aa := all2_take (r6s_to t6.rows kp6.tup)
        exact (aa i).1.app (aa (i + 1)).2
      | false =>
        walk_at "sv"
        refine IntB.go ?_
        walk_at "sv"
        obtain ⟨m, em, evm⟩ := spanAt x.ans B
        rw [em]
        refine ixT_go (SqT.of (kp3.tup _ _ hsp)) evm ?_
        walk_at "sv"
        refine TupR.go (by simp) fun tt ntt => ?_
        have z4 := same_new ntt (.tup [.ref px, .ref qx, .bl x.ans, .int (B.time + (if x.ans = true then B.long else B.short)), .bl ((decide (x.lab ∈ x.fw) || last)), .bl (decide (x.back ∈ x.fw))])
        have htt : upd H2 tt (.tup [.ref px, .ref qx, .bl x.ans, .int (B.time + (if x.ans = true then B.long else B.short)), .bl ((decide (x.lab ∈ x.fw) || last)), .bl (decide (x.back ∈ x.fw))]) tt = some (.tup [.ref px, .ref qx, .bl x.ans, .int (B.time + (if x.ans = true then B.long else B.short)), .bl ((decide (x.lab ∈ x.fw) || last)), .bl (decide (x.back ∈ x.fw))]) := upd_same
        generalize upd H2 tt (.tup [.ref px, .ref qx, .bl x.ans, .int (B.time + (if x.ans = true then B.long else B.short)), .bl ((decide (x.lab ∈ x.fw) || last)), .bl (decide (x.back ∈ x.fw))]) = H4 at *
        walk_at "sv"
        refine PartR.go ?_
        refine slTakeA_go (SqL.of (z4 _ _ hl3)) fun l5 nl5 => ?_
        have z5 := same_new nl5 (.lst (us.take i))
        have hl5 : upd H4 l5 (.lst (us.take i)) l5 = some (.lst (us.take i)) := upd_same
        generalize upd H4 l5 (.lst (us.take i)) = H5 at *
        refine LstR.go (by simp) fun l6 nl6 => ?_
        have z6 := same_new nl6 (.lst [.ref tt])
        have hl6 : upd H5 l6 (.lst [.ref tt]) l6 = some (.lst [.ref tt]) := upd_same
        generalize upd H5 l6 (.lst [.ref tt]) = H6 at *
        refine catQ_go (SqL.of (z6 _ _ hl5)) (SqL.of hl6) (by rw [List.length_take, List.length_singleton]; omega) fun l7 nl7 => ?_
        have z7 := same_new nl7 (.lst (us.take i ++ [.ref tt]))
        have hl7 : upd H6 l7 (.lst (us.take i ++ [.ref tt])) l7 = some (.lst (us.take i ++ [.ref tt])) := upd_same
        generalize upd H6 l7 (.lst (us.take i ++ [.ref tt])) = H7 at *
        have z47 := ((z4.trans z5).trans z6).trans z7
        walk_at "sv"
        rw [show (i : Int) + 1 = ((i + 1 : Nat) : Int) from rfl]
        refine PartR.go ?_
        refine slDropA_go (SqL.of (z47 _ _ hl3)) fun l8 nl8 => ?_
        have z8 := same_new nl8 (.lst (us.drop (i + 1)))
        have hl8 : upd H7 l8 (.lst (us.drop (i + 1))) l8 = some (.lst (us.drop (i + 1))) := upd_same
        generalize upd H7 l8 (.lst (us.drop (i + 1))) = H8 at *
        refine catQ_go (SqL.of (z8 _ _ hl7)) (SqL.of hl8) (by rw [List.length_append, List.length_take, List.length_drop, List.length_singleton]; omega) fun l9 nl9 => ?_
        have z9 := same_new nl9 (.lst (us.take i ++ [.ref tt] ++ us.drop (i + 1)))
        have z59 := (((z5.trans z6).trans z7).trans z8).trans z9
        have kp9 := kp3.trans (Same.keeps (z4.trans z59))
        refine k (B.go ns last x) lt' kd' ads' l9 (us.take i ++ [.ref tt] ++ us.drop (i + 1)) _ kp9 (tb3.same (z4.trans z59)) (.inr (.inr (.inl ⟨ns, last, x, rfl, fx⟩))) rfl upd_same ?_
        rw [show (B.go ns last x).ts = B.ts.take i ++ [x.go B ns last] ++ B.ts.drop (i + 1) from (if_neg (by rw [eo]; exact Bool.false_ne_true)).trans psp.1]
        have aa := all2_take (r6s_to t6.rows kp9.tup)
        refine ((aa i).1.snoc ?_).app (aa (i + 1)).2
        refine ⟨tt, px, qx, rfl, ?_, (Same.keeps (s23.trans (z4.trans z59))).tup _ _ hpx, (Same.keeps (s23.trans (z4.trans z59))).tup _ _ hqx⟩
        have e1 : decide ((x.go B ns last).lab ∈ (x.go B ns last).fw) = ((decide (x.lab ∈ x.fw) || last)) := gl
        have e2 : decide ((x.go B ns last).back ∈ (x.go B ns last).fw) = (decide (x.back ∈ x.fw)) := gb
        have e3 : (x.go B ns last).til = B.time + (if (x.go B ns last).ans = true then B.long else B.short) := rfl
        rw [e1, e2, e3, ga]
        exact z59 _ _ htt
    · have e2 : ns = x.back := (key_or hk).resolve_left e1
      walk_at "sv"
      refine spFlip.go (hpx.same s2) (t6.fi.ok.five x xm).1 fun rd H3 nrd s3 hd3 => ?_
      walk_at "sv"
      refine BrOV.or (c := last) (fun Q' q' => by walk_at "sv"; exact q') ?_
      obtain ⟨ga, gl, gb⟩ := go_back (B := B) (last := last) lb e2
      have hf3 := go s3 hd3 (if_pos e2)
      walk_at "sv"
      refine isi_tup (show H3 r = some (.tup _) from hf3) ?_
      walk_at "sv"
      refine ⟨_, _, hf3.dt, hd3.dt, pointD_shaped _, pointD_shaped _, ?_⟩
      rw [if_pos rfl, bool_eq_dec (point_eqv _ _), decide_eq_true rfl]
      walk_at "sv"
      have s23 := s2.trans s3
      have kp3 := kp.trans (Same.keeps s23)
      have hl3 := kp3.lst _ _ t6.lst
      have tb3 := tb'.same s23
      have ov : (x.go B ns last).over = (decide (x.lab ∈ x.fw) && (decide (x.back ∈ x.fw) || last)) := by
        unfold Tk.over
        show (decide (x.lab ∈ (x.go B ns last).fw) && decide (x.back ∈ (x.go B ns last).fw)) = _
        rw [gl, gb]
      refine BrA.both (c := (decide (x.back ∈ x.fw) || last)) (fun Q' q' => by walk_at "sv"; exact q') ?_
      rw [← ov]
      cases eo : (x.go B ns last).over with
      | true =>
        walk_at "sv"
        refine PartR.go ?_
        refine slTakeA_go (SqL.of hl3) fun l4 nl4 => ?_
        have z4 := same_new nl4 (.lst (us.take i))
        have hl4 : upd H3 l4 (.lst (us.take i)) l4 = some (.lst (us.take i)) := upd_same
        generalize upd H3 l4 (.lst (us.take i)) = H4 at *
        walk_at "sv"
        rw [show (i : Int) + 1 = ((i + 1 : Nat) : Int) from rfl]
        refine PartR.go ?_
        refine slDropA_go (SqL.of (z4 _ _ hl3)) fun l5 nl5 => ?_
        have z5 := same_new nl5 (.lst (us.drop (i + 1)))
        have hl5 : upd H4 l5 (.lst (us.drop (i + 1))) l5 = some (.lst (us.drop (i + 1))) := upd_same
        generalize upd H4 l5 (.lst (us.drop (i + 1))) = H5 at *
        refine catQ_go (SqL.of (z5 _ _ hl4)) (SqL.of hl5) (by rw [List.length_take, List.length_drop]; omega) fun l6 nl6 => ?_
        have z6 := same_new nl6 (.lst (us.take i ++ us.drop (i + 1)))
        have z46 := (z4.trans z5).trans z6
        have kp6 := kp3.trans (Same.keeps z46)
        refine k (B.go ns last x) lt' kd' ads' l6 (us.take i ++ us.drop (i + 1)) _ kp6 (tb3.same z46) (.inr (.inr (.inl ⟨ns, last, x, rfl, fx⟩))) rfl upd_same ?_
        rw [show (B.go ns last x).ts = B.ts.take i ++ B.ts.drop (i + 1) from (if_pos eo).trans psp.2]
        have aa := all2_take (r6s_to t6.rows kp6.tup)
        exact (aa i).1.app (aa (i + 1)).2
      | false =>
        walk_at "sv"
        refine IntB.go ?_
        walk_at "sv"
        obtain ⟨m, em, evm⟩ := spanAt true B
        obtain rfl : m = 1 := by
          have em : (1 : Int) = (m : Int) := em
          omega
        refine ixT_go (SqT.of (kp3.tup _ _ hsp)) evm ?_
        walk_at "sv"
        refine TupR.go (by simp) fun tt ntt => ?_
        have z4 := same_new ntt (.tup [.ref px, .ref qx, .bl true, .int (B.time + B.long), .bl (decide (x.lab ∈ x.fw)), .bl ((decide (x.back ∈ x.fw) || last))])
        have htt : upd H3 tt (.tup [.ref px, .ref qx, .bl true, .int (B.time + B.long), .bl (decide (x.lab ∈ x.fw)), .bl ((decide (x.back ∈ x.fw) || last))]) tt = some (.tup [.ref px, .ref qx, .bl true, .int (B.time + B.long), .bl (decide (x.lab ∈ x.fw)), .bl ((decide (x.back ∈ x.fw) || last))]) := upd_same
        generalize upd H3 tt (.tup [.ref px, .ref qx, .bl true, .int (B.time + B.long), .bl (decide (x.lab ∈ x.fw)), .bl ((decide (x.back ∈ x.fw) || last))]) = H4 at *
        walk_at "sv"
        refine PartR.go ?_
        refine slTakeA_go (SqL.of (z4 _ _ hl3)) fun l5 nl5 => ?_
        have z5 := same_new nl5 (.lst (us.take i))
        have hl5 : upd H4 l5 (.lst (us.take i)) l5 = some (.lst (us.take i)) := upd_same
        generalize upd H4 l5 (.lst (us.take i)) = H5 at *
        refine LstR.go (by simp) fun l6 nl6 => ?_
        have z6 := same_new nl6 (.lst [.ref tt])
        have hl6 : upd H5 l6 (.lst [.ref tt]) l6 = some (.lst [.ref tt]) := upd_same
        generalize upd H5 l6 (.lst [.ref tt]) = H6 at *
        refine catQ_go (SqL.of (z6 _ _ hl5)) (SqL.of hl6) (by rw [List.length_take, List.length_singleton]; omega) fun l7 nl7 => ?_
        have z7 := same_new nl7 (.lst (us.take i ++ [.ref tt]))
        have hl7 : upd H6 l7 (.lst (us.take i ++ [.ref tt])) l7 = some (.lst (us.take i ++ [.ref tt])) := upd_same
        generalize upd H6 l7 (.lst (us.take i ++ [.ref tt])) = H7 at *
        have z47 := ((z4.trans z5).trans z6).trans z7
        walk_at "sv"
        rw [show (i : Int) + 1 = ((i + 1 : Nat) : Int) from rfl]
        refine PartR.go ?_
        refine slDropA_go (SqL.of (z47 _ _ hl3)) fun l8 nl8 => ?_
        have z8 := same_new nl8 (.lst (us.drop (i + 1)))
        have hl8 : upd H7 l8 (.lst (us.drop (i + 1))) l8 = some (.lst (us.drop (i + 1))) := upd_same
        generalize upd H7 l8 (.lst (us.drop (i + 1))) = H8 at *
        refine catQ_go (SqL.of (z8 _ _ hl7)) (SqL.of hl8) (by rw [List.length_append, List.length_take, List.length_drop, List.length_singleton]; omega) fun l9 nl9 => ?_
        have z9 := same_new nl9 (.lst (us.take i ++ [.ref tt] ++ us.drop (i + 1)))
        have z59 := (((z5.trans z6).trans z7).trans z8).trans z9
        have kp9 := kp3.trans (Same.keeps (z4.trans z59))
        refine k (B.go ns last x) lt' kd' ads' l9 (us.take i ++ [.ref tt] ++ us.drop (i + 1)) _ kp9 (tb3.same (z4.trans z59)) (.inr (.inr (.inl ⟨ns, last, x, rfl, fx⟩))) rfl upd_same ?_
        rw [show (B.go ns last x).ts = B.ts.take i ++ [x.go B ns last] ++ B.ts.drop (i + 1) from (if_neg (by rw [eo]; exact Bool.false_ne_true)).trans psp.1]
        have aa := all2_take (r6s_to t6.rows kp9.tup)
        refine ((aa i).1.snoc ?_).app (aa (i + 1)).2
        refine ⟨tt, px, qx, rfl, ?_, (Same.keeps (s23.trans (z4.trans z59))).tup _ _ hpx, (Same.keeps (s23.trans (z4.trans z59))).tup _ _ hqx⟩
        have e1 : decide ((x.go B ns last).lab ∈ (x.go B ns last).fw) = (decide (x.lab ∈ x.fw)) := gl
        have e2 : decide ((x.go B ns last).back ∈ (x.go B ns last).fw) = ((decide (x.back ∈ x.fw) || last)) := gb
        have e3 : (x.go B ns last).til = B.time + (if (x.go B ns last).ans = true then B.long else B.short) := rfl
        rw [e1, e2, e3, ga]
        exact z59 _ _ htt
  · obtain ⟨rfl, rfl, fn, s', rfl⟩ := r
    have ie : IsExc (upd H' xa (excO xa (.ref C_NoTalk) none)) xa C_NoTalk none := IsExc.of upd_same
    have s2 : Same H (upd H' xa (excO xa (.ref C_NoTalk) none)) := s'.trans (same_new hx _)
    generalize upd H' xa (excO xa (.ref C_NoTalk) none) = H2 at *
    walk_at "sv"
    refine ⟨l, p, us, B.ts, ns, rfl, s2 _ _ t6.lst, r6s_same t6.rows s2, t6.fi.sent, by omega, hp.same s2, fun H3 s3 => ?_⟩
    rcases ixK_cases ns B.ts with ⟨a, b⟩ | ⟨i, x', ei, ex, hk, fx'⟩
    · have eI : ixI ns B.ts = -1 := by
        unfold ixI
        rw [a]
      rw [eI]
      have s23 := s2.trans s3
      walk_at "sv"
      rw [show decide ((-1 : Int) < 0) = true from rfl]
      walk_at "sv"
      refine isiN_exc (exc_same ie s3) Z1 f11 ?_
      walk_at "sv"
      exact k B lt kd ads l us H3 (Same.keeps s23) (t6.tab.same s23) (.inl rfl) rfl (s23 _ _ t6.lst) (r6s_same t6.rows s23)
    · rw [fn] at fx'
      cases fx'
end
--CUT--
section
variable {C_Talk C_Table C_Full C_Taken C_NoTalk C_SieveError C_OutOfTime : Addr}
theorem either_ok {k : Nat} {ps : List Str} {sp0 sp1 : Sp} (F0 : FnOk P w K mg base CX0 k f fd ps sp0) (F1 : FnOk P w K mg base (CXe P w) k f fd ps sp1) : FnOk P w K mg base (CXe P w) k f fd ps fun vs H Q E => sp0 vs H Q E ∨ sp1 vs H Q E :=
  ⟨fun vs H Q E h => h.elim (F0.len vs H Q E) (F1.len vs H Q E), fun A outer s H args us vs Q E hr e0 hb hv h => h.elim (fun h => codeAny_mono (F0.run A outer s H args us vs Q E hr e0 hb hv h) fun r s' hq => by
    cases r with
    | ok fl => cases fl <;> exact hq
    | error e => exact hq.elim) fun h => F1.run A outer s H args us vs Q E hr e0 hb hv h⟩
def spAtB (C_Talk C_Table C_OutOfTime : Addr) : Sp := fun vs H Q E => spAt C_Talk C_Table vs H Q E ∨ spAtX C_Talk C_Table C_OutOfTime vs H Q E
theorem ok_Table_atB (F : Fun K "at" "Table.at" s_Table_at f fd) (X_OutOfTime : XcI P w K mg base "OutOfTime" C_OutOfTime 1 ["self", "moment"] (spXMom C_OutOfTime)) (gm_Table_keep : FnM P w K mg base C_Table "keep" 1 ["self", "talks"] (spKeep C_Talk C_Table)) (T : TxT K C_Talk C_Table) : FnOk P w K mg base (CXe P w) 3 f fd ["self", "moment"] (spAtB C_Talk C_Table C_OutOfTime) :=
  either_ok ((ok_Table_at F gm_Table_keep T).mono (by decide)) (ok_Table_atX F X_OutOfTime gm_Table_keep T)
def spLate (C_Talk C_Table : Addr) : Sp := fun vs H Q _ => ∃ (t dx lt kd : Addr) (B : Tb) (ads : List (Addr × Addr)) (m : Int), vs = [.ref t, .int B.time, .int m] ∧ TabAt C_Talk C_Table H t B dx lt kd ads ∧ Fi B 90 ∧ (B.time ≤ m → ∀ lt' kd' ads' H', Keeps H H' → TabAt C_Talk C_Table H' t (B.at m) dx lt' kd' ads' → Q (.bl true) H') ∧ (m < B.time → ∀ H', Same H H' → Q (.bl true) H')
theorem ok_late (F : Fun K "_law_late" "_law_late" s__law_late f fd) (gx_Table_at : FnMX P w K mg base C_Table "at" 3 ["self", "moment"] (spAtB C_Talk C_Table C_OutOfTime)) (g__law_whole : Fn P w K mg base "_law_whole" 1 ["_law_found"] spWhole) (m_SieveError : mg "SieveError" = some (.ref C_SieveError)) (m_OutOfTime : mg "OutOfTime" = some (.ref C_OutOfTime)) (b_isinstance : mg "isinstance" = none)
    (T : TxT K C_Talk C_Table) (Z : ExcI K C_OutOfTime) (na : NoAttr K C_OutOfTime "moment") (f_k : PySem.W.kitCls K (.ref C_OutOfTime) (.ref C_SieveError) = some true) (hb_SieveError : PySem.W.mroIn K C_SieveError (.type "BaseException") = some true) (f_i1 : PySem.W.kitOne K (.ref C_OutOfTime) (.ref C_OutOfTime) = some true) : FnOk P w K mg base CX0 4 f fd ["_law_table", "_law_time", "_law_moment_here"] (spLate C_Talk C_Table) := by
  refine F.ok sc__law_late (fun vs H Q E h => ?_) (fun cdv A outer s H vs Q E hr h => ?_)
  · obtain ⟨_, _, _, _, _, _, _, rfl, _⟩ := h
    rfl
  obtain ⟨t, dx, lt, kd, B, ads, m, rfl, tb, fi, q1, q2⟩ := h
  let R1 : RX := fun cls dd σ' H' => cls = .ref C_OutOfTime ∧ (m < B.time ∧ ∃ d, dd = some d ∧ Same H H' ∧ H' d = some (.xd [("moment", .int B.time)])) ∧ σ' = [some (.ref t), some (.int B.time), some (.int m), some .non, none]
  have hm1 : ∀ cls dd σ H, R1 cls dd σ H → ∃ C', cls = .ref C' ∧ PySem.W.kitCls K (.ref C') (.ref C_SieveError) = some true := fun cls dd σ H r => ⟨_, r.1, f_k⟩
  refine ⟨_, (@pss_cons _ _ _ _ _ (@ps_set _ _ (3) _ _ _ _ sc__law_late.nd rfl (Or.inl rfl) pe_non (by rfl) (by first | exact .inl rfl | exact .inr rfl | assumption)) (@pss_cons _ _ _ _ _ (@ps_tryAs _ _ _ _ _ _ _ _ _ _ _ _ (4) (R1) ⟨rfl, rfl, rfl⟩ rfl m_SieveError hm1 hb_SieveError sc__law_late.nd rfl rfl (fun _ => (@pss_one _ _ _ (@ps_expr _ _ _ _ (@pe_methT _ _ _ _ _ _ _ _ _ _ _ _ _ _ _ _ _ gx_Table_at T.table ⟨rfl, rfl, rfl⟩ hr (by decide) (pv 0) (@pa_cons _ _ _ _ _ (pv 2) pa_nil (by rfl)) (by rfl) (by rfl) (by rfl)) (by rfl)))) (fun _ _ => (@pss_one _ _ _ (@ps_set _ _ (3) _ _ _ _ sc__law_late.nd rfl (Or.inl rfl) (pv 4) (by rfl) (by first | exact .inl rfl | exact .inr rfl | assumption)))) (by decide)) (@pss_cons _ _ _ _ _ (@ps_if _ _ _ _ _ _ _ _ (@pt_cmpR _ _ _ _ _ _ _ _ op_ge (pv 2) (pv 1) (nomark _)) (@pss_one _ _ _ (@ps_ret _ _ _ _ (@pe_cmpR _ _ _ _ _ _ _ _ op_isN (pv 3) pe_non (nomark _)))) pss_nil) (@pss_one _ _ _ (@ps_ret _ _ _ _ (@pe_and _ _ _ _ _ _ _ (@pe_callB _ _ _ _ _ _ _ _ _ call_isiE rfl b_isinstance bo_isinstance (@pa_cons _ _ _ _ _ (pv 3) (@pa_cons _ _ _ _ _ (@pe_glob _ _ (.ref C_OutOfTime) _ _ rfl m_OutOfTime rfl (by decide)) pa_nil (by rfl)) (by rfl)) (by decide) (by decide) (by rfl) (by rfl)) (@pe_and _ _ _ _ _ _ _ (@pe_fn _ _ _ _ _ _ _ _ _ _ _ g__law_whole hr (by decide) rfl (@pa_cons _ _ _ _ _ (@pe_fldE _ _ _ _ _ (pv 3) rfl) pa_nil (by rfl)) (by decide) (by rfl) (by rfl)) (@pe_one _ _ _ _ _ (@pe_cmpR _ _ _ _ _ _ _ _ op_eq (@pe_fldE _ _ _ _ _ (pv 3) rfl) (pv 1) (nomark _)))))))))), ?_⟩
  rw [st__law_late]
  walk_at "sv"
  refine ⟨?_, fun cls dd σ' H' xa r hx => ?_⟩
  · walk_at "sv"
    refine MethT.go tb.tab (tab_no (by decide)) ?_
    walk_at "sv"
    by_cases lt0 : m < B.time
    · exact .inr ⟨t, dx, lt, kd, B, ads, m, rfl, tb, lt0, fi.tm.1, Int.lt_of_le_of_lt fi.tm.2 (by decide), fun d H' s' hd => ⟨rfl, ⟨lt0, d, rfl, s', hd⟩, rfl⟩⟩
    · refine .inl ⟨t, dx, lt, kd, B, ads, m, rfl, tb, fi.ok, by omega, fun lt' kd' ads' H1 kp tb1 => ?_⟩
      walk_at "sv"
      rw [decide_eq_true (show m ≥ B.time by omega)]
      walk_at "sv"
      exact q1 (by omega) lt' kd' ads' H1 kp tb1
  · obtain ⟨rfl, ⟨lt0, d, rfl, s', hd⟩, rfl⟩ := r
    have ie : IsExc (upd H' xa (excO xa (.ref C_OutOfTime) (some d))) xa C_OutOfTime (some d) := IsExc.of upd_same
    have hd2 : upd H' xa (excO xa (.ref C_OutOfTime) (some d)) d = some (.xd [("moment", .int B.time)]) := by
      rw [upd_ne (ne_of_none hd hx)]
      exact hd
    have s2 : Same H (upd H' xa (excO xa (.ref C_OutOfTime) (some d))) := s'.trans (same_new hx _)
    walk_at "sv"
    rw [decide_eq_false (show ¬ m ≥ B.time by omega)]
    walk_at "sv"
    refine ⟨xa, C_OutOfTime, some d, .ref C_OutOfTime, true, rfl, .inr ⟨_, rfl⟩, ie, fun d' e => ⟨_, by cases e; exact hd2⟩, Z, f_i1, ?_⟩
    walk_at "sv"
    refine ⟨xa, C_OutOfTime, d, _, .int B.time, rfl, ie, hd2, Z, na, look_hit, ?_⟩
    refine spWhole.go ?_
    walk_at "sv"
    refine ⟨xa, C_OutOfTime, d, _, .int B.time, rfl, ie, hd2, Z, na, look_hit, ?_⟩
    walk_at "sv"
    exact q2 lt0 _ s2
end
def r6D (x : Tk) : PyData := .tuple [pointD x.lab, pointD x.sent, .bool x.ans, .int x.til, .bool (decide (x.lab ∈ x.fw)), .bool (decide (x.back ∈ x.fw))]
theorem r6_dts {H : Hp} {vs : List V} {xs : List Tk} (h : All2 (R6 H) vs xs) : Dts H vs (xs.map r6D) := by
  induction h with
  | nil => exact .nil
  | cons h _ ih =>
    obtain ⟨t, p, q, rfl, ht, hp, hq⟩ := h
    exact .cons (.tup (.inl ht) (.cons hp.dt (.cons hq.dt (.cons (.bl _) (.cons (.int _) (.cons (.bl _) (.cons (.bl _) .nil))))))) ih
theorem r6_shaped (xs : List Tk) : SeqAt.shaped (.list (xs.map r6D)) = true := by
  have pl : ∀ ns : List Int, PyData.canLayAll0 (ns.map .int) = true := canLayAll_of PyData.int fun z => by simp [PyData.canLay0]
  have pd : ∀ ns : List Int, PyData.depthAll (ns.map .int) ≤ 1 := depthAll_of PyData.int (n := 1) fun z => by simp [PyData.depth]
  have a := canLayAll_of r6D (fun x => by simp [r6D, pointD, PyData.canLay0, PyData.canLayAll0, pl]) xs
  have b := depthAll_of r6D (n := 10) (fun x => by
    have d1 := pd x.lab
    have d2 := pd x.sent
    simp [r6D, pointD, PyData.depth, PyData.depthAll]
    omega) xs
  exact shaped_of (by simp [PyData.canLay0, a]) (by simp only [PyData.depth]; omega)
theorem r6s_nil {H : Hp} {Q : VK} {neg : Bool} {a b : Addr} {us : List V} {xs : List Tk} (ha : H a = some (.lst us)) (hb : H b = some (.lst [])) (la : All2 (R6 H) us xs) (q : Q (.bl (if neg = true then !decide (us = []) else decide (us = []))) H) : rEqD neg (.ref a) (.ref b) H Q := by
  refine ⟨_, .list [], .lst (.inl ha) (r6_dts la), .lst (.inl hb) .nil, r6_shaped xs, by decide, ?_⟩
  have e : PyData.eqv (.list (xs.map r6D)) (.list []) = decide (us = []) := by
    cases la with
    | nil => rfl
    | cons _ _ => simp [PyData.eqv, PyData.eqvAll]
  rw [e]
  exact q
def spMoment : Sp := fun vs H Q _ => ∃ (time d0 d1 d2 d3 d4 d5 : Int) (l ld : Addr) (us : List V) (ts : List Tk), vs = [.int time, .ref l, .ref ld] ∧ H l = some (.lst us) ∧ All2 (R6 H) us ts ∧ H ld = some (.lst [.int d0, .int d1, .int d2, .int d3, .int d4, .int d5]) ∧ (∀ z ∈ ts, time ≤ z.til ∧ z.til ≤ time + 1000000000) ∧ ∀ n H', Same H H' → n ≤ time + 1000000007 → Q (.int n) H'
theorem ok_moment (F : Fun K "_law_moment" "_law_moment" s__law_moment f fd) (b_max : mg "max" = none) (b_len : mg "len" = none) : FnOk P w K mg base CX0 1 f fd ["_law_time", "_law_talks", "_law_draws"] spMoment := by
  refine F.ok sc__law_moment (fun vs H Q E h => ?_) (fun cdv A outer s H vs Q E hr h => ?_)
  · obtain ⟨_, _, _, _, _, _, _, _, _, _, _, rfl, _⟩ := h
    rfl
  obtain ⟨time, d0, d1, d2, d3, d4, d5, l, ld, us, ts, rfl, hl, al, hld, til, q⟩ := h
  have ul := All2.len al
  refine ⟨_, (@pss_cons _ _ _ _ _ (@ps_if _ _ _ _ _ _ _ _ (@pt_cmpR _ _ _ _ _ _ _ _ op_eq (@pe_op _ _ _ _ _ _ _ _ op_mod (@pe_ix _ _ _ _ _ _ _ ix_list (pv 2) pe_int (fun _ _ => rfl)) pe_int) pe_int (nomark _)) (@pss_one _ _ _ (@ps_ret _ _ _ _ (@pe_op _ _ _ _ _ _ _ _ op_sub (@pe_op _ _ _ _ _ _ _ _ op_sub (pv 0) pe_int) (@pe_op _ _ _ _ _ _ _ _ op_mod (@pe_ix _ _ _ _ _ _ _ ix_list (pv 2) pe_int (fun _ _ => rfl)) pe_int)))) pss_nil) (@pss_cons _ _ _ _ _ (@ps_if _ _ _ _ _ _ _ _ (@PW.pt _ _ _ (@pw_or _ _ _ _ _ _ _ (@pt_cmpR _ _ _ _ _ _ _ _ (op_eqD hr.units) (pv 1) (@pe_lst _ _ _ _ pa_nil) (nomark _)) (@pw_or1 _ _ _ _ (@pt_cmpR _ _ _ _ _ _ _ _ op_lt (@pe_op _ _ _ _ _ _ _ _ op_mod (@pe_ix _ _ _ _ _ _ _ ix_list (pv 2) pe_int (fun _ _ => rfl)) pe_int) pe_int (nomark _))))) (@pss_one _ _ _ (@ps_ret _ _ _ _ (@pe_op _ _ _ _ _ _ _ _ op_add (pv 0) (@pe_op _ _ _ _ _ _ _ _ op_mod (@pe_ix _ _ _ _ _ _ _ ix_list (pv 2) pe_int (fun _ _ => rfl)) pe_int)))) pss_nil) (@pss_one _ _ _ (@ps_ret _ _ _ _ (@pe_callB _ _ _ _ _ _ _ _ _ (call_maxR rfl) rfl b_max bo_max (@pa_cons _ _ _ _ _ (pv 0) (@pa_cons _ _ _ _ _ (@pe_op _ _ _ _ _ _ _ _ op_sub (@pe_op _ _ _ _ _ _ _ _ op_add (@pe_ix _ _ _ _ _ _ _ ix_tup (@pe_ix _ _ _ _ _ _ _ ix_list (pv 1) (@pe_op _ _ _ _ _ _ _ _ op_mod (@pe_ix _ _ _ _ _ _ _ ix_list (pv 2) pe_int (fun _ _ => rfl)) (@pe_callB _ _ _ _ _ _ _ _ _ call_lenR rfl b_len bo_len (@pa_cons _ _ _ _ _ (pv 1) pa_nil (by rfl)) (by decide) (by decide) (by rfl) (by rfl))) (fun _ _ => rfl)) pe_int (fun _ _ => rfl)) (@pe_op _ _ _ _ _ _ _ _ op_mod (@pe_ix _ _ _ _ _ _ _ ix_list (pv 2) pe_int (fun _ _ => rfl)) pe_int)) pe_int) pa_nil (by rfl)) (by rfl)) (by decide) (by decide) (by rfl) (by rfl)))))), ?_⟩
  rw [st__law_moment]
  walk_at "sv"
  refine ixL_go (i := 1) (SqL.of hld) rfl ?_
  walk_at "sv"
  refine ⟨by decide, ?_⟩
  refine BrS.dec (fun _ => ?_) fun _ => ?_
  · walk_at "sv"
    refine ixL_go (i := 2) (SqL.of hld) rfl ?_
    walk_at "sv"
    refine ⟨by decide, ?_⟩
    have := mod_in d2 (show (0 : Int) < 1000 by decide)
    exact q _ H (Same.refl _) (by omega)
  walk_at "sv"
  refine LstR.go (by simp) fun le nle => ?_
  have z1 := same_new nle (.lst [])
  have hle : upd H le (.lst []) le = some (.lst []) := upd_same
  generalize upd H le (.lst []) = H1 at *
  have al1 := r6s_same al z1
  refine r6s_nil (z1 _ _ hl) hle al1 ?_
  rw [if_neg Bool.false_ne_true]
  walk_at "sv"
  refine BrO.dec (fun e => ?_) fun e => ?_
  · walk_at "sv"
    refine ixL_go (i := 2) (SqL.of (z1 _ _ hld)) rfl ?_
    walk_at "sv"
    refine ⟨by decide, ?_⟩
    have := mod_in d2 (show (0 : Int) < 7 by decide)
    exact q _ H1 z1 (by omega)
  · walk_at "sv"
    refine ixL_go (i := 1) (SqL.of (z1 _ _ hld)) rfl ?_
    walk_at "sv"
    refine ⟨by decide, ?_⟩
    refine BrS.dec (fun _ => ?_) fun _ => ?_
    · walk_at "sv"
      refine ixL_go (i := 2) (SqL.of (z1 _ _ hld)) rfl ?_
      walk_at "sv"
      refine ⟨by decide, ?_⟩
      have := mod_in d2 (show (0 : Int) < 7 by decide)
      exact q _ H1 z1 (by omega)
    · walk_at "sv"
      refine ixL_go (i := 2) (SqL.of (z1 _ _ hld)) rfl ?_
      walk_at "sv"
      refine LenR.lst (SqL.of (z1 _ _ hl)) ?_
      have up : 0 < us.length := by
        cases us with
        | nil => exact absurd rfl e
        | cons _ _ => exact Nat.succ_pos _
      walk_at "sv"
      refine ⟨by omega, ?_⟩
      have md := mod_in d2 (show (0 : Int) < (us.length : Int) by omega)
      obtain ⟨m, em, lm⟩ := nat_of (n := us.length) md.1 md.2
      rw [em]
      obtain ⟨v, ev⟩ : ∃ v, us[m]? = some v := ⟨us[m], List.getElem?_eq_getElem lm⟩
      obtain ⟨x, ex, tx, px, qx, rfl, htx, hpx, hqx⟩ := All2.at al1 ev
      refine ixL_go (SqL.of (z1 _ _ hl)) ev ?_
      walk_at "sv"
      refine ixT_go (i := 3) (SqT.of htx) rfl ?_
      walk_at "sv"
      refine ixL_go (i := 1) (SqL.of (z1 _ _ hld)) rfl ?_
      walk_at "sv"
      refine ⟨by decide, ?_⟩
      walk_at "sv"
      have := til x (List.mem_of_getElem? ex)
      have := mod_in d1 (show (0 : Int) < 5 by decide)
      exact q _ H1 z1 (by omega)
theorem BrA.any {b : Bool} {u : TT} {σ : L2.St} {H : Hp} {Q : Bool → Hp → Prop} (p : Bool → Hp → Prop) (h0 : b = false → p false H) (rest : ∀ c H', p c H' → Q c H') (h1 : b = true → ∀ Q' : Bool → Hp → Prop, (∀ c H', p c H' → Q' c H') → u σ H Q') : BrA b u σ H Q := by
  cases b with
  | true => exact h1 rfl Q rest
  | false => exact rest false H (h0 rfl)
theorem gtup2 {a : Addr} {x y : V} {i j : Nat} {σ : L2.St} {H : Hp} {R : L2.St → Hp → Prop} (h : SqT K H a [x, y]) (q : R ((σ.set i (some x)).set j (some y)) H) : gTup K 2 (gCons (gName i) (gCons (gName j) gNil)) (.ref a) σ H R := ⟨a, _, rfl, h, rfl, _, _, rfl, _, _, rfl, rfl, q⟩
def tilV (H : Hp) (m : Int) (v : V) : Bool := match v with
  | .ref t => match H t with
    | some (.tup [_, _, _, .int u, _, _]) => decide (m ≤ u)
    | _ => false
  | _ => false
theorem tilV_at {H : Hp} {m : Int} {v : V} {x : Tk} (h : R6 H v x) : tilV H m v = Tk.stands m x := by
  obtain ⟨t, p, q, rfl, ht, _⟩ := h
  unfold tilV
  show (match H t with
    | some (.tup [_, _, _, .int u, _, _]) => decide (m ≤ u)
    | _ => false) = _
  rw [ht]
  rfl
theorem all2_filter {α β : Type} {R : α → β → Prop} {p : α → Bool} {g : β → Bool} {xs : List α} {ys : List β} (h : All2 R xs ys) (e : ∀ x y, R x y → p x = g y) : All2 R (xs.filter p) (ys.filter g) := by
  induction h with
  | nil => exact .nil
  | @cons x y xs ys r _ ih =>
    rw [List.filter_cons, List.filter_cons, e x y r]
    split
    · exact .cons r ih
    · exact ih
section
variable {C_Talk C_Table : Addr}
def spDeed (C_Talk C_Table : Addr) : Sp := fun vs H Q _ => ∃ (t dx lt kd l st sp ld te : Addr) (B : Tb) (ads : List (Addr × Addr)) (us : List V) (d0 d1 d2 d3 d4 d5 : Int), vs = [.ref t, .ref st, .ref sp, .ref ld, .ref te] ∧ H st = some (.tup [.int B.time, .ref l]) ∧ T6 C_Talk C_Table H t dx B lt kd ads l us ∧ H sp = some (.tup [.int B.short, .int B.long, .int B.most]) ∧ H ld = some (.lst [.int d0, .int d1, .int d2, .int d3, .int d4, .int d5]) ∧ EndsAt H te ∧
  ∀ B' lt' kd' ads' l' us' st' H', Keeps H H' → TabAt C_Talk C_Table H' t B' dx lt' kd' ads' → Nx B B' → H' st' = some (.tup [.int B'.time, .ref l']) → H' l' = some (.lst us') → All2 (R6 H') us' B'.ts → Q (.ref st') H'
theorem ok_deed (F : Fun K "_law_deed" "_law_deed" s__law_deed f fd) (g__law_moment : Fn P w K mg base "_law_moment" 1 ["_law_time", "_law_talks", "_law_draws"] spMoment) (g__law_late : Fn P w K mg base "_law_late" 4 ["_law_table", "_law_time", "_law_moment_here"] (spLate C_Talk C_Table)) (g__law_label : Fn P w K mg base "_law_label" 1 ["_law_draw", "_law_ends_here"] spLabel) (g__law_flip : Fn P w K mg base "_law_flip" 1 ["_law_label_here"] spFlip) (g__law_begun : Fn P w K mg base "_law_begun" 5 ["_law_table", "_law_talks", "_law_time", "_law_spans", "_law_label_here", "_law_sent"] (spBegun C_Talk C_Table)) (g__law_gone : Fn P w K mg base "_law_gone" 4 ["_law_table", "_law_talks", "_law_time", "_law_spans", "_law_label_here", "_law_last"] (spGone C_Talk C_Table))
    (b_max : mg "max" = none) (b_len : mg "len" = none) : FnOk P w K mg base CX0 6 f fd ["_law_table", "_law_state", "_law_spans", "_law_draws", "_law_ends_here"] (spDeed C_Talk C_Table) := by
  refine F.ok sc__law_deed (fun vs H Q E h => ?_) (fun cdv A outer s H vs Q E hr h => ?_)
  · obtain ⟨_, _, _, _, _, _, _, _, _, _, _, _, _, _, _, _, _, _, rfl, _⟩ := h
    rfl
  obtain ⟨t, dx, lt, kd, l, st, sp, ld, te, B, ads, us, d0, d1, d2, d3, d4, d5, rfl, hst, t6, hsp, hld, ends, k⟩ := h
  have ul := All2.len t6.rows
  have f200 := t6.fi.f200
  refine ⟨_, (@pss_cons _ _ _ _ _ (@ps_asg _ _ _ _ _ _ (pv 1) (@pg_tup _ _ _ _ _ _ rfl (@pgs_cons _ _ _ _ _ (@pg_name _ _ (5) _ sc__law_deed.nd rfl (Or.inl rfl) (by first | exact .inl rfl | exact .inr rfl | assumption)) (@pgs_cons _ _ _ _ _ (@pg_name _ _ (6) _ sc__law_deed.nd rfl (Or.inl rfl) (by first | exact .inl rfl | exact .inr rfl | assumption)) pgs_nil (by rfl)) (by rfl)) (by rfl) (by rfl)) (by rfl) (by rfl) (by rfl)) (@pss_cons _ _ _ _ _ (@ps_set _ _ (7) _ _ _ _ sc__law_deed.nd rfl (Or.inl rfl) (@pe_op _ _ _ _ _ _ _ _ op_mod (@pe_ix _ _ _ _ _ _ _ ix_list (pv 3) pe_int (fun _ _ => rfl)) pe_int) (by rfl) (by first | exact .inl rfl | exact .inr rfl | assumption)) (@pss_cons _ _ _ _ _ (@ps_if _ _ _ _ _ _ _ _ (@pt_cmpR _ _ _ _ _ _ _ _ op_eq (pv 7) pe_int (nomark _)) (@pss_cons _ _ _ _ _ (@ps_set _ _ (8) _ _ _ _ sc__law_deed.nd rfl (Or.inr rfl) (@pe_fn _ _ _ _ _ _ _ _ _ _ _ g__law_moment hr (by decide) rfl (@pa_cons _ _ _ _ _ (pv 5) (@pa_cons _ _ _ _ _ (pv 6) (@pa_cons _ _ _ _ _ (pv 3) pa_nil (by rfl)) (by rfl)) (by rfl)) (by decide) (by rfl) (by rfl)) (by rfl) (by first | exact .inl rfl | exact .inr rfl | assumption)) (@pss_cons _ _ _ _ _ (@ps_if _ _ _ _ _ _ _ _ (@pt_not _ _ _ _ (@pt_val _ _ _ (@pe_fn _ _ _ _ _ _ _ _ _ _ _ g__law_late hr (by decide) rfl (@pa_cons _ _ _ _ _ (pv 0) (@pa_cons _ _ _ _ _ (pv 5) (@pa_cons _ _ _ _ _ (pv 8) pa_nil (by rfl)) (by rfl)) (by rfl)) (by decide) (by rfl) (by rfl)) (by intro _; rfl))) (@pss_one _ _ _ (@ps_ret _ _ _ _ pe_non)) pss_nil) (@pss_one _ _ _ (@ps_ret _ _ _ _ (@pe_tup _ _ _ _ _ (@pa_cons _ _ _ _ _ (@pe_callB _ _ _ _ _ _ _ _ _ (call_maxR rfl) rfl b_max bo_max (@pa_cons _ _ _ _ _ (pv 5) (@pa_cons _ _ _ _ _ (pv 8) pa_nil (by rfl)) (by rfl)) (by decide) (by decide) (by rfl) (by rfl)) (@pa_cons _ _ _ _ _ (@pe_comp _ _ (["_law_talk"]) ([8]) _ _ _ _ _ _ _ _ _ rfl (COk.of (out := defScope s__law_deed) (N := ["_law_table", "_law_state", "_law_spans", "_law_draws", "_law_ends_here", "_law_time", "_law_talks", "_law_way", "_law_moment_here", "_law_label_here", "_law_talk"]) rfl rfl (by decide +kernel)) (@pi_list _ _ _ _ (pv 6)) (fun _ _ _ => (@pg_name _ _ (0) _ (show List.Nodup (["_law_talk", "_law_moment_here"] : List Str) by decide +kernel) rfl (Or.inl rfl) (by first | exact .inl rfl | exact .inr rfl | assumption))) (fun _ _ _ => (@pifs_one _ _ _ (@pt_cmpR _ _ _ _ _ _ _ _ op_ge (@pe_ix _ _ _ _ _ _ _ (ix_tupK (K := K) rfl) (pv 0) pe_int (fun _ _ => rfl)) (pv 1) (nomark _)))) (fun _ _ _ => (pv 0)) (by intro _; rfl)) pa_nil (by rfl)) (by rfl))))))) pss_nil) (@pss_cons _ _ _ _ _ (@ps_set _ _ (9) _ _ _ _ sc__law_deed.nd rfl (Or.inl rfl) (@pe_fn _ _ _ _ _ _ _ _ _ _ _ g__law_label hr (by decide) rfl (@pa_cons _ _ _ _ _ (@pe_ix _ _ _ _ _ _ _ ix_list (pv 3) pe_int (fun _ _ => rfl)) (@pa_cons _ _ _ _ _ (pv 4) pa_nil (by rfl)) (by rfl)) (by decide) (by rfl) (by rfl)) (by rfl) (by first | exact .inl rfl | exact .inr rfl | assumption)) (@pss_cons _ _ _ _ _ (@ps_if _ _ _ _ _ _ _ _ (@PW.pt _ _ _ (@pw_and _ _ _ _ _ _ _ (@pt_cmpR _ _ _ _ _ _ _ _ op_gt (pv 7) pe_int (nomark _)) (@pw_and1 _ _ _ _ (@pt_cmpR _ _ _ _ _ _ _ _ (op_neD hr.units) (pv 6) (@pe_lst _ _ _ _ pa_nil) (nomark _))))) (@pss_cons _ _ _ _ _ (@ps_set _ _ (10) _ _ _ _ sc__law_deed.nd rfl (Or.inl rfl) (@pe_ix _ _ _ _ _ _ _ ix_list (pv 6) (@pe_op _ _ _ _ _ _ _ _ op_mod (@pe_ix _ _ _ _ _ _ _ ix_list (pv 3) pe_int (fun _ _ => rfl)) (@pe_callB _ _ _ _ _ _ _ _ _ call_lenR rfl b_len bo_len (@pa_cons _ _ _ _ _ (pv 6) pa_nil (by rfl)) (by decide) (by decide) (by rfl) (by rfl))) (fun _ _ => rfl)) (by rfl) (by first | exact .inl rfl | exact .inr rfl | assumption)) (@pss_one _ _ _ (@ps_set _ _ (9) _ _ _ _ sc__law_deed.nd rfl (Or.inl rfl) (@pe_ix _ _ _ _ _ _ _ ix_list (@pe_lst _ _ _ _ (@pa_cons _ _ _ _ _ (@pe_ix _ _ _ _ _ _ _ ix_tup (pv 10) pe_int (fun _ _ => rfl)) (@pa_cons _ _ _ _ _ (@pe_fn _ _ _ _ _ _ _ _ _ _ _ g__law_flip hr (by decide) rfl (@pa_cons _ _ _ _ _ (@pe_ix _ _ _ _ _ _ _ ix_tup (pv 10) pe_int (fun _ _ => rfl)) pa_nil (by rfl)) (by decide) (by rfl) (by rfl)) pa_nil (by rfl)) (by rfl))) (@pe_op _ _ _ _ _ _ _ _ op_mod (@pe_ix _ _ _ _ _ _ _ ix_list (pv 3) pe_int (fun _ _ => rfl)) pe_int) (fun _ _ => rfl)) (by rfl) (by first | exact .inl rfl | exact .inr rfl | assumption)))) pss_nil) (@pss_cons _ _ _ _ _ (@ps_if _ _ _ _ _ _ _ _ (@pt_cmpR _ _ _ _ _ _ _ _ op_lt (pv 7) pe_int (nomark _)) (@pss_one _ _ _ (@ps_set _ _ (6) _ _ _ _ sc__law_deed.nd rfl (Or.inl rfl) (@pe_fn _ _ _ _ _ _ _ _ _ _ _ g__law_begun hr (by decide) rfl (@pa_cons _ _ _ _ _ (pv 0) (@pa_cons _ _ _ _ _ (pv 6) (@pa_cons _ _ _ _ _ (pv 5) (@pa_cons _ _ _ _ _ (pv 2) (@pa_cons _ _ _ _ _ (pv 9) (@pa_cons _ _ _ _ _ (@pe_fn _ _ _ _ _ _ _ _ _ _ _ g__law_label hr (by decide) rfl (@pa_cons _ _ _ _ _ (@pe_ix _ _ _ _ _ _ _ ix_list (pv 3) pe_int (fun _ _ => rfl)) (@pa_cons _ _ _ _ _ (pv 4) pa_nil (by rfl)) (by rfl)) (by decide) (by rfl) (by rfl)) pa_nil (by rfl)) (by rfl)) (by rfl)) (by rfl)) (by rfl)) (by rfl)) (by decide) (by rfl) (by rfl)) (by rfl) (by first | exact .inl rfl | exact .inr rfl | assumption))) (@pss_one _ _ _ (@ps_set _ _ (6) _ _ _ _ sc__law_deed.nd rfl (Or.inl rfl) (@pe_fn _ _ _ _ _ _ _ _ _ _ _ g__law_gone hr (by decide) rfl (@pa_cons _ _ _ _ _ (pv 0) (@pa_cons _ _ _ _ _ (pv 6) (@pa_cons _ _ _ _ _ (pv 5) (@pa_cons _ _ _ _ _ (pv 2) (@pa_cons _ _ _ _ _ (pv 9) (@pa_cons _ _ _ _ _ (@pe_cmpR _ _ _ _ _ _ _ _ op_eq (@pe_op _ _ _ _ _ _ _ _ op_mod (@pe_ix _ _ _ _ _ _ _ ix_list (pv 3) pe_int (fun _ _ => rfl)) pe_int) pe_int (nomark _)) pa_nil (by rfl)) (by rfl)) (by rfl)) (by rfl)) (by rfl)) (by rfl)) (by decide) (by rfl) (by rfl)) (by rfl) (by first | exact .inl rfl | exact .inr rfl | assumption)))) (@pss_cons _ _ _ _ _ (@ps_if _ _ _ _ _ _ _ _ (@pt_cmpR _ _ _ _ _ _ _ _ op_isN (pv 6) pe_non (nomark _)) (@pss_one _ _ _ (@ps_ret _ _ _ _ pe_non)) pss_nil) (@pss_one _ _ _ (@ps_ret _ _ _ _ (@pe_tup _ _ _ _ _ (@pa_cons _ _ _ _ _ (pv 5) (@pa_cons _ _ _ _ _ (pv 6) pa_nil (by rfl)) (by rfl)))))))))))), ?_⟩
  rw [st__law_deed]
  walk_at "sv"
  refine gtup2 (SqT.of hst) ?_
  walk_at "sv"
  refine ixL_go (i := 0) (SqL.of hld) rfl ?_
  walk_at "sv"
  refine ⟨by decide, ?_⟩
  generalize d0 % 8 = way
  walk_at "sv"
  refine BrS.dec (fun _ => ?_) fun _ => ?_
  · walk_at "sv"
    refine ⟨B.time, d0, d1, d2, d3, d4, d5, l, ld, us, B.ts, rfl, t6.lst, t6.rows, hld, t6.fi.til, fun m H1 s1 le => ?_⟩
    have t61 := t6.same s1
    walk_at "sv"
    refine ⟨t, dx, lt, kd, B, ads, m, rfl, t61.tab, t6.fi, fun le2 lt' kd' ads' H2 kp2 tb2 => ?_, fun lt2 H2 s2 => ?_⟩
    · have rows2 := r6s_to t61.rows kp2.tup
      have hl2 := kp2.lst _ _ t61.lst
      walk_at "sv"
      refine IlR.go (SqL.of hl2) ?_
      refine CmpR.filt (tilV H2 m) id itl (by omega) (fun H' s => SqL.of (s _ _ hl2)) (fun v H' Q' hv s3 kk => ?_) (fun v H' Q' hv hp s3 kk => ?_) fun D H3 nD s3 hD => ?_
      · obtain ⟨i, ev⟩ := List.getElem?_of_mem hv
        obtain ⟨x, ex, r⟩ := All2.at rows2 ev
        rw [tilV_at r] at kk
        obtain ⟨tx, px, qx, rfl, htx, _, _⟩ := r
        walk_at "sv"
        refine ixT_go (i := 3) (SqT.of (s3 _ _ htx)) rfl ?_
        walk_at "sv"
        exact kk H' (Same.refl _)
      · walk_at "sv"
        exact kk H' (Same.refl _)
      · rw [List.map_id] at hD
        refine TupR.go (by simp) fun t2 nt2 => ?_
        have z4 := same_new nt2 (.tup [.int (max B.time m), .ref D])
        have s24 := s3.trans z4
        have kp4 := ((Same.keeps s1).trans kp2).trans (Same.keeps s24)
        refine k (B.at m) lt' kd' ads' D _ t2 _ kp4 (tb2.same s24) (.inr (.inr (.inr ⟨m, rfl, le2, le⟩))) ?_ (z4 _ _ hD) (r6s_same (all2_filter rows2 fun x y r => tilV_at r) s24)
        rw [upd_same]
        show some (HO.tup [.int (max B.time m), .ref D]) = some (.tup [.int m, .ref D])
        rw [Int.max_eq_right le2]
    · have rows2 := r6s_same t61.rows s2
      have hl2 := s2 _ _ t61.lst
      walk_at "sv"
      refine IlR.go (SqL.of hl2) ?_
      refine CmpR.filt (tilV H2 m) id itl (by omega) (fun H' s => SqL.of (s _ _ hl2)) (fun v H' Q' hv s3 kk => ?_) (fun v H' Q' hv hp s3 kk => ?_) fun D H3 nD s3 hD => ?_
      · obtain ⟨i, ev⟩ := List.getElem?_of_mem hv
        obtain ⟨x, ex, r⟩ := All2.at rows2 ev
        rw [tilV_at r] at kk
        obtain ⟨tx, px, qx, rfl, htx, _, _⟩ := r
        walk_at "sv"
        refine ixT_go (i := 3) (SqT.of (s3 _ _ htx)) rfl ?_
        walk_at "sv"
        exact kk H' (Same.refl _)
      · walk_at "sv"
        exact kk H' (Same.refl _)
      · rw [List.map_id] at hD
        refine TupR.go (by simp) fun t2 nt2 => ?_
        have z4 := same_new nt2 (.tup [.int (max B.time m), .ref D])
        have s24 := s3.trans z4
        have s14 := (s1.trans s2).trans s24
        have all : B.ts.filter (Tk.stands m) = B.ts := List.filter_eq_self.mpr fun z hz => decide_eq_true (by have := (t6.fi.til z hz).1; omega)
        have rows4 := r6s_same (all2_filter rows2 fun x y r => tilV_at (m := m) r) s24
        rw [all] at rows4
        refine k B lt kd ads D _ t2 _ (Same.keeps s14) (t6.tab.same s14) (.inl rfl) ?_ (z4 _ _ hD) rows4
        rw [upd_same]
        show some (HO.tup [.int (max B.time m), .ref D]) = some (.tup [.int B.time, .ref D])
        rw [Int.max_eq_left (by omega)]
  walk_at "sv"
  refine ixL_go (i := 1) (SqL.of hld) rfl ?_
  refine ⟨d1, te, rfl, ends, fun p lab H1 s1 hp l5 ln => ?_⟩
  have t61 := t6.same s1
  have hld1 := s1 _ _ hld
  walk_at "sv"
  refine BrA.any (fun c H' => Same H1 H' ∧ (c = true → us ≠ [])) (fun _ => ⟨Same.refl _, fun z => by cases z⟩) (fun c H2 pc => ?_) fun _ Q' rest => ?_
  rotate_left
  · walk_at "sv"
    refine LstR.go (by simp) fun le nle => ?_
    have z2 := same_new nle (.lst [])
    refine r6s_nil (neg := true) (z2 _ _ t61.lst) upd_same (r6s_same t61.rows z2) ?_
    rw [if_pos rfl]
    walk_at "sv"
    refine rest _ _ ⟨z2, fun z e => ?_⟩
    rw [e] at z
    cases z
  obtain ⟨s2, cu⟩ := pc
  have t62 := t61.same s2
  have hld2 := s2 _ _ hld1
  have s02 := s1.trans s2
  refine if_join (fun c' σ' H' => Same H2 H' ∧ ∃ (p' : Addr) (ns : List Int) (x3 x4 : Option V), IsPt H' p' ns ∧ ns.length = 5 ∧ LabN ns ∧ σ' = [some (.ref t), some (.ref st), some (.ref sp), some (.ref ld), some (.ref te), some (.int B.time), some (.ref l), some (.int way), x3, some (.ref p'), x4]) (fun _ => ⟨Same.refl _, p, lab, _, _, hp.same s2, l5, ln, rfl⟩) (fun c' σ' H3 ec' pst => ?_) fun ect N go => ?_
  rotate_left
  · have une := cu ect
    have up : 0 < us.length := by
      cases us with
      | nil => exact absurd rfl une
      | cons _ _ => exact Nat.succ_pos _
    walk_at "sv"
    refine ixL_go (i := 1) (SqL.of hld2) rfl ?_
    walk_at "sv"
    refine LenR.lst (SqL.of t62.lst) ?_
    walk_at "sv"
    refine ⟨by omega, ?_⟩
    have md := mod_in d1 (show (0 : Int) < (us.length : Int) by omega)
    obtain ⟨m, em, lm⟩ := nat_of (n := us.length) md.1 md.2
    rw [em]
    obtain ⟨v, ev⟩ : ∃ v, us[m]? = some v := ⟨us[m], List.getElem?_eq_getElem lm⟩
    obtain ⟨z, ez, tz, pz, qz, rfl, htz, hpz, hqz⟩ := All2.at t62.rows ev
    obtain ⟨zl, zs, _⟩ := t6.fi.lab z (List.mem_of_getElem? ez)
    obtain ⟨z5, zm5⟩ := t6.fi.ok.five z (List.mem_of_getElem? ez)
    refine ixL_go (SqL.of t62.lst) ev ?_
    walk_at "sv"
    refine ixT_go (i := 0) (SqT.of htz) rfl ?_
    walk_at "sv"
    refine ixT_go (i := 1) (SqT.of htz) rfl ?_
    refine spFlip.go hqz zm5 fun r H3 nr s3 hr3 => ?_
    refine LstR.go (by simp) fun l4 nl4 => ?_
    have z4 := same_new nl4 (.lst [.ref pz, .ref r])
    have hl4 : upd H3 l4 (.lst [.ref pz, .ref r]) l4 = some (.lst [.ref pz, .ref r]) := upd_same
    generalize upd H3 l4 (.lst [.ref pz, .ref r]) = H4 at *
    have s34 := s3.trans z4
    walk_at "sv"
    refine ixL_go (i := 2) (SqL.of (s34 _ _ hld2)) rfl ?_
    walk_at "sv"
    refine ⟨by decide, ?_⟩
    have md2 := mod_in d2 (show (0 : Int) < 2 by decide)
    obtain ⟨n, en, ln2⟩ := nat_of (n := 2) md2.1 md2.2
    rw [en]
    match n, ln2 with
    | 0, _ =>
      refine ixL_go (i := 0) (SqL.of hl4) rfl ?_
      exact go _ _ ⟨s34, pz, z.lab, _, _, hpz.same s34, z5, zl, rfl⟩
    | 1, _ =>
      refine ixL_go (i := 1) (SqL.of hl4) rfl ?_
      exact go _ _ ⟨s34, r, flipL z.sent, _, _, hr3.same z4, flip_len zm5, lab_flip zs, rfl⟩
  obtain ⟨s3, p, ns, x3, x4, hp3, l5, ln, rfl⟩ := pst
  have t63 := t62.same s3
  have hld3 := s3 _ _ hld2
  have s03 := s02.trans s3
  have ends3 := ends.keeps (Same.keeps s03)
  walk_at "sv"
  refine BrS.dec (fun _ => ?_) fun _ => ?_
  walk_at "sv"
  refine ixL_go (i := 2) (SqL.of hld3) rfl ?_
  refine ⟨d2, te, rfl, ends3, fun p4 ms H4 s4 hp4 m5 lm => ?_⟩
  have s04 := s03.trans s4
  refine ⟨t, dx, lt, kd, l, sp, p, p4, B, ads, us, ns, ms, rfl, t63.same s4, s04 _ _ hsp, hp3.same s4, hp4, l5, m5, ln, lm, fun B' lt' kd' ads' l' us' H5 kp5 tb5 nx et hl5 rows5 => ?_⟩
  rotate_left
  have s04 := s03
  walk_at "sv"
  refine ixL_go (i := 3) (SqL.of hld3) rfl ?_
  walk_at "sv"
  refine ⟨by decide, ?_⟩
  refine ⟨t, dx, lt, kd, l, sp, p, B, ads, us, ns, _, rfl, t63, s03 _ _ hsp, hp3, ln, fun B' lt' kd' ads' l' us' H5 kp5 tb5 nx et hl5 rows5 => ?_⟩
  all_goals
    walk_at "sv"
    rw [decide_eq_false (fun z : V.ref l' = V.non => by cases z)]
    walk_at "sv"
    refine TupR.go (by simp) fun t2 nt2 => ?_
    have z6 := same_new nt2 (.tup [.int B.time, .ref l'])
    refine k B' lt' kd' ads' l' us' t2 _ (((Same.keeps s04).trans kp5).trans (Same.keeps z6)) (tb5.same z6) nx ?_ (z6 _ _ hl5) (r6s_same rows5 z6)
    rw [upd_same, et]
end
--CUT--
theorem sl_tupK {X : Cx} {K : PySem.W.Frag} (h : X.K = K) : SlR X (rSlT K) := h ▸ sl_tup
theorem two_bl {H : Hp} {Q : VK} {t t' : Addr} {a b : Bool} (h : H t = some (.tup [.bl a, .bl b])) (h' : H t' = some (.tup [.bl a, .bl b])) (q : Q (.bl false) H) : rEqD true (.ref t) (.ref t') H Q := by
  refine ⟨.tuple [.bool a, .bool b], .tuple [.bool a, .bool b], .tup (.inl h) (.cons (.bl _) (.cons (.bl _) .nil)), .tup (.inl h') (.cons (.bl _) (.cons (.bl _) .nil)), by cases a <;> cases b <;> decide, by cases a <;> cases b <;> decide, ?_⟩
  rw [show PyData.eqv (.tuple [.bool a, .bool b]) (.tuple [.bool a, .bool b]) = true by cases a <;> cases b <;> decide]
  exact q
section
variable {C_Talk C_Table : Addr}
def spLooks (C_Talk C_Table : Addr) : Sp := fun vs H Q _ => ∃ (t dx lt kd l st ld te he : Addr) (B : Tb) (ads : List (Addr × Addr)) (us hs : List V) (d0 d1 d2 d3 d4 d5 : Int), vs = [.ref t, .ref st, .int B.most, .ref ld, .ref te, .ref he] ∧ H st = some (.tup [.int B.time, .ref l]) ∧ T6 C_Talk C_Table H t dx B lt kd ads l us ∧ H ld = some (.lst [.int d0, .int d1, .int d2, .int d3, .int d4, .int d5]) ∧ EndsAt H te ∧ H he = some (.lst hs) ∧ hs.length ≤ 1000 ∧
  ∀ tt D E us' vs' H1, Same H H1 → H D = none → H E = none → H1 tt = some (.tup [.ref D, .ref E]) → H1 D = some (.lst us') → H1 E = some (.lst vs') → All2 (RwAt H1) us' B.ts → All2 (RwAt H1) vs' B.ts → Q (.bl true) (upd H1 he (.lst (hs ++ [.ref tt])))
theorem ok_looks (F : Fun K "_law_looks" "_law_looks" s__law_looks f fd) (g__law_label : Fn P w K mg base "_law_label" 1 ["_law_draw", "_law_ends_here"] spLabel) (g__law_at : Fn P w K mg base "_law_at" 2 ["_law_talks", "_law_label_here"] spAtI) (gm_Table_turn : FnM P w K mg base C_Table "turn" 1 ["self", "label"] (spTurn C_Talk C_Table)) (g__law_whole : Fn P w K mg base "_law_whole" 1 ["_law_found"] spWhole) (gm_Table_free : FnM P w K mg base C_Table "free" 2 ["self", "label", "sent"] (spFree C_Talk C_Table)) (gm_Table_is_full : FnM P w K mg base C_Table "is_full" 1 ["self"] (spFull C_Talk C_Table)) (g__law_free : Fn P w K mg base "_law_free" 3 ["_law_talks", "_law_label_here", "_law_sent"] spFreeL) (gm_Table_standing : FnM P w K mg base C_Table "standing" 1 ["self"] (spStand C_Talk C_Table))
    (b_int : mg "int" = none) (b_len : mg "len" = none) (b_isinstance : mg "isinstance" = none) (b_bool : mg "bool" = none) (b_list : mg "list" = none) (T : TxT K C_Talk C_Table) : FnOk P w K mg base CX0 4 f fd ["_law_table", "_law_state", "_law_most", "_law_draws", "_law_ends_here", "_law_held"] (spLooks C_Talk C_Table) := by
  refine F.ok sc__law_looks (fun vs H Q E h => ?_) (fun cdv A outer s H vs Q E hr h => ?_)
  · obtain ⟨_, _, _, _, _, _, _, _, _, _, _, _, _, _, _, _, _, _, _, rfl, _⟩ := h
    rfl
  obtain ⟨t, dx, lt, kd, l, st, ld, te, he, B, ads, us, hs, d0, d1, d2, d3, d4, d5, rfl, hst, t6, hld, ends, hhe, hl1000, k⟩ := h
  have ul := All2.len t6.rows
  have f200 := t6.fi.f200
  refine ⟨_, (@pss_cons _ _ _ _ _ (@ps_set _ _ (6) _ _ _ _ sc__law_looks.nd rfl (Or.inl rfl) (@pe_ix _ _ _ _ _ _ _ ix_tup (pv 1) pe_int (fun _ _ => rfl)) (by rfl) (by first | exact .inl rfl | exact .inr rfl | assumption)) (@pss_cons _ _ _ _ _ (@ps_set _ _ (7) _ _ _ _ sc__law_looks.nd rfl (Or.inl rfl) (@pe_fn _ _ _ _ _ _ _ _ _ _ _ g__law_label hr (by decide) rfl (@pa_cons _ _ _ _ _ (@pe_ix _ _ _ _ _ _ _ ix_list (pv 3) pe_int (fun _ _ => rfl)) (@pa_cons _ _ _ _ _ (pv 4) pa_nil (by rfl)) (by rfl)) (by decide) (by rfl) (by rfl)) (by rfl) (by first | exact .inl rfl | exact .inr rfl | assumption)) (@pss_cons _ _ _ _ _ (@ps_set _ _ (8) _ _ _ _ sc__law_looks.nd rfl (Or.inl rfl) (@pe_fn _ _ _ _ _ _ _ _ _ _ _ g__law_label hr (by decide) rfl (@pa_cons _ _ _ _ _ (@pe_ix _ _ _ _ _ _ _ ix_list (pv 3) pe_int (fun _ _ => rfl)) (@pa_cons _ _ _ _ _ (pv 4) pa_nil (by rfl)) (by rfl)) (by decide) (by rfl) (by rfl)) (by rfl) (by first | exact .inl rfl | exact .inr rfl | assumption)) (@pss_cons _ _ _ _ _ (@ps_set _ _ (9) _ _ _ _ sc__law_looks.nd rfl (Or.inl rfl) (@pe_fn _ _ _ _ _ _ _ _ _ _ _ g__law_at hr (by decide) rfl (@pa_cons _ _ _ _ _ (pv 6) (@pa_cons _ _ _ _ _ (pv 7) pa_nil (by rfl)) (by rfl)) (by decide) (by rfl) (by rfl)) (by rfl) (by first | exact .inl rfl | exact .inr rfl | assumption)) (@pss_cons _ _ _ _ _ (@ps_set _ _ (10) _ _ _ _ sc__law_looks.nd rfl (Or.inl rfl) pe_int (by rfl) (by first | exact .inl rfl | exact .inr rfl | assumption)) (@pss_cons _ _ _ _ _ (@ps_if _ _ _ _ _ _ _ _ (@PW.pt _ _ _ (@pw_and _ _ _ _ _ _ _ (@pt_cmpR _ _ _ _ _ _ _ _ op_ge (pv 9) pe_int (nomark _)) (@pw_and1 _ _ _ _ (@pt_cmpR _ _ _ _ _ _ _ _ (op_neD hr.units) (pv 7) (@pe_ix _ _ _ _ _ _ _ ix_tup (@pe_ix _ _ _ _ _ _ _ ix_list (pv 6) (pv 9) (fun _ _ => rfl)) pe_int (fun _ _ => rfl)) (nomark _))))) (@pss_one _ _ _ (@ps_set _ _ (10) _ _ _ _ sc__law_looks.nd rfl (Or.inl rfl) pe_int (by rfl) (by first | exact .inl rfl | exact .inr rfl | assumption))) (@pss_one _ _ _ (@ps_if _ _ _ _ _ _ _ _ (@pt_cmpR _ _ _ _ _ _ _ _ op_ge (pv 9) pe_int (nomark _)) (@pss_one _ _ _ (@ps_set _ _ (10) _ _ _ _ sc__law_looks.nd rfl (Or.inl rfl) (@pe_op _ _ _ _ _ _ _ _ op_add pe_int (@pe_callTy _ _ _ _ _ _ _ _ _ call_intB rfl b_int bo_int (@pa_cons _ _ _ _ _ (@pe_ix _ _ _ _ _ _ _ ix_tup (@pe_ix _ _ _ _ _ _ _ ix_list (pv 6) (pv 9) (fun _ _ => rfl)) pe_int (fun _ _ => rfl)) pa_nil (by rfl)) (by decide) (by decide) (by rfl) (by rfl))) (by rfl) (by first | exact .inl rfl | exact .inr rfl | assumption))) pss_nil))) (@pss_cons _ _ _ _ _ (@ps_set _ _ (11) _ _ _ _ sc__law_looks.nd rfl (Or.inl rfl) (@pe_methA _ _ _ _ _ _ _ _ _ _ _ (pv 0) hr (@pa_cons _ _ _ _ _ (pv 7) pa_nil (by rfl)) (by rfl) (by rfl) (by rfl)) (by rfl) (by first | exact .inl rfl | exact .inr rfl | assumption)) (@pss_cons _ _ _ _ _ (@ps_if _ _ _ _ _ _ _ _ (@PW.pt _ _ _ (@pw_or _ _ _ _ _ _ _ (@pt_not _ _ _ _ (@pt_val _ _ _ (@pe_fn _ _ _ _ _ _ _ _ _ _ _ g__law_whole hr (by decide) rfl (@pa_cons _ _ _ _ _ (pv 11) pa_nil (by rfl)) (by decide) (by rfl) (by rfl)) (by intro _; rfl))) (@pw_or1 _ _ _ _ (@pt_cmpR _ _ _ _ _ _ _ _ op_ne (pv 11) (pv 10) (nomark _))))) (@pss_one _ _ _ (@ps_ret _ _ _ _ pe_bl)) pss_nil) (@pss_cons _ _ _ _ _ (@ps_set _ _ (11) _ _ _ _ sc__law_looks.nd rfl (Or.inl rfl) (@pe_tup _ _ _ _ _ (@pa_cons _ _ _ _ _ (@pe_methA _ _ _ _ _ _ _ _ _ _ _ (pv 0) hr (@pa_cons _ _ _ _ _ (pv 7) (@pa_cons _ _ _ _ _ (pv 8) pa_nil (by rfl)) (by rfl)) (by rfl) (by rfl) (by rfl)) (@pa_cons _ _ _ _ _ (@pe_methA0 _ _ _ _ _ _ _ _ (pv 0) hr (by rfl)) pa_nil (by rfl)) (by rfl))) (by rfl) (by first | exact .inl rfl | exact .inr rfl | assumption)) (@pss_cons _ _ _ _ _ (@ps_if _ _ _ _ _ _ _ _ (@PW.pt _ _ _ (@pw_or _ _ _ _ _ _ _ (@pt_not _ _ _ _ (@pt_val _ _ _ (@pe_callB _ _ _ _ _ _ _ _ _ call_isi rfl b_isinstance bo_isinstance (@pa_cons _ _ _ _ _ (@pe_ix _ _ _ _ _ _ _ ix_tup (pv 11) pe_int (fun _ _ => rfl)) (@pa_cons _ _ _ _ _ (@pe_bltn _ _ (.ty "bool") (.type "bool") _ rfl b_bool bo_bool rfl (by decide) (by decide)) pa_nil (by rfl)) (by rfl)) (by decide) (by decide) (by rfl) (by rfl)) (by intro _; rfl))) (@pw_or1 _ _ _ _ (@pt_cmpR _ _ _ _ _ _ _ _ (op_neD hr.units) (pv 11) (@pe_tup _ _ _ _ _ (@pa_cons _ _ _ _ _ (@pe_fn _ _ _ _ _ _ _ _ _ _ _ g__law_free hr (by decide) rfl (@pa_cons _ _ _ _ _ (pv 6) (@pa_cons _ _ _ _ _ (pv 7) (@pa_cons _ _ _ _ _ (pv 8) pa_nil (by rfl)) (by rfl)) (by rfl)) (by decide) (by rfl) (by rfl)) (@pa_cons _ _ _ _ _ (@pe_cmpR _ _ _ _ _ _ _ _ op_eq (@pe_callB _ _ _ _ _ _ _ _ _ call_lenR rfl b_len bo_len (@pa_cons _ _ _ _ _ (pv 6) pa_nil (by rfl)) (by decide) (by decide) (by rfl) (by rfl)) (pv 2) (nomark _)) pa_nil (by rfl)) (by rfl))) (nomark _))))) (@pss_one _ _ _ (@ps_ret _ _ _ _ pe_bl)) pss_nil) (@pss_cons _ _ _ _ _ (@ps_set _ _ (12) _ _ _ _ sc__law_looks.nd rfl (Or.inl rfl) (@pe_methA0 _ _ _ _ _ _ _ _ (pv 0) hr (by rfl)) (by rfl) (by first | exact .inl rfl | exact .inr rfl | assumption)) (@pss_cons _ _ _ _ _ (@ps_setComp _ _ (["_law_talk"]) ([]) _ _ _ _ _ _ _ _ _ (13) _ _ _ rfl (COk.of (out := defScope s__law_looks) (N := ["_law_table", "_law_state", "_law_most", "_law_draws", "_law_ends_here", "_law_held", "_law_talks", "_law_label_here", "_law_sent", "_law_at_here", "_law_turn", "_law_told", "_law_found", "_law_due"]) rfl rfl (by decide +kernel)) sc__law_looks.nd rfl (Or.inl rfl) (@pi_list _ _ _ _ (pv 6)) (fun _ _ _ => (@pg_name _ _ (0) _ (show List.Nodup (["_law_talk"] : List Str) by decide +kernel) rfl (Or.inl rfl) (by first | exact .inl rfl | exact .inr rfl | assumption))) (fun _ _ _ => pifs_nil) (fun _ _ _ => (@pe_slice _ _ _ _ _ _ _ _ _ _ (sl_tupK (K := K) rfl) (pv 0) po_none (@po_some _ _ _ pe_int))) (by rfl) (by first | exact .inl rfl | exact .inr rfl | assumption) (by intro _; rfl)) (@pss_cons _ _ _ _ _ (@ps_expr _ _ _ _ (@pe_bm _ _ _ _ _ _ _ _ _ _ _ _ PySem.F.plainAttrs_list PySem.F.slot_list_append PySem.F.type_list_append mt_append (pv 5) (@pa_cons _ _ _ _ _ (@pe_tup _ _ _ _ _ (@pa_cons _ _ _ _ _ (pv 12) (@pa_cons _ _ _ _ _ (pv 13) pa_nil (by rfl)) (by rfl))) pa_nil (by rfl)) (by rfl) (by rfl) (by rfl) (by rfl) (by rfl)) (by rfl)) (@pss_one _ _ _ (@ps_ret _ _ _ _ (@pe_and _ _ _ _ _ _ _ (@pe_callB _ _ _ _ _ _ _ _ _ call_isi rfl b_isinstance bo_isinstance (@pa_cons _ _ _ _ _ (@pe_ix _ _ _ _ _ _ _ ix_tup (pv 11) pe_int (fun _ _ => rfl)) (@pa_cons _ _ _ _ _ (@pe_bltn _ _ (.ty "bool") (.type "bool") _ rfl b_bool bo_bool rfl (by decide) (by decide)) pa_nil (by rfl)) (by rfl)) (by decide) (by decide) (by rfl) (by rfl)) (@pe_and _ _ _ _ _ _ _ (@pe_callB _ _ _ _ _ _ _ _ _ call_isi rfl b_isinstance bo_isinstance (@pa_cons _ _ _ _ _ (pv 12) (@pa_cons _ _ _ _ _ (@pe_bltn _ _ (.ty "list") (.type "list") _ rfl b_list bo_list rfl (by decide) (by decide)) pa_nil (by rfl)) (by rfl)) (by decide) (by decide) (by rfl) (by rfl)) (@pe_one _ _ _ _ _ (@pe_cmpR _ _ _ _ _ _ _ _ (op_eqD hr.units) (pv 12) (pv 13) (nomark _)))))))))))))))))))), ?_⟩
  rw [st__law_looks]
  walk_at "sv"
  refine ixT_go (i := 1) (SqT.of hst) rfl ?_
  walk_at "sv"
  refine ixL_go (i := 4) (SqL.of hld) rfl ?_
  refine ⟨d4, te, rfl, ends, fun p ns H1 s1 hp l5 ln => ?_⟩
  walk_at "sv"
  refine ixL_go (i := 5) (SqL.of (s1 _ _ hld)) rfl ?_
  refine ⟨d5, te, rfl, ends.keeps (Same.keeps s1), fun q ms H2 s2 hq m5 lm => ?_⟩
  have hp2 := hp.same s2
  have s02 := s1.trans s2
  have t62 := t6.same s02
  walk_at "sv"
  refine ⟨l, p, us, B.ts, ns, rfl, t62.lst, t62.rows, t6.fi.sent, by omega, hp2, fun H3 s3 => ?_⟩
  have s03 := s02.trans s3
  have t63 := t6.same s03
  have hp3 := hp2.same s3
  have hq3 := hq.same s3
  walk_at "sv"
  rcases ixK_cases ns B.ts with ⟨ei, fn⟩ | ⟨i, x, ei, ex, hk, fx⟩
  have eI : ixI ns B.ts = -1 := by
    unfold ixI
    rw [ei]
  have tu : turnOf B.ts ns = 0 := by
    unfold turnOf
    rw [fn]
  rw [eI, show decide ((-1 : Int) ≥ 0) = false from rfl]
  walk_at "sv"
  rw [show decide ((0 : Int) ≤ -1) = false from rfl]
  rotate_left
  have eI : ixI ns B.ts = (i : Int) := by
    unfold ixI
    rw [ei]
  have tu0 : turnOf B.ts ns = if ns = x.back then 3 else if x.ans = true then 2 else 1 := by
    unfold turnOf
    rw [fx]
  obtain ⟨v, ev, tx, px, qx, rfl, htx, hpx, hqx⟩ := All2.ix t63.rows ex
  have lb := lab_back t6.fi.ok.keys (List.mem_of_getElem? ex)
  rw [eI, decide_eq_true (show (i : Int) ≥ 0 by omega)]
  walk_at "sv"
  refine ixL_go (SqL.of t63.lst) ev ?_
  refine ixT_go (i := 0) (SqT.of htx) rfl ?_
  refine ⟨_, _, hp3.dt, hpx.dt, pointD_shaped _, pointD_shaped _, ?_⟩
  rw [if_pos rfl, bool_eq_dec (point_eqv ns x.lab)]
  walk_at "sv"
  by_cases e1 : ns = x.lab
  rw [decide_eq_true e1]
  have tu : turnOf B.ts ns = 1 + (if x.ans = true then 1 else 0) := by
    rw [tu0, if_neg fun z => lb (e1.symm.trans z)]
    cases x.ans <;> rfl
  walk_at "sv"
  rw [decide_eq_true (show (0 : Int) ≤ (i : Int) by omega)]
  walk_at "sv"
  refine ixL_go (SqL.of t63.lst) ev ?_
  walk_at "sv"
  refine ixT_go (i := 2) (SqT.of htx) rfl ?_
  walk_at "sv"
  refine IntB.go ?_
  rotate_left
  rw [decide_eq_false e1]
  have tu : turnOf B.ts ns = 3 := by
    rw [tu0, if_pos ((key_or hk).resolve_left e1)]
  all_goals
    walk_at "sv"
    refine MethR.go gm_Table_turn t63.tab.tab T.table (tab_no (by decide)) (by decide) ?_
    walk_at "sv"
    refine ⟨t, p, dx, lt, kd, B, ads, ns, rfl, t63.tab, hp3, ?_⟩
    rw [tu]
    walk_at "sv"
    refine spWhole.go ?_
    walk_at "sv"
    refine MethR.go gm_Table_free t63.tab.tab T.table (tab_no (by decide)) (by decide) ?_
    walk_at "sv"
    refine ⟨t, p, q, dx, lt, kd, B, ads, ns, ms, rfl, t63.tab, hp3, hq3, m5, fun H4 s4 => ?_⟩
    have s04 := s03.trans s4
    have t64 := t6.same s04
    walk_at "sv"
    refine MethR.go gm_Table_is_full t64.tab.tab T.table (tab_no (by decide)) (by decide) ?_
    walk_at "sv"
    refine ⟨t, dx, lt, kd, B, ads, rfl, t64.tab, ?_⟩
    have few := t6.fi.few
    rw [decide_eq_decide.mpr (show B.most ≤ (B.ts.length : Int) ↔ (B.ts.length : Int) = B.most by omega)]
    refine TupR.go (by simp) fun tt ntt => ?_
    have z5 := same_new ntt (.tup [.bl (freeOf B.ts ns ms), .bl (decide ((B.ts.length : Int) = B.most))])
    have htt : upd H4 tt (.tup [.bl (freeOf B.ts ns ms), .bl (decide ((B.ts.length : Int) = B.most))]) tt = some (.tup [.bl (freeOf B.ts ns ms), .bl (decide ((B.ts.length : Int) = B.most))]) := upd_same
    generalize upd H4 tt (.tup [.bl (freeOf B.ts ns ms), .bl (decide ((B.ts.length : Int) = B.most))]) = H5 at *
    have s05 := s04.trans z5
    have t65 := t6.same s05
    have s35 := s4.trans z5
    walk_at "sv"
    refine ixT_go (i := 0) (SqT.of htt) rfl ?_
    walk_at "sv"
    refine isi_bl ?_
    walk_at "sv"
    refine ⟨l, p, q, us, B.ts, ns, ms, rfl, t65.lst, t65.rows, t6.fi.sent, by omega, hp3.same s35, hq3.same s35, m5, fun H6 s6 => ?_⟩
    have s06 := s05.trans s6
    have t66 := t6.same s06
    walk_at "sv"
    refine LenR.lst (SqL.of t66.lst) ?_
    walk_at "sv"
    rw [ul]
    refine TupR.go (by simp) fun tt2 ntt2 => ?_
    have z7 := same_new ntt2 (.tup [.bl (freeOf B.ts ns ms), .bl (decide ((B.ts.length : Int) = B.most))])
    have htt2 : upd H6 tt2 (.tup [.bl (freeOf B.ts ns ms), .bl (decide ((B.ts.length : Int) = B.most))]) tt2 = some (.tup [.bl (freeOf B.ts ns ms), .bl (decide ((B.ts.length : Int) = B.most))]) := upd_same
    generalize upd H6 tt2 (.tup [.bl (freeOf B.ts ns ms), .bl (decide ((B.ts.length : Int) = B.most))]) = H7 at *
    have htt7 := (s6.trans z7) _ _ htt
    have s07 := s06.trans z7
    have t67 := t6.same s07
    refine two_bl htt7 htt2 ?_
    walk_at "sv"
    refine MethR.go gm_Table_standing t67.tab.tab T.table (tab_no (by decide)) (by decide) ?_
    walk_at "sv"
    refine ⟨t, dx, lt, kd, B, ads, rfl, t67.tab, by omega, fun D us' H8 nD s8 hD rowsD => ?_⟩
    have s08 := s07.trans s8
    have t68 := t6.same s08
    walk_at "sv"
    refine IlR.go (SqL.of t68.lst) ?_
    refine CmpR.rel (fun D' H' v u => ∃ (tv p' q' tu' : Addr) (a b c d : V), v = .ref tv ∧ H8 tv = some (.tup [.ref p', .ref q', a, b, c, d]) ∧ u = .ref tu' ∧ tu' ≠ D' ∧ H' tu' = some (.tup [.ref p', .ref q', a, b])) (fun D' H' H'' x v kp r => ?_) itl (by omega) (fun H' s => SqL.of (s _ _ t68.lst)) (fun D' v H' ys Q' hv nD' s9 hD' kk => ?_) fun E' H9 vs' nE s9 hE al => ?_
    · obtain ⟨tv, p', q', tu', a, b, c, d, e1, h1, e2, n, h2⟩ := r
      exact ⟨tv, p', q', tu', a, b, c, d, e1, h1, e2, n, kp _ _ n h2⟩
    · obtain ⟨i', ev'⟩ := List.getElem?_of_mem hv
      obtain ⟨x', ex', tv, p', q', rfl, htv, _, _⟩ := All2.at t68.rows ev'
      walk_at "sv"
      refine PartR.go ?_
      refine slT_take (k := 4) (s9 _ _ htv) (by show 4 < 6; decide) fun u nu => ?_
      refine kk _ _ (same_new nu _) ⟨tv, p', q', u, _, _, _, _, rfl, htv, rfl, fun e => ?_, upd_same⟩
      rw [e, hD'] at nu
      cases nu
    · have s89 := s9
      have rowsE : All2 (RwAt H9) vs' B.ts := by
        have vl := All2.len al
        refine all2_ix (by omega) fun j u z eu ez => ?_
        obtain ⟨v, ev', tv, p', q', tu', a, b, c, d, e1, h1, e2, n, h2⟩ := All2.ix al eu
        obtain ⟨z', ez', t', p2, q2, e3, h3, h4, h5⟩ := All2.at t68.rows ev'
        rw [ez] at ez'
        cases ez'
        rw [e1] at e3
        cases e3
        rw [h1] at h3
        cases h3
        exact ⟨tu', p', q', e2, h2, h4.same s9, h5.same s9⟩
      walk_at "sv"
      refine ⟨ty_lst ((s08.trans s9) _ _ hhe), ?_⟩
      refine TupR.go (by simp) fun t3 nt3 => ?_
      have z10 := same_new nt3 (.tup [.ref D, .ref E'])
      have ht3 : upd H9 t3 (.tup [.ref D, .ref E']) t3 = some (.tup [.ref D, .ref E']) := upd_same
      generalize upd H9 t3 (.tup [.ref D, .ref E']) = H10 at *
      have s010 := (s08.trans s9).trans z10
      have nD0 : H D = none := s07.free nD
      have nE0 : H E' = none := s08.free nE
      have ne1 : D ≠ he := fun e => by
        rw [e, hhe] at nD0
        cases nD0
      have ne2 : E' ≠ he := fun e => by
        rw [e, hhe] at nE0
        cases nE0
      have hD10 := (s9.trans z10) _ _ hD
      have hE10 := z10 _ _ hE
      have rD := All2.imp rowsD fun _ _ r => RwAt.same r (s9.trans z10)
      have rE := All2.imp rowsE fun _ _ r => RwAt.same r z10
      have he10 := s010 _ _ hhe
      refine app_go he10 hl1000 ?_
      have fin := k t3 D E' us' vs' H10 s010 nD0 nE0 ht3 hD10 hE10 rD rE
      have tpU : ∀ a xs, H10 a = some (.tup xs) → upd H10 he (.lst (hs ++ [.ref t3])) a = some (.tup xs) := fun a xs e => (upd_ne fun z => by
        rw [z, he10] at e
        cases e).trans e
      have rwU : ∀ {us0 : List V}, All2 (RwAt H10) us0 B.ts → All2 (RwAt (upd H10 he (.lst (hs ++ [.ref t3])))) us0 B.ts := fun r => All2.imp r fun _ _ r => by
        obtain ⟨t', p', q', e, h1, h2, h3⟩ := r
        exact ⟨t', p', q', e, tpU _ _ h1, tpU _ _ h2, tpU _ _ h3⟩
      have hDU : upd H10 he (.lst (hs ++ [.ref t3])) D = some (.lst us') := (upd_ne ne1).trans hD10
      have hEU : upd H10 he (.lst (hs ++ [.ref t3])) E' = some (.lst vs') := (upd_ne ne2).trans hE10
      have httU := tpU _ _ ((s8.trans (s9.trans z10)) _ _ htt7)
      walk_at "sv"
      refine ixT_go (i := 1) (SqT.of httU) rfl ?_
      walk_at "sv"
      refine isi_bl ?_
      walk_at "sv"
      refine isi_lst hDU ?_
      walk_at "sv"
      refine rws_same hDU hEU (rwU rD) (rwU rE) ?_
      exact fin
end
--CUT--
theorem Fi.mono {B : Tb} {i j : Nat} (h : Fi B i) (l : i ≤ j) : Fi B j := ⟨h.ok, h.few, h.most, h.sh, h.lo, ⟨h.tm.1, by have := h.tm.2; omega⟩, h.til, fun z hz => ⟨(h.lab z hz).1, (h.lab z hz).2.1, Nat.le_trans (h.lab z hz).2.2 l⟩⟩
theorem six {xs : List Int} (h : xs.length = 6) : ∃ a b c d e g, xs = [a, b, c, d, e, g] := by
  match xs, h with
  | [a, b, c, d, e, g], _ => exact ⟨a, b, c, d, e, g, rfl⟩
section
variable {C_Talk C_Table : Addr}
structure SdA where
  t : Addr
  dx : Addr
  lt : Addr
  kd : Addr
  l : Addr
  st : Addr
  sp : Addr
  B : Tb
  ads : List (Addr × Addr)
  us : List V
structure Sd (C_Talk C_Table : Addr) (C : Hp) (i : Nat) (a : SdA) : Prop where
  tab : TabAt C_Talk C_Table C a.t a.B a.dx a.lt a.kd a.ads
  fi : Fi a.B i
  lst : C a.l = some (.lst a.us)
  rows : All2 (R6 C) a.us a.B.ts
  st : C a.st = some (.tup [.int a.B.time, .ref a.l])
  sp : C a.sp = some (.tup [.int a.B.short, .int a.B.long, .int a.B.most])
def HeldAt (C : Hp) (v : V) : Prop := ∃ (tt D E : Addr) (us vs : List V) (ts : List Tk), v = .ref tt ∧ C tt = some (.tup [.ref D, .ref E]) ∧ C D = some (.lst us) ∧ C E = some (.lst vs) ∧ All2 (RwAt C) us ts ∧ All2 (RwAt C) vs ts
theorem RwAt.to {H H' : Hp} {v : V} {x : Tk} (h : RwAt H v x) (k : ∀ a xs, H a = some (.tup xs) → H' a = some (.tup xs)) : RwAt H' v x := by
  obtain ⟨t, p, q, e, ht, hp, hq⟩ := h
  exact ⟨t, p, q, e, k _ _ ht, k _ _ hp, k _ _ hq⟩
theorem HeldAt.to {H H' : Hp} {v : V} (h : HeldAt H v) (tp : ∀ a xs, H a = some (.tup xs) → H' a = some (.tup xs)) (ls : ∀ a xs, H a = some (.lst xs) → H' a = some (.lst xs)) : HeldAt H' v := by
  obtain ⟨tt, D, E, us, vs, ts, e, h1, h2, h3, h4, h5⟩ := h
  exact ⟨tt, D, E, us, vs, ts, e, tp _ _ h1, ls _ _ h2, ls _ _ h3, All2.imp h4 fun _ _ r => r.to tp, All2.imp h5 fun _ _ r => r.to tp⟩
theorem Sd.same {C C' : Hp} {i : Nat} {a : SdA} (h : Sd C_Talk C_Table C i a) (s : Same C C') : Sd C_Talk C_Table C' i a := ⟨h.tab.same s, h.fi, s _ _ h.lst, r6s_same h.rows s, s _ _ h.st, s _ _ h.sp⟩
theorem Sd.t6 {C H : Hp} {i : Nat} {a : SdA} (h : Sd C_Talk C_Table C i a) (s : Same C H) (l : i ≤ 90) : T6 C_Talk C_Table H a.t a.dx a.B a.lt a.kd a.ads a.l a.us := ⟨h.tab.same s, h.fi.mono l, s _ _ h.lst, r6s_same h.rows s⟩
structure Two (C_Talk C_Table : Addr) (C : Hp) (i : Nat) (a b : SdA) (te ls tbs lsp : Addr) (cs hs : List V) : Prop where
  s0 : Sd C_Talk C_Table C i a
  s1 : Sd C_Talk C_Table C i b
  ap : Apart a.t a.kd a.ads b.t b.kd b.ads
  ends : EndsAt C te
  ls : C ls = some (.lst cs)
  tbs : C tbs = some (.lst [.ref a.t, .ref b.t])
  sps : C lsp = some (.lst [.ref a.sp, .ref b.sp])
  held : ∀ v ∈ hs, HeldAt C v
theorem Two.same {C C' : Hp} {i : Nat} {a b : SdA} {te ls tbs lsp : Addr} {cs hs : List V} (h : Two C_Talk C_Table C i a b te ls tbs lsp cs hs) (s : Same C C') : Two C_Talk C_Table C' i a b te ls tbs lsp cs hs :=
  ⟨h.s0.same s, h.s1.same s, h.ap, h.ends.keeps (Same.keeps s), s _ _ h.ls, s _ _ h.tbs, s _ _ h.sps, fun v hv => (h.held v hv).to (fun _ _ e => s _ _ e) fun _ _ e => s _ _ e⟩
theorem del2_sub {H : Hp} {a b : Addr} : Same (del2 H a b) H := fun x o e => (del2_some e).2.2
theorem deed_step {H : Hp} {he st : Addr} {hs0 ss : List V} {i : Nat} {x y : SdA} {te ld : Addr} {d0 d1 d2 d3 d4 d5 : Int} {Q : VK} {E : XK} (hh : H he = some (.lst hs0)) (hst : H st = some (.lst ss)) (sx : Sd C_Talk C_Table (del2 H he st) i x) (sy : Sd C_Talk C_Table (del2 H he st) i y) (ap : Apart x.t x.kd x.ads y.t y.kd y.ads) (ends : EndsAt (del2 H he st) te) (hld : del2 H he st ld = some (.lst [.int d0, .int d1, .int d2, .int d3, .int d4, .int d5])) (l90 : i ≤ 89)
    (q : ∀ (x' : SdA) (H' : Hp), x'.t = x.t → x'.sp = x.sp → H' he = some (.lst hs0) → H' st = some (.lst ss) → Keeps (del2 H he st) (del2 H' he st) → Sd C_Talk C_Table (del2 H' he st) (i + 1) x' → Sd C_Talk C_Table (del2 H' he st) (i + 1) y → Apart x'.t x'.kd x'.ads y.t y.kd y.ads → Q (.ref x'.st) H') : frm (spDeed C_Talk C_Table) [.ref x.t, .ref x.st, .ref x.sp, .ref ld, .ref te] H Q E := by
  obtain ⟨S, hS, sm, tp, ls, tb, aft⟩ := frame_tab hh hst sx.tab sy.tab ap
  refine ⟨S, hS, x.t, x.dx, x.lt, x.kd, x.l, x.st, x.sp, ld, te, x.B, x.ads, x.us, d0, d1, d2, d3, d4, d5, rfl, tp _ _ sx.st, ⟨tb, sx.fi.mono (by omega), ls _ _ sx.lst, r6s_to sx.rows tp⟩, tp _ _ sx.sp, ls _ _ hld, ends.to tp ls, fun B' lt' kd' ads' l' us' st' H2 kp tb2 nx hst2 hl2 rows2 fr => ?_⟩
  obtain ⟨a1, a2, out, kk, ty, apn⟩ := aft H2 fr kp
  obtain ⟨fi', e1, e2, e3⟩ := sx.fi.next nx
  have tp2 : ∀ a xs, H2 a = some (.tup xs) → del2 (glueH H S H2) he st a = some (.tup xs) := fun a xs e => out _ _ e
  refine q ⟨x.t, x.dx, lt', kd', l', st', x.sp, B', ads', us'⟩ _ rfl rfl a1 a2 kk ⟨tb2.same out, fi', out _ _ hl2, r6s_to rows2 tp2, out _ _ hst2, ?_⟩ ⟨ty, sy.fi.up, kk.lst _ _ sy.lst, r6s_to sy.rows kk.tup, kk.tup _ _ sy.st, kk.tup _ _ sy.sp⟩ (apn _ _ _ _ tb2)
  show del2 (glueH H S H2) he st x.sp = some (.tup [.int B'.short, .int B'.long, .int B'.most])
  rw [e1, e2, e3]
  exact kk.tup _ _ sx.sp
end
section
variable {C_Talk C_Table : Addr}
theorem looks_step {H : Hp} {he st : Addr} {hs ss : List V} {i : Nat} {x : SdA} {te ld : Addr} {d0 d1 d2 d3 d4 d5 : Int} {Q : VK} {E : XK} (nhs : he ≠ st) (hh : H he = some (.lst hs)) (hst : H st = some (.lst ss)) (sx : Sd C_Talk C_Table (del2 H he st) i x) (ends : EndsAt (del2 H he st) te) (hld : del2 H he st ld = some (.lst [.int d0, .int d1, .int d2, .int d3, .int d4, .int d5])) (l90 : i ≤ 90) (hl : hs.length ≤ 1000)
    (q : ∀ v H', H' he = some (.lst (hs ++ [v])) → H' st = some (.lst ss) → Same (del2 H he st) (del2 H' he st) → HeldAt (del2 H' he st) v → Q (.bl true) H') : spLooks C_Talk C_Table [.ref x.t, .ref x.st, .int x.B.most, .ref ld, .ref te, .ref he] H Q E := by
  refine ⟨x.t, x.dx, x.lt, x.kd, x.l, x.st, ld, te, he, x.B, x.ads, x.us, hs, d0, d1, d2, d3, d4, d5, rfl, del2_sub _ _ sx.st, sx.t6 del2_sub l90, del2_sub _ _ hld, ends.keeps (Same.keeps del2_sub), hh, hl, fun tt D E us' vs' H1 s nD nE htt hD hE rD rE => q (.ref tt) _ upd_same ((upd_ne (Ne.symm nhs)).trans (s _ _ hst)) ?_ ?_⟩
  · rw [del2_updL]
    exact del2_same s
  · rw [del2_updL]
    have tp : ∀ a xs, H1 a = some (.tup xs) → del2 H1 he st a = some (.tup xs) := fun a xs e => del2_of (fun z => by rw [z, s _ _ hh] at e; cases e) (fun z => by rw [z, s _ _ hst] at e; cases e) e
    have nw : ∀ a, H a = none → a ≠ he ∧ a ≠ st := fun a n => ⟨fun z => (by rw [z, hh] at n; cases n), fun z => (by rw [z, hst] at n; cases n)⟩
    exact ⟨tt, D, E, us', vs', x.B.ts, rfl, tp _ _ htt, del2_of (nw D nD).1 (nw D nD).2 hD, del2_of (nw E nE).1 (nw E nE).2 hE, All2.imp rD fun _ _ r => r.to tp, All2.imp rE fun _ _ r => r.to tp⟩
theorem fi0 {sh lo mo : Int} (a1 : 1 ≤ sh) (a2 : sh ≤ 1000000000) (a3 : 1 ≤ lo) (a4 : lo ≤ 1000000000) (a5 : 1 ≤ mo) (a6 : mo ≤ 6) : Fi ⟨sh, lo, mo, 0, []⟩ 0 :=
  have z : ∀ {n : Int}, 1 ≤ n → 0 ≤ n := fun h => Int.le_trans (by decide) h
  ⟨⟨fun y hy => absurd hy (by simp), (show ([] : List (List Int)).Nodup from List.nodup_nil), by simp⟩, z a5, a6, ⟨z a1, a2⟩, ⟨z a3, a4⟩, ⟨Int.le_refl _, (by show (0 : Int) ≤ ((0 : Nat) : Int) * 2000000000; decide)⟩, fun y hy => absurd hy (by simp), fun y hy => absurd hy (by simp)⟩
def SpAt (H : Hp) (v : V) : Prop := ∃ (s : Addr) (sh lo mo : Int), v = .ref s ∧ H s = some (.tup [.int sh, .int lo, .int mo]) ∧ 1 ≤ sh ∧ sh ≤ 1000000000 ∧ 1 ≤ lo ∧ lo ≤ 1000000000 ∧ 1 ≤ mo ∧ mo ≤ 6
theorem SpAt.same {H H' : Hp} {v : V} (h : SpAt H v) (s : Same H H') : SpAt H' v := by
  obtain ⟨a, sh, lo, mo, e, h, r⟩ := h
  exact ⟨a, sh, lo, mo, e, s _ _ h, r⟩
theorem ok_law (F : Fun K "law" "law" s_law f fd) (g__law_cell_at : Fn P w K mg base "_law_cell_at" 1 ["_law_script", "_law_k"] (spCell K)) (g__law_stream : Fn P w K mg base "_law_stream" 1 ["_law_cell", "_law_many"] spStream) (g__law_ends : Fn P w K mg base "_law_ends" 2 ["_law_cell"] spEnds) (gi_Table : FnI P w K mg base C_Table 1 ["self", "short", "long", "most"] (spTabI C_Talk C_Table)) (g__law_deed : Fn P w K mg base "_law_deed" 6 ["_law_table", "_law_state", "_law_spans", "_law_draws", "_law_ends_here"] (frm (spDeed C_Talk C_Table))) (g__law_looks : Fn P w K mg base "_law_looks" 4 ["_law_table", "_law_state", "_law_most", "_law_draws", "_law_ends_here", "_law_held"] (spLooks C_Talk C_Table))
    (b_int : mg "int" = none) (b_range : mg "range" = none) (m_Table : mg "Table" = some (.ref C_Table)) (T : TxT K C_Talk C_Table) : FnOk P w K mg base CX0 7 f fd ["_law_script"] (spLaw K) := by
  refine F.ok sc_law (fun vs H Q E h => ?_) (fun cdv A outer s H vs Q E hr h => ?_)
  · obtain ⟨a, ns, rfl, _⟩ := h
    rfl
  obtain ⟨a, ns, rfl, hS, h63, q⟩ := h
  refine ⟨_, (@pss_cons _ _ _ _ _ (@ps_set _ _ (1) _ _ _ _ sc_law.nd rfl (Or.inl rfl) (@pe_fn _ _ _ _ _ _ _ _ _ _ _ g__law_ends hr (by decide) rfl (@pa_cons _ _ _ _ _ (@pe_fn _ _ _ _ _ _ _ _ _ _ _ g__law_cell_at hr (by decide) rfl (@pa_cons _ _ _ _ _ (pv 0) (@pa_cons _ _ _ _ _ pe_int pa_nil (by rfl)) (by rfl)) (by decide) (by rfl) (by rfl)) pa_nil (by rfl)) (by decide) (by rfl) (by rfl)) (by rfl) (by first | exact .inl rfl | exact .inr rfl | assumption)) (@pss_cons _ _ _ _ _ (@ps_set _ _ (2) _ _ _ _ sc_law.nd rfl (Or.inl rfl) (@pe_lst _ _ _ _ pa_nil) (by rfl) (by first | exact .inl rfl | exact .inr rfl | assumption)) (@pss_cons _ _ _ _ _ (@ps_for _ _ _ _ _ _ _ _ PassesOwn.never rfl (@pi_list _ _ _ _ (@pe_lst _ _ _ _ (@pa_cons _ _ _ _ _ (@pe_fn _ _ _ _ _ _ _ _ _ _ _ g__law_cell_at hr (by decide) rfl (@pa_cons _ _ _ _ _ (pv 0) (@pa_cons _ _ _ _ _ pe_int pa_nil (by rfl)) (by rfl)) (by decide) (by rfl) (by rfl)) (@pa_cons _ _ _ _ _ (@pe_fn _ _ _ _ _ _ _ _ _ _ _ g__law_cell_at hr (by decide) rfl (@pa_cons _ _ _ _ _ (pv 0) (@pa_cons _ _ _ _ _ pe_int pa_nil (by rfl)) (by rfl)) (by decide) (by rfl) (by rfl)) pa_nil (by rfl)) (by rfl)))) (@pg_name _ _ (3) _ sc_law.nd rfl (Or.inl rfl) (by first | exact .inl rfl | exact .inr rfl | assumption)) (@pss_cons _ _ _ _ _ (@ps_set _ _ (4) _ _ _ _ sc_law.nd rfl (Or.inl rfl) (@pe_ix _ _ _ _ _ _ _ ix_list (@pe_lst _ _ _ _ (@pa_cons _ _ _ _ _ pe_int (@pa_cons _ _ _ _ _ (@pe_op _ _ _ _ _ _ _ _ op_pow pe_int pe_int) pa_nil (by rfl)) (by rfl))) (@pe_op _ _ _ _ _ _ _ _ op_mod (pv 3) pe_int) (fun _ _ => rfl)) (by rfl) (by first | exact .inl rfl | exact .inr rfl | assumption)) (@pss_one _ _ _ (@ps_expr _ _ _ _ (@pe_bm _ _ _ _ _ _ _ _ _ _ _ _ PySem.F.plainAttrs_list PySem.F.slot_list_append PySem.F.type_list_append mt_append (pv 2) (@pa_cons _ _ _ _ _ (@pe_tup _ _ _ _ _ (@pa_cons _ _ _ _ _ (@pe_op _ _ _ _ _ _ _ _ op_add pe_int (@pe_op _ _ _ _ _ _ _ _ op_mod (@pe_op _ _ _ _ _ _ _ _ op_divW (pv 3) pe_int) (pv 4))) (@pa_cons _ _ _ _ _ (@pe_op _ _ _ _ _ _ _ _ op_add pe_int (@pe_op _ _ _ _ _ _ _ _ op_mod (@pe_op _ _ _ _ _ _ _ _ op_divW (@pe_op _ _ _ _ _ _ _ _ op_divW (pv 3) pe_int) (pv 4)) (pv 4))) (@pa_cons _ _ _ _ _ (@pe_op _ _ _ _ _ _ _ _ op_add pe_int (@pe_op _ _ _ _ _ _ _ _ op_mod (@pe_op _ _ _ _ _ _ _ _ op_divW (pv 3) pe_int) pe_int)) pa_nil (by rfl)) (by rfl)) (by rfl))) pa_nil (by rfl)) (by rfl) (by rfl) (by rfl) (by rfl) (by rfl)) (by rfl)))) (by intro _; rfl)) (@pss_cons _ _ _ _ _ (@ps_set _ _ (5) _ _ _ _ sc_law.nd rfl (Or.inl rfl) (@pe_lst _ _ _ _ (@pa_cons _ _ _ _ _ (@pe_new _ _ _ _ _ _ _ _ _ _ _ _ gi_Table hr (by decide) rfl m_Table (@pa_cons _ _ _ _ _ (@pe_ix _ _ _ _ _ _ _ ix_tup (@pe_ix _ _ _ _ _ _ _ ix_list (pv 2) pe_int (fun _ _ => rfl)) pe_int (fun _ _ => rfl)) (@pa_cons _ _ _ _ _ (@pe_ix _ _ _ _ _ _ _ ix_tup (@pe_ix _ _ _ _ _ _ _ ix_list (pv 2) pe_int (fun _ _ => rfl)) pe_int (fun _ _ => rfl)) (@pa_cons _ _ _ _ _ (@pe_ix _ _ _ _ _ _ _ ix_tup (@pe_ix _ _ _ _ _ _ _ ix_list (pv 2) pe_int (fun _ _ => rfl)) pe_int (fun _ _ => rfl)) pa_nil (by rfl)) (by rfl)) (by rfl)) (by decide) (by rfl) (by rfl)) (@pa_cons _ _ _ _ _ (@pe_new _ _ _ _ _ _ _ _ _ _ _ _ gi_Table hr (by decide) rfl m_Table (@pa_cons _ _ _ _ _ (@pe_ix _ _ _ _ _ _ _ ix_tup (@pe_ix _ _ _ _ _ _ _ ix_list (pv 2) pe_int (fun _ _ => rfl)) pe_int (fun _ _ => rfl)) (@pa_cons _ _ _ _ _ (@pe_ix _ _ _ _ _ _ _ ix_tup (@pe_ix _ _ _ _ _ _ _ ix_list (pv 2) pe_int (fun _ _ => rfl)) pe_int (fun _ _ => rfl)) (@pa_cons _ _ _ _ _ (@pe_ix _ _ _ _ _ _ _ ix_tup (@pe_ix _ _ _ _ _ _ _ ix_list (pv 2) pe_int (fun _ _ => rfl)) pe_int (fun _ _ => rfl)) pa_nil (by rfl)) (by rfl)) (by rfl)) (by decide) (by rfl) (by rfl)) pa_nil (by rfl)) (by rfl))) (by rfl) (by first | exact .inl rfl | exact .inr rfl | assumption)) (@pss_cons _ _ _ _ _ (@ps_set _ _ (6) _ _ _ _ sc_law.nd rfl (Or.inl rfl) (@pe_lst _ _ _ _ (@pa_cons _ _ _ _ _ (@pe_tup _ _ _ _ _ (@pa_cons _ _ _ _ _ pe_int (@pa_cons _ _ _ _ _ (@pe_lst _ _ _ _ pa_nil) pa_nil (by rfl)) (by rfl))) (@pa_cons _ _ _ _ _ (@pe_tup _ _ _ _ _ (@pa_cons _ _ _ _ _ pe_int (@pa_cons _ _ _ _ _ (@pe_lst _ _ _ _ pa_nil) pa_nil (by rfl)) (by rfl))) pa_nil (by rfl)) (by rfl))) (by rfl) (by first | exact .inl rfl | exact .inr rfl | assumption)) (@pss_cons _ _ _ _ _ (@ps_set _ _ (7) _ _ _ _ sc_law.nd rfl (Or.inl rfl) (@pe_lst _ _ _ _ pa_nil) (by rfl) (by first | exact .inl rfl | exact .inr rfl | assumption)) (@pss_cons _ _ _ _ _ (@ps_for _ _ _ _ _ _ _ _ PassesOwn.never rfl (@pi_list _ _ _ _ (@pe_slice _ _ _ _ _ _ _ _ _ _ sl_list (pv 0) (@po_some _ _ _ pe_int) (@po_some _ _ _ pe_int))) (@pg_name _ _ (3) _ sc_law.nd rfl (Or.inl rfl) (by first | exact .inl rfl | exact .inr rfl | assumption)) (@pss_cons _ _ _ _ _ (@ps_set _ _ (8) _ _ _ _ sc_law.nd rfl (Or.inl rfl) (@pe_fn _ _ _ _ _ _ _ _ _ _ _ g__law_stream hr (by decide) rfl (@pa_cons _ _ _ _ _ (pv 3) (@pa_cons _ _ _ _ _ pe_int pa_nil (by rfl)) (by rfl)) (by decide) (by rfl) (by rfl)) (by rfl) (by first | exact .inl rfl | exact .inr rfl | assumption)) (@pss_cons _ _ _ _ _ (@ps_set _ _ (9) _ _ _ _ sc_law.nd rfl (Or.inl rfl) (@pe_callTy _ _ _ _ _ _ _ _ _ call_intB rfl b_int bo_int (@pa_cons _ _ _ _ _ (@pe_cmpR _ _ _ _ _ _ _ _ op_eq (@pe_op _ _ _ _ _ _ _ _ op_mod (@pe_op _ _ _ _ _ _ _ _ op_divW (@pe_ix _ _ _ _ _ _ _ ix_list (pv 8) pe_int (fun _ _ => rfl)) pe_int) pe_int) pe_int (nomark _)) pa_nil (by rfl)) (by decide) (by decide) (by rfl) (by rfl)) (by rfl) (by first | exact .inl rfl | exact .inr rfl | assumption)) (@pss_cons _ _ _ _ _ (@ps_set _ _ (10) _ _ _ _ sc_law.nd rfl (Or.inl rfl) (@pe_fn _ _ _ _ _ _ _ _ _ _ _ g__law_deed hr (by decide) rfl (@pa_cons _ _ _ _ _ (@pe_ix _ _ _ _ _ _ _ ix_list (pv 5) (pv 9) (fun _ _ => rfl)) (@pa_cons _ _ _ _ _ (@pe_ix _ _ _ _ _ _ _ ix_list (pv 6) (pv 9) (fun _ _ => rfl)) (@pa_cons _ _ _ _ _ (@pe_ix _ _ _ _ _ _ _ ix_list (pv 2) (pv 9) (fun _ _ => rfl)) (@pa_cons _ _ _ _ _ (pv 8) (@pa_cons _ _ _ _ _ (pv 1) pa_nil (by rfl)) (by rfl)) (by rfl)) (by rfl)) (by rfl)) (by decide) (by rfl) (by rfl)) (by rfl) (by first | exact .inl rfl | exact .inr rfl | assumption)) (@pss_cons _ _ _ _ _ (@ps_if _ _ _ _ _ _ _ _ (@pt_cmpR _ _ _ _ _ _ _ _ op_isN (pv 10) pe_non (nomark _)) (@pss_one _ _ _ (@ps_ret _ _ _ _ pe_bl)) pss_nil) (@pss_cons _ _ _ _ _ (@ps_asg _ _ _ _ _ _ (pv 10) (@pg_sub _ _ _ _ _ _ _ (pv 6) (pv 9) set_list (by intro _; rfl)) (by rfl) (by rfl) (by rfl)) (@pss_one _ _ _ (@ps_for _ _ _ _ _ _ _ _ PassesOwn.never rfl (@pi_range1 _ _ _ _ _ _ rfl b_range (@pa_cons _ _ _ _ _ pe_int pa_nil (by rfl)) (by rfl)) (@pg_name _ _ (9) _ sc_law.nd rfl (Or.inl rfl) (by first | exact .inl rfl | exact .inr rfl | assumption)) (@pss_one _ _ _ (@ps_if _ _ _ _ _ _ _ _ (@pt_not _ _ _ _ (@pt_val _ _ _ (@pe_fn _ _ _ _ _ _ _ _ _ _ _ g__law_looks hr (by decide) rfl (@pa_cons _ _ _ _ _ (@pe_ix _ _ _ _ _ _ _ ix_list (pv 5) (pv 9) (fun _ _ => rfl)) (@pa_cons _ _ _ _ _ (@pe_ix _ _ _ _ _ _ _ ix_list (pv 6) (pv 9) (fun _ _ => rfl)) (@pa_cons _ _ _ _ _ (@pe_ix _ _ _ _ _ _ _ ix_tup (@pe_ix _ _ _ _ _ _ _ ix_list (pv 2) (pv 9) (fun _ _ => rfl)) pe_int (fun _ _ => rfl)) (@pa_cons _ _ _ _ _ (pv 8) (@pa_cons _ _ _ _ _ (pv 1) (@pa_cons _ _ _ _ _ (pv 7) pa_nil (by rfl)) (by rfl)) (by rfl)) (by rfl)) (by rfl)) (by rfl)) (by decide) (by rfl) (by rfl)) (by intro _; rfl))) (@pss_one _ _ _ (@ps_ret _ _ _ _ pe_bl)) pss_nil)) (by intro _; rfl)))))))) (by intro _; rfl)) (@pss_cons _ _ _ _ _ (@ps_for _ _ _ _ _ _ _ _ PassesOwn.never rfl (@pi_list _ _ _ _ (pv 7)) (@pg_tup _ _ _ _ _ _ rfl (@pgs_cons _ _ _ _ _ (@pg_name _ _ (11) _ sc_law.nd rfl (Or.inl rfl) (by first | exact .inl rfl | exact .inr rfl | assumption)) (@pgs_cons _ _ _ _ _ (@pg_name _ _ (12) _ sc_law.nd rfl (Or.inl rfl) (by first | exact .inl rfl | exact .inr rfl | assumption)) pgs_nil (by rfl)) (by rfl)) (by rfl) (by rfl)) (@pss_one _ _ _ (@ps_if _ _ _ _ _ _ _ _ (@pt_cmpR _ _ _ _ _ _ _ _ (op_neD hr.units) (pv 11) (pv 12) (nomark _)) (@pss_one _ _ _ (@ps_ret _ _ _ _ pe_bl)) pss_nil)) (by intro _; rfl)) (@pss_one _ _ _ (@ps_ret _ _ _ _ pe_bl)))))))))), ?_⟩
  rw [st_law]
  walk_at "sv"
  refine spCell.go hS (by decide) ?_
  refine ⟨_, rfl, fun te H1 s1 ends1 => ?_⟩
  walk_at "sv"
  refine LstR.go (by simp) fun lsp nlsp => ?_
  have z2 := same_new nlsp (.lst [])
  have hlsp : upd H1 lsp (.lst []) lsp = some (.lst []) := upd_same
  generalize upd H1 lsp (.lst []) = H2 at *
  have s02 := s1.trans z2
  walk_at "sv"
  refine spCell.go (s02.seq hS) (by decide) ?_
  walk_at "sv"
  refine spCell.go (s02.seq hS) (by decide) ?_
  refine LstR.go (by simp) fun lc nlc => ?_
  have z3 := same_new nlc (.lst [.int (cell ns 0), .int (cell ns 1)])
  have hlc : upd H2 lc (.lst [.int (cell ns 0), .int (cell ns 1)]) lc = some (.lst [.int (cell ns 0), .int (cell ns 1)]) := upd_same
  generalize upd H2 lc (.lst [.int (cell ns 0), .int (cell ns 1)]) = H3 at *
  have hlsp3 := z3 _ _ hlsp
  have ncl : lc ≠ lsp := fun e => by
    rw [e, hlsp] at nlc
    cases nlc
  have s13 : Same H1 (del2 H3 lsp lsp) := fun x o e => del2_of (ne_of_none e nlsp) (ne_of_none e nlsp) ((z2.trans z3) _ _ e)
  refine IlR.go (SqL.of hlc) ?_
  refine ForR.items itl (fun i σ H' => Same (del2 H3 lsp lsp) (del2 H' lsp lsp) ∧ ∃ (xs : List V) (y1 y2 : Option V), H' lsp = some (.lst xs) ∧ xs.length = i ∧ (∀ v ∈ xs, SpAt (del2 H' lsp lsp) v) ∧ σ = [some (.ref a), some (.ref te), some (.ref lsp), y1, y2, none, none, none, none, none, none, none, none]) ⟨Same.refl _, [], _, _, hlsp3, rfl, fun v hv => absurd hv (by simp), rfl⟩ (fun i σ H' pv => SqL.of (del2_some (pv.1 _ _ (del2_of ncl ncl hlc))).2.2) (fun i v σ H4 hv pv => ?_) (fun σ H4 pv => ?_)
  · obtain ⟨s4, xs, y1, y2, hx, xl, hsp, rfl⟩ := pv
    obtain ⟨c, rfl⟩ : ∃ c : Int, v = .int c := by
      have := List.mem_of_getElem? hv
      simp only [List.mem_cons, List.not_mem_nil, or_false] at this
      rcases this with rfl | rfl
      · exact ⟨_, rfl⟩
      · exact ⟨_, rfl⟩
    have i2 : i < 2 := (List.getElem?_eq_some_iff.mp hv).1
    walk_at "sv"
    refine ⟨⟨by decide, by decide, by decide⟩, ?_⟩
    refine LstR.go (by simp) fun lm nlm => ?_
    have z5 := same_new nlm (.lst [.int 20, .int (10 ^ Int.toNat 9)])
    have hlm : upd H4 lm (.lst [.int 20, .int (10 ^ Int.toNat 9)]) lm = some (.lst [.int 20, .int (10 ^ Int.toNat 9)]) := upd_same
    generalize upd H4 lm (.lst [.int 20, .int (10 ^ Int.toNat 9)]) = H5 at *
    refine ⟨by decide, ?_⟩
    have md := mod_in c (show (0 : Int) < 2 by decide)
    obtain ⟨m, em, lt2⟩ := nat_of (n := 2) md.1 md.2
    rw [em]
    obtain ⟨big, eb, bp, bq, bd⟩ : ∃ big : Int, [V.int 20, V.int (10 ^ Int.toNat 9)][m]? = some (.int big) ∧ 0 < big ∧ big ≤ 1000000000 ∧ CDivW (c / 12) big := by
      match m, lt2 with
      | 0, _ => exact ⟨20, rfl, by decide, by decide, by decide, by decide⟩
      | 1, _ => exact ⟨10 ^ Int.toNat 9, rfl, by decide +kernel, by decide +kernel, by decide +kernel, by decide +kernel⟩
    refine ixL_go (SqL.of hlm) eb ?_
    refine ⟨ty_lst (z5 _ _ hx), ⟨by decide, by decide⟩, ?_⟩
    walk_at "sv"
    refine ⟨bp, ⟨by decide, by decide⟩, bd, bp, ⟨by decide, by decide⟩, by decide, ?_⟩
    have g1 := mod_in (c / 12) bp
    have g2 := mod_in (c / 12 / big) bp
    have g3 := mod_in (c / 2) (show (0 : Int) < 6 by decide)
    have w1 : 1 ≤ 1 + c / 12 % big ∧ 1 + c / 12 % big ≤ 1000000000 := by omega
    have w2 : 1 ≤ 1 + c / 12 / big % big ∧ 1 + c / 12 / big % big ≤ 1000000000 := by omega
    have w3 : 1 ≤ 1 + c / 2 % 6 ∧ 1 + c / 2 % 6 ≤ 6 := by omega
    generalize 1 + c / 12 / big % big = lo at *
    generalize 1 + c / 12 % big = sh at *
    generalize 1 + c / 2 % 6 = mo at *
    refine TupR.go (by simp) fun sp nsp => ?_
    have z6 := same_new nsp (.tup [.int sh, .int lo, .int mo])
    have hsp6 : upd H5 sp (.tup [.int sh, .int lo, .int mo]) sp = some (.tup [.int sh, .int lo, .int mo]) := upd_same
    generalize upd H5 sp (.tup [.int sh, .int lo, .int mo]) = H6 at *
    have z46 := z5.trans z6
    have hx6 := z46 _ _ hx
    refine app_go hx6 (by omega) ?_
    have nsl : sp ≠ lsp := fun e => by
      rw [e, hx6] at hsp6
      cases hsp6
    have d46 := del2_same (a := lsp) (b := lsp) z46
    refine ⟨?_, xs ++ [.ref sp], _, _, upd_same, by rw [List.length_append, xl, List.length_singleton], ?_, rfl⟩
    · rw [del2_updL]
      exact s4.trans d46
    · rw [del2_updL]
      intro v hv
      rcases List.mem_append.mp hv with hv | hv
      · exact (hsp v hv).same d46
      · obtain rfl := List.mem_singleton.mp hv
        exact ⟨sp, sh, lo, mo, rfl, del2_of nsl nsl hsp6, w1.1, w1.2, w2.1, w2.2, w3.1, w3.2⟩
  obtain ⟨s4, xs, y1, y2, hx, xl, hsp, rfl⟩ := pv
  obtain ⟨v0, v1, rfl⟩ : ∃ v0 v1, xs = [v0, v1] := by
    match xs, xl with
    | [v0, v1], _ => exact ⟨v0, v1, rfl⟩
  obtain ⟨sp0, sh0, lo0, mo0, rfl, hs0, w01, w02, w03, w04, w05, w06⟩ := hsp v0 (by simp)
  obtain ⟨sp1, sh1, lo1, mo1, rfl, hs1, w11, w12, w13, w14, w15, w16⟩ := hsp v1 (by simp)
  have s14 : Same H1 (del2 H4 lsp lsp) := s13.trans s4
  have hs0 := (del2_some hs0).2.2
  have hs1 := (del2_some hs1).2.2
  have s1d : Same H1 H4 := s14.trans del2_sub
  have ends4 := ends1.keeps (Same.keeps s1d)
  have hS4 : SqL K H4 a (ns.map V.int) := (s1.trans s1d).seq hS
  clear s4 s14 s13 hsp s1d z2 z3 hlc hlsp3 ncl hlsp nlsp nlc s02 ends1
  walk_at "sv"
  refine ixL_go (i := 0) (SqL.of hx) rfl ?_
  walk_at "sv"
  refine ixT_go (i := 0) (SqT.of hs0) rfl ?_
  walk_at "sv"
  refine ixL_go (i := 0) (SqL.of hx) rfl ?_
  walk_at "sv"
  refine ixT_go (i := 1) (SqT.of hs0) rfl ?_
  walk_at "sv"
  refine ixL_go (i := 0) (SqL.of hx) rfl ?_
  walk_at "sv"
  refine ixT_go (i := 2) (SqT.of hs0) rfl ?_
  walk_at "sv"
  refine fun t0 dx0 nt0 ndx0 ne0 => ?_
  have s5 : Same H4 (upd (upd H4 dx0 (.own t0)) t0 (.ins C_Table dx0 [])) := (same_new ndx0 (.own t0)).trans (same_new (by rw [upd_ne (Ne.symm ne0)]; exact nt0) _)
  have ht5 : upd (upd H4 dx0 (.own t0)) t0 (.ins C_Table dx0 []) t0 = some (.ins C_Table dx0 []) := upd_same
  generalize upd (upd H4 dx0 (.own t0)) t0 (.ins C_Table dx0 []) = H5 at *
  refine ⟨t0, dx0, sh0, lo0, mo0, rfl, ht5, fun l0 kd0 H6 nl0 nk0 b6 tb6 => ⟨rfl, ?_⟩⟩
  have s46 : Same H4 H6 := fun x o e => b6 x o (ne_of_none e nt0) (s5 x o e)
  clear s5 ht5 b6 nl0 nk0 ndx0
  walk_at "sv"
  refine ixL_go (i := 1) (SqL.of (s46 _ _ hx)) rfl ?_
  walk_at "sv"
  refine ixT_go (i := 0) (SqT.of (s46 _ _ hs1)) rfl ?_
  walk_at "sv"
  refine ixL_go (i := 1) (SqL.of (s46 _ _ hx)) rfl ?_
  walk_at "sv"
  refine ixT_go (i := 1) (SqT.of (s46 _ _ hs1)) rfl ?_
  walk_at "sv"
  refine ixL_go (i := 1) (SqL.of (s46 _ _ hx)) rfl ?_
  walk_at "sv"
  refine ixT_go (i := 2) (SqT.of (s46 _ _ hs1)) rfl ?_
  walk_at "sv"
  refine fun t1 dx1 nt1 ndx1 ne1 => ?_
  have s7 : Same H6 (upd (upd H6 dx1 (.own t1)) t1 (.ins C_Table dx1 [])) := (same_new ndx1 (.own t1)).trans (same_new (by rw [upd_ne (Ne.symm ne1)]; exact nt1) _)
  have ht7 : upd (upd H6 dx1 (.own t1)) t1 (.ins C_Table dx1 []) t1 = some (.ins C_Table dx1 []) := upd_same
  generalize upd (upd H6 dx1 (.own t1)) t1 (.ins C_Table dx1 []) = H7 at *
  refine ⟨t1, dx1, sh1, lo1, mo1, rfl, ht7, fun l1 kd1 H8 nl1 nk1 b8 tb8 => ⟨rfl, ?_⟩⟩
  have s68 : Same H6 H8 := fun x o e => b8 x o (ne_of_none e nt1) (s7 x o e)
  have ap : Apart t0 kd0 [] t1 kd1 [] := fun x o o' => by
    have tr : ∃ u, H6 x = some u := by
      rcases o with rfl | rfl | o | o
      · exact ⟨_, tb6.tab⟩
      · exact ⟨_, tb6.dic⟩
      · exact absurd o (by simp)
      · exact absurd o (by simp)
    obtain ⟨u, hu⟩ := tr
    rcases o' with rfl | rfl | o' | o'
    · rw [hu] at nt1
      cases nt1
    · have := s7 _ _ hu
      rw [this] at nk1
      cases nk1
    · exact absurd o' (by simp)
    · exact absurd o' (by simp)
  have s48 := s46.trans s68
  have tb80 := tb6.same s68
  refine LstR.go (by simp) fun tbs ntbs => ?_
  have z9 := same_new ntbs (.lst [.ref t0, .ref t1])
  have htbs : upd H8 tbs (.lst [.ref t0, .ref t1]) tbs = some (.lst [.ref t0, .ref t1]) := upd_same
  generalize upd H8 tbs (.lst [.ref t0, .ref t1]) = H9 at *
  refine LstR.go (by simp) fun la nla => ?_
  have z10 := same_new nla (.lst [])
  have hla : upd H9 la (.lst []) la = some (.lst []) := upd_same
  generalize upd H9 la (.lst []) = H10 at *
  refine TupR.go (by simp) fun st0 nst0 => ?_
  have z11 := same_new nst0 (.tup [.int 0, .ref la])
  have hst0 : upd H10 st0 (.tup [.int 0, .ref la]) st0 = some (.tup [.int 0, .ref la]) := upd_same
  generalize upd H10 st0 (.tup [.int 0, .ref la]) = H11 at *
  refine LstR.go (by simp) fun lb nlb => ?_
  have z12 := same_new nlb (.lst [])
  have hlb : upd H11 lb (.lst []) lb = some (.lst []) := upd_same
  generalize upd H11 lb (.lst []) = H12 at *
  refine TupR.go (by simp) fun st1 nst1 => ?_
  have z13 := same_new nst1 (.tup [.int 0, .ref lb])
  have hst1 : upd H12 st1 (.tup [.int 0, .ref lb]) st1 = some (.tup [.int 0, .ref lb]) := upd_same
  generalize upd H12 st1 (.tup [.int 0, .ref lb]) = H13 at *
  refine LstR.go (by simp) fun st nst => ?_
  have z14 := same_new nst (.lst [.ref st0, .ref st1])
  have hst : upd H13 st (.lst [.ref st0, .ref st1]) st = some (.lst [.ref st0, .ref st1]) := upd_same
  generalize upd H13 st (.lst [.ref st0, .ref st1]) = H14 at *
  refine LstR.go (by simp) fun he nhe => ?_
  have z15 := same_new nhe (.lst [])
  have hhe : upd H14 he (.lst []) he = some (.lst []) := upd_same
  generalize upd H14 he (.lst []) = H15 at *
  refine PartR.go ?_
  refine PartR.go ?_
  have z8f := ((((((z9.trans z10).trans z11).trans z12).trans z13).trans z14).trans z15)
  have s415 := s48.trans z8f
  refine slMidA_go (k := 3) (j := 66) (s415.seq hS4) fun ls nls => ?_
  have z16 := same_new nls (.lst (((ns.map V.int).drop 3).take (66 - 3)))
  have hls : upd H15 ls (.lst (((ns.map V.int).drop 3).take (66 - 3))) ls = some (.lst (((ns.drop 3).take 63).map V.int)) := by
    rw [upd_same, List.map_take, List.map_drop]
  generalize upd H15 ls (.lst (((ns.map V.int).drop 3).take (66 - 3))) = H16 at *
  have hhe16 := z16 _ _ hhe
  have hst16 := (z15.trans z16) _ _ hst
  have nhe13 : H13 he = none := z14.free nhe
  have s13C : Same H13 (del2 H16 he st) := fun x o e => del2_of (ne_of_none e nhe13) (ne_of_none e nst) (((z14.trans z15).trans z16) _ _ e)
  have nhs : he ≠ st := fun e => by
    rw [e, hst] at nhe
    cases nhe
  have nlsh : ls ≠ he := fun e => by
    rw [e, hhe] at nls
    cases nls
  have nlss : ls ≠ st := fun e => by
    rw [e, z15 _ _ hst] at nls
    cases nls
  have s8C := ((((z9.trans z10).trans z11).trans z12).trans z13).trans s13C
  have s4C := s48.trans s8C
  have two : Two C_Talk C_Table (del2 H16 he st) 0 ⟨t0, dx0, l0, kd0, la, st0, sp0, ⟨sh0, lo0, mo0, 0, []⟩, [], []⟩ ⟨t1, dx1, l1, kd1, lb, st1, sp1, ⟨sh1, lo1, mo1, 0, []⟩, [], []⟩ te ls tbs lsp (((ns.drop 3).take 63).map V.int) [] :=
    ⟨⟨tb80.same s8C, fi0 w01 w02 w03 w04 w05 w06, (((z11.trans z12).trans z13).trans s13C) _ _ hla, .nil, ((z12.trans z13).trans s13C) _ _ hst0, s4C _ _ hs0⟩, ⟨tb8.same s8C, fi0 w11 w12 w13 w14 w15 w16, (z13.trans s13C) _ _ hlb, .nil, s13C _ _ hst1, s4C _ _ hs1⟩, ap, ends4.keeps (Same.keeps s4C), del2_of nlsh nlss hls, (((((z10.trans z11).trans z12).trans z13).trans s13C)) _ _ htbs, s4C _ _ hx, fun v hv => absurd hv (by simp)⟩
  refine IlR.go (SqL.of hls) ?_
  refine ForR.items (xs := ((ns.drop 3).take 63).map V.int) itl (fun i σ H' => ∃ (x y : SdA) (hs : List V) (y1 y2 y3 y4 y5 : Option V), Two C_Talk C_Table (del2 H' he st) i x y te ls tbs lsp (((ns.drop 3).take 63).map V.int) hs ∧ H' st = some (.lst [.ref x.st, .ref y.st]) ∧ H' he = some (.lst hs) ∧ hs.length = 2 * i ∧ σ = [some (.ref a), some (.ref te), some (.ref lsp), y1, y2, some (.ref tbs), some (.ref st), some (.ref he), y3, y4, y5, none, none]) ⟨_, _, [], _, _, _, _, _, two, hst16, hhe16, rfl, rfl⟩ (fun i σ H' pv => ?_) (fun i v σ H17 hv pv => ?_) (fun σ H17 pv => ?_)
  · obtain ⟨x, y, hs, _, _, _, _, _, tw, _⟩ := pv
    exact SqL.of (del2_some tw.ls).2.2
  · clear two s4C s8C nlss nlsh s13C nhe13 hst16 hhe16 hls z16 s415 z8f hhe hst hst1 hlb hst0 hla htbs tb80 s48 ap s68 tb8 nk1 nl1 b8 ht7 s7 tb6 s46 hS4 ends4 hs0 hs1 hx
    obtain ⟨x, y, hs, y1, y2, y3, y4, y5, tw, hst, hhe, hsl, rfl⟩ := pv
    have i63 : i < 63 := by
      have := (List.getElem?_eq_some_iff.mp hv).1
      rw [List.length_map, List.length_take] at this
      omega
    rw [List.getElem?_map] at hv
    obtain ⟨cc, ec, rfl⟩ := Option.map_eq_some_iff.mp hv
    walk_at "sv"
    refine ⟨cc, 6, rfl, by decide, fun ld ds H18 nld s18 hld dl db => ?_⟩
    obtain ⟨d0, d1, d2, d3, d4, d5, rfl⟩ := six dl
    have hld : H18 ld = some (.lst [.int d0, .int d1, .int d2, .int d3, .int d4, .int d5]) := hld
    have tw := tw.same (del2_same (a := he) (b := st) s18)
    have nldh : ld ≠ he := fun e => by
      rw [e, hhe] at nld
      cases nld
    have nlds : ld ≠ st := fun e => by
      rw [e, hst] at nld
      cases nld
    have hldC : del2 H18 he st ld = some (.lst [.int d0, .int d1, .int d2, .int d3, .int d4, .int d5]) := del2_of nldh nlds hld
    have hst := s18 _ _ hst
    have hhe := s18 _ _ hhe
    clear s18 nld dl db
    walk_at "sv"
    refine ixL_go (i := 3) (SqL.of hld) rfl ?_
    walk_at "sv"
    refine ⟨⟨by decide, by decide⟩, by decide, ?_⟩
    refine IntB.go ?_
    have htbs := (del2_some tw.tbs).2.2
    have hsps := (del2_some tw.sps).2.2
    cases decide (d3 / 3 % 4 = 0)
    rw [if_neg Bool.false_ne_true]
    refine ixL_go (i := 0) (SqL.of htbs) rfl ?_
    refine ixL_go (i := 0) (SqL.of hst) rfl ?_
    refine ixL_go (i := 0) (SqL.of hsps) rfl ?_
    refine deed_step hhe hst tw.s0 tw.s1 tw.ap tw.ends hldC (by omega) fun x' H19 et esp hhe19 hst19 kk sx' sy' ap' => ?_
    rw [decide_eq_false (fun z : V.ref x'.st = V.non => by cases z)]
    walk_at "sv"
    refine setL_go (i := 0) hst19 (by simp) ?_
    obtain ⟨b0, b1, tw2, hst2⟩ : ∃ b0 b1 : SdA, Two C_Talk C_Table (del2 (upd H19 st (.lst ([.ref x.st, .ref y.st].set 0 (.ref x'.st)))) he st) (i + 1) b0 b1 te ls tbs lsp (((ns.drop 3).take 63).map V.int) hs ∧ upd H19 st (.lst ([.ref x.st, .ref y.st].set 0 (.ref x'.st))) st = some (.lst [.ref b0.st, .ref b1.st]) := by
      refine ⟨x', y, ?_, upd_same⟩
      rw [del2_updR]
      exact ⟨sx', sy', ap', tw.ends.keeps kk, kk.lst _ _ tw.ls, by rw [et]; exact kk.lst _ _ tw.tbs, by rw [esp]; exact kk.lst _ _ tw.sps, fun v hv => (tw.held v hv).to kk.tup kk.lst⟩
    have hld2 : del2 (upd H19 st (.lst ([.ref x.st, .ref y.st].set 0 (.ref x'.st)))) he st ld = some (.lst [.int d0, .int d1, .int d2, .int d3, .int d4, .int d5]) := by
      rw [del2_updR]
      exact kk.lst _ _ hldC
    have hhe2 : upd H19 st (.lst ([.ref x.st, .ref y.st].set 0 (.ref x'.st))) he = some (.lst hs) := (upd_ne nhs).trans hhe19
    generalize upd H19 st (.lst ([.ref x.st, .ref y.st].set 0 (.ref x'.st))) = H20 at *
    rotate_left
    rw [if_pos rfl]
    refine ixL_go (i := 1) (SqL.of htbs) rfl ?_
    refine ixL_go (i := 1) (SqL.of hst) rfl ?_
    refine ixL_go (i := 1) (SqL.of hsps) rfl ?_
    refine deed_step hhe hst tw.s1 tw.s0 tw.ap.symm tw.ends hldC (by omega) fun x' H19 et esp hhe19 hst19 kk sx' sy' ap' => ?_
    rw [decide_eq_false (fun z : V.ref x'.st = V.non => by cases z)]
    walk_at "sv"
    refine setL_go (i := 1) hst19 (by simp) ?_
    obtain ⟨b0, b1, tw2, hst2⟩ : ∃ b0 b1 : SdA, Two C_Talk C_Table (del2 (upd H19 st (.lst ([.ref x.st, .ref y.st].set 1 (.ref x'.st)))) he st) (i + 1) b0 b1 te ls tbs lsp (((ns.drop 3).take 63).map V.int) hs ∧ upd H19 st (.lst ([.ref x.st, .ref y.st].set 1 (.ref x'.st))) st = some (.lst [.ref b0.st, .ref b1.st]) := by
      refine ⟨x, x', ?_, upd_same⟩
      rw [del2_updR]
      exact ⟨sy', sx', ap'.symm, tw.ends.keeps kk, kk.lst _ _ tw.ls, by rw [et]; exact kk.lst _ _ tw.tbs, by rw [esp]; exact kk.lst _ _ tw.sps, fun v hv => (tw.held v hv).to kk.tup kk.lst⟩
    have hld2 : del2 (upd H19 st (.lst ([.ref x.st, .ref y.st].set 1 (.ref x'.st)))) he st ld = some (.lst [.int d0, .int d1, .int d2, .int d3, .int d4, .int d5]) := by
      rw [del2_updR]
      exact kk.lst _ _ hldC
    have hhe2 : upd H19 st (.lst ([.ref x.st, .ref y.st].set 1 (.ref x'.st))) he = some (.lst hs) := (upd_ne nhs).trans hhe19
    generalize upd H19 st (.lst ([.ref x.st, .ref y.st].set 1 (.ref x'.st))) = H20 at *
    all_goals
      walk_at "sv"
      refine RngR.go (by decide) (by decide) ?_
      refine ForR.range (fun j σ H' => ∃ (hs' : List V) (k' : Option V), Two C_Talk C_Table (del2 H' he st) (i + 1) b0 b1 te ls tbs lsp (((ns.drop 3).take 63).map V.int) hs' ∧ H' st = some (.lst [.ref b0.st, .ref b1.st]) ∧ H' he = some (.lst hs') ∧ hs'.length = 2 * i + j ∧ del2 H' he st ld = some (.lst [.int d0, .int d1, .int d2, .int d3, .int d4, .int d5]) ∧ σ = [some (.ref a), some (.ref te), some (.ref lsp), some (.int cc), y2, some (.ref tbs), some (.ref st), some (.ref he), some (.ref ld), k', some (.ref x'.st), none, none]) ⟨hs, _, tw2, hst2, hhe2, by rw [hsl]; rfl, hld2, rfl⟩ (fun j σ H21 hj pv => ?_) (fun σ H21 pv => ?_)
      · obtain ⟨hs', k', tw3, hst3, hhe3, hl3, hld3, rfl⟩ := pv
        have htb3 := (del2_some tw3.tbs).2.2
        have hsp3 := (del2_some tw3.sps).2.2
        have fin : ∀ v H', H' he = some (.lst (hs' ++ [v])) → H' st = some (.lst [.ref b0.st, .ref b1.st]) → Same (del2 H21 he st) (del2 H' he st) → HeldAt (del2 H' he st) v → ∃ (hs'' : List V) (k' : Option V), Two C_Talk C_Table (del2 H' he st) (i + 1) b0 b1 te ls tbs lsp (((ns.drop 3).take 63).map V.int) hs'' ∧ H' st = some (.lst [.ref b0.st, .ref b1.st]) ∧ H' he = some (.lst hs'') ∧ hs''.length = 2 * i + (j + 1) ∧ del2 H' he st ld = some (.lst [.int d0, .int d1, .int d2, .int d3, .int d4, .int d5]) ∧ [some (.ref a), some (.ref te), some (.ref lsp), some (.int cc), y2, some (.ref tbs), some (.ref st), some (.ref he), some (.ref ld), some (.int (0 + (j : Int))), some (.ref x'.st), none, none] = [some (.ref a), some (.ref te), some (.ref lsp), some (.int cc), y2, some (.ref tbs), some (.ref st), some (.ref he), some (.ref ld), k', some (.ref x'.st), none, none] := fun v H' h1 h2 sm hv => by
          have tw4 := tw3.same sm
          exact ⟨hs' ++ [v], _, ⟨tw4.s0, tw4.s1, tw4.ap, tw4.ends, tw4.ls, tw4.tbs, tw4.sps, fun u hu => (List.mem_append.mp hu).elim (tw4.held u) fun hu => by rw [List.mem_singleton.mp hu]; exact hv⟩, h2, h1, by rw [List.length_append, hl3, List.length_singleton]; omega, sm _ _ hld3, rfl⟩
        have hj : j < 2 := hj
        match j, hj with
        | 0, _ =>
          walk_at "sv"
          refine ixL_go (i := 0) (SqL.of htb3) rfl ?_
          walk_at "sv"
          refine ixL_go (i := 0) (SqL.of hst3) rfl ?_
          walk_at "sv"
          refine ixL_go (i := 0) (SqL.of hsp3) rfl ?_
          walk_at "sv"
          refine ixT_go (i := 2) (SqT.of (del2_some tw3.s0.sp).2.2) rfl ?_
          refine looks_step nhs hhe3 hst3 tw3.s0 tw3.ends hld3 (by omega) (by omega) fun v H' h1 h2 sm hv => ?_
          walk_at "sv"
          exact fin v H' h1 h2 sm hv
        | 1, _ =>
          walk_at "sv"
          refine ixL_go (i := 1) (SqL.of htb3) rfl ?_
          walk_at "sv"
          refine ixL_go (i := 1) (SqL.of hst3) rfl ?_
          walk_at "sv"
          refine ixL_go (i := 1) (SqL.of hsp3) rfl ?_
          walk_at "sv"
          refine ixT_go (i := 2) (SqT.of (del2_some tw3.s1.sp).2.2) rfl ?_
          refine looks_step nhs hhe3 hst3 tw3.s1 tw3.ends hld3 (by omega) (by omega) fun v H' h1 h2 sm hv => ?_
          walk_at "sv"
          exact fin v H' h1 h2 sm hv
      · obtain ⟨hs', k', tw3, hst3, hhe3, hl3, hld3, rfl⟩ := pv
        exact ⟨b0, b1, hs', _, _, _, _, _, tw3, hst3, hhe3, by rw [hl3]; exact (Nat.mul_succ 2 i).symm, rfl⟩
  · obtain ⟨x, y, hs, y1, y2, y3, y4, y5, tw, hst, hhe, hsl, rfl⟩ := pv
    walk_at "sv"
    refine IlR.go (SqL.of hhe) ?_
    refine ForR.items (xs := hs) itl (fun i σ H' => H' = H17 ∧ ∃ (z1 z2 : Option V), σ = [some (.ref a), some (.ref te), some (.ref lsp), y1, y2, some (.ref tbs), some (.ref st), some (.ref he), y3, y4, y5, z1, z2]) ⟨rfl, _, _, rfl⟩ (fun i σ H' pv => by rw [pv.1]; exact SqL.of hhe) (fun i v σ H' hv pv => ?_) (fun σ H' pv => ?_)
    · obtain ⟨rfl, z1, z2, rfl⟩ := pv
      obtain ⟨tt, D, E', us', vs', ts', rfl, h1, h2, h3, h4, h5⟩ := (tw.held v (List.mem_of_getElem? hv)).to (fun _ _ e => (del2_some e).2.2) fun _ _ e => (del2_some e).2.2
      refine gtup2 (SqT.of h1) ?_
      walk_at "sv"
      refine rws_same (neg := true) h2 h3 h4 h5 ?_
      walk_at "sv"
      exact ⟨_, _, rfl⟩
    · obtain ⟨rfl, z1, z2, rfl⟩ := pv
      walk_at "sv"
      exact q _
end
end
theorem asm {l : PySem.W.OpenLaw} {w : World} {K : PySem.W.Frag} {mg : Str → Option Value} {fa : Addr} (hfa : mg "law" = some (.ref fa)) {C_Talk : Addr} {C_Table : Addr} {C_SieveError : Addr} {C_OutOfTime : Addr} {C_Taken : Addr} {C_Full : Addr} {C_NoTalk : Addr} (D_flip : Def K mg "flip" s_flip) (D__law_cell_at : Def K mg "_law_cell_at" s__law_cell_at) (D__law_whole : Def K mg "_law_whole" s__law_whole) (D__law_stream : Def K mg "_law_stream" s__law_stream) (D__law_flip : Def K mg "_law_flip" s__law_flip) (D__law_ends : Def K mg "_law_ends" s__law_ends) (D__law_label : Def K mg "_law_label" s__law_label) (D__law_at : Def K mg "_law_at" s__law_at) (D__law_free : Def K mg "_law_free" s__law_free) (D__law_begun : Def K mg "_law_begun" s__law_begun) (D__law_gone : Def K mg "_law_gone" s__law_gone) (D__law_late : Def K mg "_law_late" s__law_late) (D__law_moment : Def K mg "_law_moment" s__law_moment) (D__law_deed : Def K mg "_law_deed" s__law_deed) (D__law_looks : Def K mg "_law_looks" s__law_looks) (D_law : Def K mg "law" s_law)  (b_len : mg "len" = none) (b_range : mg "range" = none) (b_isinstance : mg "isinstance" = none) (b_int : mg "int" = none) (b_bool : mg "bool" = none) (b_max : mg "max" = none) (b_tuple : mg "tuple" = none) (b_list : mg "list" = none) (m_Talk : mg "Talk" = some (.ref C_Talk)) (m_Table : mg "Table" = some (.ref C_Table)) (m_SieveError : mg "SieveError" = some (.ref C_SieveError)) (m_OutOfTime : mg "OutOfTime" = some (.ref C_OutOfTime)) (m_Taken : mg "Taken" = some (.ref C_Taken)) (m_Full : mg "Full" = some (.ref C_Full)) (m_NoTalk : mg "NoTalk" = some (.ref C_NoTalk)) (Z_Full : ExcI K C_Full) (Z_Taken : ExcI K C_Taken) (Z_NoTalk : ExcI K C_NoTalk) (Z_OutOfTime : ExcI K C_OutOfTime) (f_s_Full : PySem.W.subIn K (.ref C_Full) (.ref C_SieveError) = some true) (f_s_Taken : PySem.W.subIn K (.ref C_Taken) (.ref C_SieveError) = some true) (f_s_NoTalk : PySem.W.subIn K (.ref C_NoTalk) (.ref C_SieveError) = some true) (f_s_OutOfTime : PySem.W.subIn K (.ref C_OutOfTime) (.ref C_SieveError) = some true) (f_exc_Full : PySem.W.excIn K C_Full [.type "ValueError", .type "Exception", .type "BaseException", .type "object"] "ValueError.__new__" = true) (f_exc_Taken : PySem.W.excIn K C_Taken [.type "ValueError", .type "Exception", .type "BaseException", .type "object"] "ValueError.__new__" = true) (f_exc_NoTalk : PySem.W.excIn K C_NoTalk [.type "ValueError", .type "Exception", .type "BaseException", .type "object"] "ValueError.__new__" = true) (f_d : PySem.W.hasDictIn K C_SieveError = true) (f_t : PySem.W.typeIn K (.ref C_SieveError) = some (.type "type")) (hb_SieveError : PySem.W.mroIn K C_SieveError (.type "BaseException") = some true) (i_Full_Full : PySem.W.kitOne K (.ref C_Full) (.ref C_Full) = some true) (i_Full_Taken : PySem.W.kitOne K (.ref C_Full) (.ref C_Taken) = some false) (i_Full_ValueError : PySem.W.kitOne K (.ref C_Full) (.type "ValueError") = some true) (i_Taken_Full : PySem.W.kitOne K (.ref C_Taken) (.ref C_Full) = some false) (i_Taken_Taken : PySem.W.kitOne K (.ref C_Taken) (.ref C_Taken) = some true) (i_Taken_ValueError : PySem.W.kitOne K (.ref C_Taken) (.type "ValueError") = some true) (i_NoTalk_NoTalk : PySem.W.kitOne K (.ref C_NoTalk) (.ref C_NoTalk) = some true) (i_NoTalk_ValueError : PySem.W.kitOne K (.ref C_NoTalk) (.type "ValueError") = some true) (i_OutOfTime_OutOfTime : PySem.W.kitOne K (.ref C_OutOfTime) (.ref C_OutOfTime) = some true) (i_OutOfTime_ValueError : PySem.W.kitOne K (.ref C_OutOfTime) (.type "ValueError") = some true) (xb_SieveError : ExcB K C_SieveError) (xs_OutOfTime : ExcS K C_OutOfTime) (na_OutOfTime : PySem.W.findIn K (.ref C_OutOfTime) "moment" = some none) (I_Talk___init__ : MDef K C_Talk "__init__" "Talk.__init__" s_Talk___init__) (M_Talk_has_both_farewells : MDef K C_Talk "has_both_farewells" "Talk.has_both_farewells" s_Talk_has_both_farewells) (M_Talk_outgoing : MDef K C_Talk "outgoing" "Talk.outgoing" s_Talk_outgoing) (I_Table___init__ : MDef K C_Table "__init__" "Table.__init__" s_Table___init__) (M_Table_keep : MDef K C_Table "keep" "Table.keep" s_Table_keep) (M_Table_turn : MDef K C_Table "turn" "Table.turn" s_Table_turn) (M_Table_free : MDef K C_Table "free" "Table.free" s_Table_free) (M_Table_is_full : MDef K C_Table "is_full" "Table.is_full" s_Table_is_full) (M_Table_standing : MDef K C_Table "standing" "Table.standing" s_Table_standing) (X_Table_go_on : MDef K C_Table "go_on" "Table.go_on" s_Table_go_on) (X_Table_begin : MDef K C_Table "begin" "Table.begin" s_Table_begin) (X_Table_at : MDef K C_Table "at" "Table.at" s_Table_at) (T : TxT K C_Talk C_Table) (XD_OutOfTime : XDef K mg "OutOfTime" C_OutOfTime "OutOfTime.__init__" s_OutOfTime___init__) :
    ∃ fd : FuncData, (∀ (s : Shared) (v : Value), BindsTo s fd ⟨[v], []⟩ [("_law_script", v)]) ∧ ∀ base : Heap, K.In base → base.Ns mainGlobals mg → FnOk l.prog w K mg base CX0 7 fa fd ["_law_script"] (spLaw K) := by
  obtain ⟨f, fd, F, m⟩ := D_law.ex
  cases (hfa.symm.trans m)
  obtain ⟨oc, od, kV, doc, pm, an, cdv, ct, osl, e, lk, hcd⟩ := id F.ex
  subst e
  refine ⟨PySem.W.fnOf "law" "law" (defArgs s_law) (defBody s_law) (defScope s_law) .none kV doc pm an cdv ct, fun s v => .of_eq rfl, fun base _ _ => ?_⟩
  have X_OutOfTime : XcI l.prog w K mg base "OutOfTime" C_OutOfTime 1 ["self", "moment"] (spXMom C_OutOfTime) := XD_OutOfTime.xci (fun _ _ _ _ _ _ us hl => by obtain ⟨a0, a1, rfl⟩ := Sv.us2 hl; rfl) fun N _ _ k F => ok_OutOfTime_init F m_SieveError xb_SieveError k xs_OutOfTime na_OutOfTime
  have g_flip : Fn l.prog w K mg base "flip" 1 ["label"] spFlip := D_flip.fn (fun _ _ _ _ _ _ us hl => by obtain ⟨a0, rfl⟩ := Sv.us1 hl; rfl) fun _ _ F => ok_flip F
  have gi_Talk : FnI l.prog w K mg base C_Talk 2 ["self", "label", "sent", "until"] (spTalkI C_Talk) := I_Talk___init__.fnI T.mk_Talk T.kp_Talk (fun _ _ _ _ _ _ us hl => by obtain ⟨a0, a1, a2, a3, rfl⟩ := Sv.us4 hl; rfl) fun _ _ F => ok_Talk_init F g_flip T
  have gm_Talk_has_both_farewells : FnM l.prog w K mg base C_Talk "has_both_farewells" 1 ["self"] (spBoth2 C_Talk) := M_Talk_has_both_farewells.fnM (fun _ _ _ _ _ _ us hl => by obtain ⟨a0, rfl⟩ := Sv.us1 hl; rfl) fun _ _ F => ok_Talk_both F T
  have gm_Talk_outgoing : FnM l.prog w K mg base C_Talk "outgoing" 2 ["self", "label"] (spOut C_Talk) := M_Talk_outgoing.fnM (fun _ _ _ _ _ _ us hl => by obtain ⟨a0, a1, rfl⟩ := Sv.us2 hl; rfl) fun _ _ F => ok_Talk_out F g_flip T
  have gi_Table : FnI l.prog w K mg base C_Table 1 ["self", "short", "long", "most"] (spTabI C_Talk C_Table) := I_Table___init__.fnI T.mk_Table T.kp_Table (fun _ _ _ _ _ _ us hl => by obtain ⟨a0, a1, a2, a3, rfl⟩ := Sv.us4 hl; rfl) fun _ _ F => ok_Table_init F T
  have gm_Table_keep : FnM l.prog w K mg base C_Table "keep" 1 ["self", "talks"] (spKeep C_Talk C_Table) := M_Table_keep.fnM (fun _ _ _ _ _ _ us hl => by obtain ⟨a0, a1, rfl⟩ := Sv.us2 hl; rfl) fun _ _ F => ok_Table_keep F T
  have gm_Table_turn : FnM l.prog w K mg base C_Table "turn" 1 ["self", "label"] (spTurn C_Talk C_Table) := M_Table_turn.fnM (fun _ _ _ _ _ _ us hl => by obtain ⟨a0, a1, rfl⟩ := Sv.us2 hl; rfl) fun _ _ F => ok_Table_turn F T
  have gm_Table_free : FnM l.prog w K mg base C_Table "free" 2 ["self", "label", "sent"] (spFree C_Talk C_Table) := M_Table_free.fnM (fun _ _ _ _ _ _ us hl => by obtain ⟨a0, a1, a2, rfl⟩ := Sv.us3 hl; rfl) fun _ _ F => ok_Table_free F g_flip T
  have gm_Table_is_full : FnM l.prog w K mg base C_Table "is_full" 1 ["self"] (spFull C_Talk C_Table) := M_Table_is_full.fnM (fun _ _ _ _ _ _ us hl => by obtain ⟨a0, rfl⟩ := Sv.us1 hl; rfl) fun _ _ F => ok_Table_full F b_len T
  have gm_Table_standing : FnM l.prog w K mg base C_Table "standing" 1 ["self"] (spStand C_Talk C_Table) := M_Table_standing.fnM (fun _ _ _ _ _ _ us hl => by obtain ⟨a0, rfl⟩ := Sv.us1 hl; rfl) fun _ _ F => ok_Table_stand F T
  have gx_Table_go_on : FnMX l.prog w K mg base C_Table "go_on" 3 ["self", "label", "last"] (spGoX C_Talk C_Table C_NoTalk) := X_Table_go_on.fnMX (fun _ _ _ _ _ _ us hl => by obtain ⟨a0, a1, a2, rfl⟩ := Sv.us3 hl; rfl) fun _ _ F => ok_Table_go_onX F ⟨m_NoTalk, _, _, _, _, PySem.F.excBase_ValueError, f_exc_NoTalk⟩ gm_Talk_has_both_farewells gm_Talk_outgoing gm_Table_keep T
  have gx_Table_begin : FnMX l.prog w K mg base C_Table "begin" 4 ["self", "label", "sent"] (spBeginX C_Talk C_Table C_Full C_Taken) := X_Table_begin.fnMX (fun _ _ _ _ _ _ us hl => by obtain ⟨a0, a1, a2, rfl⟩ := Sv.us3 hl; rfl) fun _ _ F => ok_Table_beginX ⟨m_Full, _, _, _, _, PySem.F.excBase_ValueError, f_exc_Full⟩ ⟨m_Taken, _, _, _, _, PySem.F.excBase_ValueError, f_exc_Taken⟩ F gm_Table_is_full gm_Table_free gm_Table_keep gi_Talk m_Talk T
  have gx_Table_at : FnMX l.prog w K mg base C_Table "at" 3 ["self", "moment"] (spAtB C_Talk C_Table C_OutOfTime) := X_Table_at.fnMX (fun _ _ _ _ _ _ us hl => by obtain ⟨a0, a1, rfl⟩ := Sv.us2 hl; rfl) fun _ _ F => ok_Table_atB F X_OutOfTime gm_Table_keep T
  have g__law_cell_at : Fn l.prog w K mg base "_law_cell_at" 1 ["_law_script", "_law_k"] (spCell K) := D__law_cell_at.fn (fun _ _ _ _ _ _ us hl => by obtain ⟨a0, a1, rfl⟩ := Sv.us2 hl; rfl) fun _ _ F => ok_cell F b_len
  have g__law_whole : Fn l.prog w K mg base "_law_whole" 1 ["_law_found"] spWhole := D__law_whole.fn (fun _ _ _ _ _ _ us hl => by obtain ⟨a0, rfl⟩ := Sv.us1 hl; rfl) fun _ _ F => ok_whole F b_isinstance b_int b_bool
  have g__law_stream : Fn l.prog w K mg base "_law_stream" 1 ["_law_cell", "_law_many"] spStream := D__law_stream.fn (fun _ _ _ _ _ _ us hl => by obtain ⟨a0, a1, rfl⟩ := Sv.us2 hl; rfl) fun _ _ F => ok_stream F b_range
  have g__law_flip : Fn l.prog w K mg base "_law_flip" 1 ["_law_label_here"] spFlip := D__law_flip.fn (fun _ _ _ _ _ _ us hl => by obtain ⟨a0, rfl⟩ := Sv.us1 hl; rfl) fun _ _ F => ok_lflip F
  have g__law_ends : Fn l.prog w K mg base "_law_ends" 2 ["_law_cell"] spEnds := D__law_ends.fn (fun _ _ _ _ _ _ us hl => by obtain ⟨a0, rfl⟩ := Sv.us1 hl; rfl) fun _ _ F => ok_ends F g__law_stream
  have g__law_label : Fn l.prog w K mg base "_law_label" 1 ["_law_draw", "_law_ends_here"] spLabel := D__law_label.fn (fun _ _ _ _ _ _ us hl => by obtain ⟨a0, a1, rfl⟩ := Sv.us2 hl; rfl) fun _ _ F => ok_label F
  have g__law_at : Fn l.prog w K mg base "_law_at" 2 ["_law_talks", "_law_label_here"] spAtI := D__law_at.fn (fun _ _ _ _ _ _ us hl => by obtain ⟨a0, a1, rfl⟩ := Sv.us2 hl; rfl) fun _ _ F => ok_atI F g__law_flip b_range b_len
  have g__law_free : Fn l.prog w K mg base "_law_free" 3 ["_law_talks", "_law_label_here", "_law_sent"] spFreeL := D__law_free.fn (fun _ _ _ _ _ _ us hl => by obtain ⟨a0, a1, a2, rfl⟩ := Sv.us3 hl; rfl) fun _ _ F => ok_freeL F g__law_flip g__law_at
  have g__law_begun : Fn l.prog w K mg base "_law_begun" 5 ["_law_table", "_law_talks", "_law_time", "_law_spans", "_law_label_here", "_law_sent"] (spBegun C_Talk C_Table) := D__law_begun.fn (fun _ _ _ _ _ _ us hl => match us, hl with | [_, _, _, _, _, _], _ => rfl) fun _ _ F => ok_begun F gx_Table_begin g__law_free m_SieveError m_Full m_Taken b_isinstance b_len T (kitCls_ref f_d f_t f_s_Full) (kitCls_ref f_d f_t f_s_Taken) hb_SieveError Z_Full Z_Taken i_Full_Full i_Full_Taken i_Taken_Full i_Taken_Taken
  have g__law_gone : Fn l.prog w K mg base "_law_gone" 4 ["_law_table", "_law_talks", "_law_time", "_law_spans", "_law_label_here", "_law_last"] (spGone C_Talk C_Table) := D__law_gone.fn (fun _ _ _ _ _ _ us hl => match us, hl with | [_, _, _, _, _, _], _ => rfl) fun _ _ F => ok_gone F gx_Table_go_on g__law_at g__law_flip m_SieveError m_NoTalk b_isinstance b_tuple b_int T (kitCls_ref f_d f_t f_s_NoTalk) hb_SieveError Z_NoTalk i_NoTalk_NoTalk
  have g__law_late : Fn l.prog w K mg base "_law_late" 4 ["_law_table", "_law_time", "_law_moment_here"] (spLate C_Talk C_Table) := D__law_late.fn (fun _ _ _ _ _ _ us hl => by obtain ⟨a0, a1, a2, rfl⟩ := Sv.us3 hl; rfl) fun _ _ F => ok_late F gx_Table_at g__law_whole m_SieveError m_OutOfTime b_isinstance T Z_OutOfTime na_OutOfTime (kitCls_ref f_d f_t f_s_OutOfTime) hb_SieveError i_OutOfTime_OutOfTime
  have g__law_moment : Fn l.prog w K mg base "_law_moment" 1 ["_law_time", "_law_talks", "_law_draws"] spMoment := D__law_moment.fn (fun _ _ _ _ _ _ us hl => by obtain ⟨a0, a1, a2, rfl⟩ := Sv.us3 hl; rfl) fun _ _ F => ok_moment F b_max b_len
  have g__law_deed : Fn l.prog w K mg base "_law_deed" 6 ["_law_table", "_law_state", "_law_spans", "_law_draws", "_law_ends_here"] (frm (spDeed C_Talk C_Table)) := D__law_deed.fn (fun _ _ _ _ _ _ us hl => by obtain ⟨a0, a1, a2, a3, a4, rfl⟩ := Sv.us5 hl; rfl) fun _ _ F => frm_ok (ok_deed F g__law_moment g__law_late g__law_label g__law_flip g__law_begun g__law_gone b_max b_len)
  have g__law_looks : Fn l.prog w K mg base "_law_looks" 4 ["_law_table", "_law_state", "_law_most", "_law_draws", "_law_ends_here", "_law_held"] (spLooks C_Talk C_Table) := D__law_looks.fn (fun _ _ _ _ _ _ us hl => match us, hl with | [_, _, _, _, _, _], _ => rfl) fun _ _ F => ok_looks F g__law_label g__law_at gm_Table_turn g__law_whole gm_Table_free gm_Table_is_full g__law_free gm_Table_standing b_int b_len b_isinstance b_bool b_list T
  exact ok_law F g__law_cell_at g__law_stream g__law_ends gi_Table g__law_deed g__law_looks b_int b_range m_Table T
theorem walk {l : PySem.W.OpenLaw} {q : Program} {loose : List Str} {XP : (Str → Option Value) → Heap → Prop} {YP : World → Heap → Prop} {d : DefRec} {K : Params → PySem.W.Frag} (hn : l.most = some 63) (hdf : d.params.defaults = [])
    (hY : ∀ (w : World) (h : Heap), YP w h → (K w.params).In h)
    (F : ∀ (w : World) (mg : Str → Option Value) (fa : Addr) (h : Heap), (K w.params).In h → h.Ns mainGlobals mg → mg d.name = some (.ref fa) →
      ∃ fd : FuncData, (∀ (s : Shared) (u : Value), BindsTo s fd ⟨[u], []⟩ [("_law_script", u)]) ∧ ∀ base : Heap, (K w.params).In base → base.Ns mainGlobals mg → FnOk l.prog w (K w.params) mg base CX0 7 fa fd ["_law_script"] (spLaw (K w.params))) :
    PySem.W.WalkO q loose XP YP l.row.toRowW d [] (fun f vs => PySem.call f vs) :=
  L2.walk_of (n := 63) (k := 7) (x := "_law_script") (CX := fun _ => CX0) (sp := fun w => spLaw (K w.params)) hn (by decide) hdf ⟨rfl, by decide, by decide, rfl⟩ hY F (fun _ _ a ns hl _ hS => ⟨a, ns, rfl, hS, hl, fun _ => rfl⟩) fun _ _ _ _ _ z => z
namespace Hd
open PySem PySem.W
noncomputable section
def en (P : Params) (x : Str) (n : Nat) (v : Value) : DictEntry := ⟨PyData.keyHash P x, .str x n, v⟩
def tO (xs : List Value) : Obj := ⟨.type "tuple", none, .seq ⟨xs⟩ 0, ⟨[]⟩⟩
def dO (es : List DictEntry) (n : Nat) : Obj := ⟨.type "dict", none, .dict ⟨es⟩ n, ⟨[]⟩⟩
def nO (xs : List Value) : Obj := ⟨.none, none, .fields ⟨xs⟩, ⟨[]⟩⟩
def nF (n q : Str) (s : Stmt) : Obj := ⟨.none, none, .func ⟨n, q, defArgs s, .stmts (defBody s), defScope s, 0, [], .none, .none, .none, .none, none, .none, .none, 0⟩, ⟨[]⟩⟩
def uF (n q : Str) (s : Stmt) (a b c d e f : Value) : Obj := ⟨.type "function", none, .func ⟨n, q, defArgs s, .stmts (defBody s), defScope s, 3, [], a, b, c, d, none, e, f, 0⟩, ⟨[]⟩⟩
def cO (n : Str) (a : Nat) (q : Str) (b c : Nat) (x1 x2 x3 x4 x5 : Int) (r1 : Nat) (v : Bool) (x6 : Int) (r2 : Nat) (u1 u2 u3 u4 : Value) (x7 x8 : Int) (d : Nat) : Obj := ⟨.type "code", none, .fields ⟨[.str n a, .str q b, .str "/claim/cut.py" c, .int x1 0, .int x2 0, .int x3 0, .int x4 0, .int x5 0, .ref r1, .bool v, .int x6 0, .ref r2, u1, u2, u3, u4, .int x7 0, .int x8 0, .str "/claim/cut.py" d]⟩, ⟨[]⟩⟩
def rO (a b c : Nat) (v : Value) : Obj := ⟨.type "frame", none, .plain, ⟨[some (.ref a), some (.ref b), some (.ref c), none, some v, none, some (.ref 0)]⟩⟩
def alt (l : List Obj) : Bool → List Obj := @List.rec Obj (fun _ => Bool → List Obj) (fun _ => []) (fun x _ ih b => @Bool.rec (fun _ => List Obj) (ih true) (x :: ih false) b) l
def mkT (n : Nat) : List Obj → BT := @Nat.rec (fun _ => List Obj → BT) (fun _ => .nil) (fun _ ih l => @List.rec Obj (fun _ => BT) .nil (fun x r _ => .node x (ih (alt r true)) (ih (alt r false))) l) n
def cF (n : Str) (a : Nat) (q : Str) (l k : Int) (r t : Nat) : Obj := cO n a q (a + 1) (a + 2) l k 0 0 3 r true 181 (r + 1) .none (.ref (r + 2)) (.ref (r + 3)) (.ref (r + 4)) (t : Int) l (t + 1)
def cG (n : Str) (a : Nat) (q : Str) (l k : Int) (r t : Nat) : Obj := cO n a q (a + 1) (a + 2) l k 0 0 3 r true 181 (r + 1) .none .none .none (.ref (r + 2)) (t : Int) l (t + 1)
def cH (n : Str) (a : Nat) (l : Int) (r t : Nat) : Obj := cO n a n (a + 1) (a + 2) l 0 0 0 0 r false 181 (r + 1) .none .none .none .none (t : Int) l (t + 1)
def uG (n q : Str) (s : Stmt) (d : Value) (e : Nat) : Obj := uF n q s .none .none .none d (.ref e) .none
def uH (n : Str) (s : Stmt) (d : Value) (e : Nat) : Obj := uG n n s d e
def nG (n : Str) (s : Stmt) : Obj := nF n n s
def sO (r : Nat) : Obj := ⟨.type "super", none, .fields ⟨[.ref r, .ref r, .ref r]⟩, ⟨[]⟩⟩
def bO (r : Nat) : Obj := ⟨.type "builtin_function_or_method", none, .fields ⟨[.builtin "object.__init_subclass__", .ref r]⟩, ⟨[]⟩⟩
def sq (l : List Str) : Nat → List Value := @List.rec Str (fun _ => Nat → List Value) (fun _ => []) (fun x _ ih a => .str x a :: ih (a + 1)) l
def tS (l : List Str) (a : Nat) : Obj := tO (sq l a)
def t3 (l : List (Int × Int × Nat)) : List Value := @List.rec (Int × Int × Nat) (fun _ => List Value) [] (fun x _ ih => .int x.1 0 :: .int x.2.1 0 :: .ref x.2.2 :: ih) l
def m0 : Value := .str "sieve.errors" 187
def m1 : Value := .str "sieve.talks" 280
def m2 : Value := .str "law_sieve_k45_deeds_at_a_table" 438
def z0 : Obj := cH "<module>" 182 1 11 185
def z1 : Obj := rO 13 3 3 (.str "__main__" 164)
def z2 (P : Params) : Obj := dO [en P "__name__" 165 (.str "sieve.talks" 280), en P "__doc__" 166 .none, en P "__package__" 167 .none, en P "__loader__" 168 (.builtin "__main__.__loader__#opaque"), en P "__spec__" 169 .none, en P "__annotations__" 170 (.ref 6), en P "__builtins__" 171 (.ref 4), en P "__file__" 173 (.str "/claim/cut.py" 172), en P "__cached__" 174 .none, en P "SieveError" 206 (.ref 24), en P "OutOfTime" 231 (.ref 44), en P "Taken" 247 (.ref 56), en P "Full" 263 (.ref 68), en P "NoTalk" 279 (.ref 80), en P "flip" 288 (.ref 89), en P "Talk" 339 (.ref 120)] 16
def z3 : Obj := nO (t3 [(2, 0, 20), (4, 0, 33), (9, 0, 52), (11, 0, 64), (13, 0, 76), (16, 0, 88), (18, 0, 95)])
def z4 : Obj := tO [.type "ValueError"]
def z5 : Obj := ⟨.type "builtin_function_or_method", none, (.fields ⟨[.builtin "type.__prepare__", .type "type"]⟩), ⟨[]⟩⟩
def z6 (P : Params) : Obj := dO [en P "__module__" 196 (.str "sieve.errors" 187), en P "__qualname__" 198 (.str "SieveError" 197), en P "__firstlineno__" 200 (.int 2 199), en P "__static_attributes__" 201 (.ref 22)] 4
def z7 : Obj := cH "SieveError" 191 2 18 194
def z8 : Obj := rO 20 3 17 (.str "sieve.errors" 187)
def z9 (P : Params) : Obj := dO [en P "__module__" 196 (.str "sieve.errors" 187), en P "__firstlineno__" 200 (.int 2 199), en P "__static_attributes__" 201 (.ref 22), en P "__weakref__" 203 (.ref 25), en P "__doc__" 204 .none] 3
def za : Obj := ⟨.type "type", none, (.cls ⟨"SieveError", [.type "ValueError"], [.ref 24, .type "ValueError", .type "Exception", .type "BaseException", .type "object"], 23, "SieveError", true, [], [.ref 44, .ref 56, .ref 68, .ref 80], false, none, false⟩), ⟨[(some (.ref 15)), none, (some (.str "SieveError" 189)), (some (.str "SieveError" 197)), (some (.builtin "ValueError.__new__")), (some (.bool true))]⟩⟩
def zb : Obj := ⟨.type "getset_descriptor", none, (.fields ⟨[.str "__weakref__" 202, .ref 24, .builtin "ExceptionGroup.__weakref__", .none]⟩), ⟨[]⟩⟩
def zc : Obj := sO 24
def zd : Obj := bO 24
def ze : Obj := tO [.ref 24]
def zf (P : Params) : Obj := dO [en P "__module__" 214 (.str "sieve.errors" 187), en P "__qualname__" 216 (.str "OutOfTime" 215), en P "__firstlineno__" 218 (.int 4 217), en P "__init__" 226 (.ref 41), en P "__static_attributes__" 228 (.ref 42)] 5
def z10 : Obj := nO (t3 [(6, 4, 40)])
def z11 : Obj := cH "OutOfTime" 209 4 31 212
def z12 : Obj := rO 33 3 30 (.str "sieve.errors" 187)
def z13 : Obj := tS ["self", "moment"] 222
def z14 : Obj := nF "__init__" "OutOfTime.__init__" s_OutOfTime___init__
def z15 : Obj := cF "__init__" 219 "OutOfTime.__init__" 6 2 35 224
def z16 : Obj := uG "__init__" "OutOfTime.__init__" s_OutOfTime___init__ m0 40
def z17 : Obj := tS ["moment"] 227
def z18 (P : Params) : Obj := dO [en P "__module__" 214 (.str "sieve.errors" 187), en P "__firstlineno__" 218 (.int 4 217), en P "__init__" 226 (.ref 41), en P "__static_attributes__" 228 (.ref 42), en P "__doc__" 229 .none] 2
def z19 : Obj := ⟨.type "type", none, (.cls ⟨"OutOfTime", [.ref 24], [.ref 44, .ref 24, .type "ValueError", .type "Exception", .type "BaseException", .type "object"], 43, "OutOfTime", true, [], [], false, none, false⟩), ⟨[(some (.ref 28)), none, (some (.str "OutOfTime" 207)), (some (.str "OutOfTime" 215)), (some (.builtin "ValueError.__new__")), (some (.bool true))]⟩⟩
def z1a : Obj := sO 44
def z1b : Obj := bO 44
def z1c (P : Params) : Obj := dO [en P "__module__" 239 (.str "sieve.errors" 187), en P "__qualname__" 241 (.str "Taken" 240), en P "__firstlineno__" 243 (.int 9 242), en P "__static_attributes__" 244 (.ref 54)] 4
def z1d : Obj := cH "Taken" 234 9 50 237
def z1e : Obj := rO 52 3 49 (.str "sieve.errors" 187)
def z1f (P : Params) : Obj := dO [en P "__module__" 239 (.str "sieve.errors" 187), en P "__firstlineno__" 243 (.int 9 242), en P "__static_attributes__" 244 (.ref 54), en P "__doc__" 245 .none] 2
def z20 : Obj := ⟨.type "type", none, (.cls ⟨"Taken", [.ref 24], [.ref 56, .ref 24, .type "ValueError", .type "Exception", .type "BaseException", .type "object"], 55, "Taken", true, [], [], false, none, false⟩), ⟨[(some (.ref 47)), none, (some (.str "Taken" 232)), (some (.str "Taken" 240)), (some (.builtin "ValueError.__new__")), (some (.bool true))]⟩⟩
def z21 : Obj := sO 56
def z22 : Obj := bO 56
def z23 (P : Params) : Obj := dO [en P "__module__" 255 (.str "sieve.errors" 187), en P "__qualname__" 257 (.str "Full" 256), en P "__firstlineno__" 259 (.int 11 258), en P "__static_attributes__" 260 (.ref 66)] 4
def z24 : Obj := cH "Full" 250 11 62 253
def z25 : Obj := rO 64 3 61 (.str "sieve.errors" 187)
def z26 (P : Params) : Obj := dO [en P "__module__" 255 (.str "sieve.errors" 187), en P "__firstlineno__" 259 (.int 11 258), en P "__static_attributes__" 260 (.ref 66), en P "__doc__" 261 .none] 2
def z27 : Obj := ⟨.type "type", none, (.cls ⟨"Full", [.ref 24], [.ref 68, .ref 24, .type "ValueError", .type "Exception", .type "BaseException", .type "object"], 67, "Full", true, [], [], false, none, false⟩), ⟨[(some (.ref 59)), none, (some (.str "Full" 248)), (some (.str "Full" 256)), (some (.builtin "ValueError.__new__")), (some (.bool true))]⟩⟩
def z28 : Obj := sO 68
def z29 : Obj := bO 68
def z2a (P : Params) : Obj := dO [en P "__module__" 271 (.str "sieve.errors" 187), en P "__qualname__" 273 (.str "NoTalk" 272), en P "__firstlineno__" 275 (.int 13 274), en P "__static_attributes__" 276 (.ref 78)] 4
def z2b : Obj := cH "NoTalk" 266 13 74 269
def z2c : Obj := rO 76 3 73 (.str "sieve.errors" 187)
def z2d (P : Params) : Obj := dO [en P "__module__" 271 (.str "sieve.errors" 187), en P "__firstlineno__" 275 (.int 13 274), en P "__static_attributes__" 276 (.ref 78), en P "__doc__" 277 .none] 2
def z2e : Obj := ⟨.type "type", none, (.cls ⟨"NoTalk", [.ref 24], [.ref 80, .ref 24, .type "ValueError", .type "Exception", .type "BaseException", .type "object"], 79, "NoTalk", true, [], [], false, none, false⟩), ⟨[(some (.ref 71)), none, (some (.str "NoTalk" 264)), (some (.str "NoTalk" 272)), (some (.builtin "ValueError.__new__")), (some (.bool true))]⟩⟩
def z2f : Obj := sO 80
def z30 : Obj := bO 80
def z31 : Obj := tS ["label"] 285
def z32 : Obj := nG "flip" s_flip
def z33 : Obj := cF "flip" 282 "flip" 16 1 83 286
def z34 : Obj := uH "flip" s_flip m1 88
def z35 (P : Params) : Obj := dO [en P "__module__" 296 (.str "sieve.talks" 280), en P "__qualname__" 298 (.str "Talk" 297), en P "__firstlineno__" 300 (.int 18 299), en P "__init__" 310 (.ref 103), en P "has_both_farewells" 317 (.ref 110), en P "outgoing" 325 (.ref 117), en P "__static_attributes__" 332 (.ref 118)] 7
def z36 : Obj := nO (t3 [(20, 4, 102), (28, 4, 109), (31, 4, 116)])
def z37 : Obj := cH "Talk" 291 18 93 294
def z38 : Obj := rO 95 3 92 (.str "sieve.talks" 280)
def z39 : Obj := tS ["self", "label", "sent", "until"] 304
def z3a : Obj := nF "__init__" "Talk.__init__" s_Talk___init__
def z3b : Obj := cF "__init__" 301 "Talk.__init__" 20 4 97 308
def z3c : Obj := uG "__init__" "Talk.__init__" s_Talk___init__ m1 102
def z3d : Obj := tS ["self"] 314
def z3e : Obj := nF "has_both_farewells" "Talk.has_both_farewells" s_Talk_has_both_farewells
def z3f : Obj := cF "has_both_farewells" 311 "Talk.has_both_farewells" 28 1 104 315
def z40 : Obj := uG "has_both_farewells" "Talk.has_both_farewells" s_Talk_has_both_farewells m1 109
def z41 : Obj := tS ["self", "label"] 321
def z42 : Obj := nF "outgoing" "Talk.outgoing" s_Talk_outgoing
def z43 : Obj := cF "outgoing" 318 "Talk.outgoing" 31 2 111 323
def z44 : Obj := uG "outgoing" "Talk.outgoing" s_Talk_outgoing m1 116
def z45 : Obj := tS ["answered", "back", "farewells", "onward", "sent", "until"] 326
def z46 (P : Params) : Obj := dO [en P "__module__" 296 (.str "sieve.talks" 280), en P "__firstlineno__" 300 (.int 18 299), en P "__init__" 310 (.ref 103), en P "has_both_farewells" 317 (.ref 110), en P "outgoing" 325 (.ref 117), en P "__static_attributes__" 332 (.ref 118), en P "__dict__" 334 (.ref 121), en P "__weakref__" 336 (.ref 122), en P "__doc__" 337 .none] 4
def z47 : Obj := ⟨.type "type", none, (.cls ⟨"Talk", [.type "object"], [.ref 120, .type "object"], 119, "Talk", true, [], [], false, none, false⟩), ⟨[none, none, (some (.str "Talk" 289)), (some (.str "Talk" 297)), (some (.builtin "object.__new__")), (some (.bool true))]⟩⟩
def z48 : Obj := ⟨.type "getset_descriptor", none, (.fields ⟨[.str "__dict__" 333, .ref 120, .builtin "function.__dict__", .builtin "function.__dict__#set"]⟩), ⟨[]⟩⟩
def z49 : Obj := ⟨.type "getset_descriptor", none, (.fields ⟨[.str "__weakref__" 335, .ref 120, .builtin "ExceptionGroup.__weakref__", .none]⟩), ⟨[]⟩⟩
def z4a : Obj := sO 120
def z4b : Obj := bO 120
def z4c (P : Params) : Obj := dO [en P "__name__" 165 (.str "law_sieve_k45_deeds_at_a_table" 438), en P "__doc__" 166 .none, en P "__package__" 167 .none, en P "__loader__" 168 (.builtin "__main__.__loader__#opaque"), en P "__spec__" 169 .none, en P "__annotations__" 170 (.ref 6), en P "__builtins__" 171 (.ref 4), en P "__file__" 173 (.str "/claim/cut.py" 172), en P "__cached__" 174 .none, en P "SieveError" 206 (.ref 24), en P "OutOfTime" 231 (.ref 44), en P "Taken" 247 (.ref 56), en P "Full" 263 (.ref 68), en P "NoTalk" 279 (.ref 80), en P "flip" 288 (.ref 89), en P "Talk" 339 (.ref 120), en P "Table" 437 (.ref 191), en P "_law_cell_at" 447 (.ref 202), en P "_law_whole" 454 (.ref 209), en P "_law_stream" 465 (.ref 216), en P "_law_flip" 472 (.ref 223), en P "_law_ends" 484 (.ref 230), en P "_law_label" 494 (.ref 237), en P "_law_at" 503 (.ref 244), en P "_law_free" 513 (.ref 251), en P "_law_begun" 527 (.ref 258), en P "_law_gone" 551 (.ref 265), en P "_law_late" 562 (.ref 272), en P "_law_moment" 571 (.ref 279), en P "_law_deed" 577 (.ref 284), en P "_law_looks" 583 (.ref 289), en P "law" 602 (.ref 296)] 32
def z4d : Obj := nO (t3 [(2, 0, 20), (4, 0, 33), (9, 0, 52), (11, 0, 64), (13, 0, 76), (16, 0, 88), (18, 0, 95), (33, 0, 130), (93, 0, 201), (97, 0, 208), (99, 0, 215), (106, 0, 222), (108, 0, 229), (115, 0, 236), (118, 0, 243), (123, 0, 250), (126, 0, 257), (143, 0, 264), (169, 0, 271), (178, 0, 278), (184, 0, 283), (203, 0, 288), (223, 0, 295)])
def z4e (P : Params) : Obj := dO [en P "__module__" 347 (.str "sieve.talks" 280), en P "__qualname__" 349 (.str "Table" 348), en P "__firstlineno__" 351 (.int 33 350), en P "__init__" 361 (.ref 138), en P "keep" 370 (.ref 145), en P "at" 376 (.ref 150), en P "turn" 385 (.ref 157), en P "free" 395 (.ref 164), en P "begin" 404 (.ref 171), en P "go_on" 410 (.ref 176), en P "is_full" 417 (.ref 183), en P "standing" 423 (.ref 188), en P "__static_attributes__" 430 (.ref 189)] 13
def z4f : Obj := nO (t3 [(35, 4, 137), (43, 4, 144), (50, 4, 149), (56, 4, 156), (64, 4, 163), (68, 4, 170), (75, 4, 175), (87, 4, 182), (90, 4, 187)])
def z50 : Obj := cH "Table" 342 33 128 345
def z51 : Obj := rO 130 3 127 (.str "sieve.talks" 280)
def z52 : Obj := tS ["self", "short", "long", "most"] 355
def z53 : Obj := nF "__init__" "Table.__init__" s_Table___init__
def z54 : Obj := cF "__init__" 352 "Table.__init__" 35 4 132 359
def z55 : Obj := uG "__init__" "Table.__init__" s_Table___init__ m1 137
def z56 : Obj := tS ["self", "talks", "talk"] 365
def z57 : Obj := nF "keep" "Table.keep" s_Table_keep
def z58 : Obj := cF "keep" 362 "Table.keep" 43 2 139 368
def z59 : Obj := uG "keep" "Table.keep" s_Table_keep m1 144
def z5a : Obj := nF "at" "Table.at" s_Table_at
def z5b : Obj := cG "at" 371 "Table.at" 50 2 146 374
def z5c : Obj := uG "at" "Table.at" s_Table_at m1 149
def z5d : Obj := tS ["self", "label", "talk"] 380
def z5e : Obj := nF "turn" "Table.turn" s_Table_turn
def z5f : Obj := cF "turn" 377 "Table.turn" 56 2 151 383
def z60 : Obj := uG "turn" "Table.turn" s_Table_turn m1 156
def z61 : Obj := tS ["self", "label", "sent", "back"] 389
def z62 : Obj := nF "free" "Table.free" s_Table_free
def z63 : Obj := cF "free" 386 "Table.free" 64 3 158 393
def z64 : Obj := uG "free" "Table.free" s_Table_free m1 163
def z65 : Obj := tS ["self", "label", "sent"] 399
def z66 : Obj := nF "begin" "Table.begin" s_Table_begin
def z67 : Obj := cF "begin" 396 "Table.begin" 68 3 165 402
def z68 : Obj := uG "begin" "Table.begin" s_Table_begin m1 170
def z69 : Obj := nF "go_on" "Table.go_on" s_Table_go_on
def z6a : Obj := cG "go_on" 405 "Table.go_on" 75 3 172 408
def z6b : Obj := uG "go_on" "Table.go_on" s_Table_go_on m1 175
def z6c : Obj := tS ["self"] 414
def z6d : Obj := nF "is_full" "Table.is_full" s_Table_is_full
def z6e : Obj := cF "is_full" 411 "Table.is_full" 87 1 177 415
def z6f : Obj := uG "is_full" "Table.is_full" s_Table_is_full m1 182
def z70 : Obj := nF "standing" "Table.standing" s_Table_standing
def z71 : Obj := cG "standing" 418 "Table.standing" 90 1 184 421
def z72 : Obj := uG "standing" "Table.standing" s_Table_standing m1 187
def z73 : Obj := tS ["by_key", "long", "most", "short", "talks", "time"] 424
def z74 (P : Params) : Obj := dO [en P "__module__" 347 (.str "sieve.talks" 280), en P "__firstlineno__" 351 (.int 33 350), en P "__init__" 361 (.ref 138), en P "keep" 370 (.ref 145), en P "at" 376 (.ref 150), en P "turn" 385 (.ref 157), en P "free" 395 (.ref 164), en P "begin" 404 (.ref 171), en P "go_on" 410 (.ref 176), en P "is_full" 417 (.ref 183), en P "standing" 423 (.ref 188), en P "__static_attributes__" 430 (.ref 189), en P "__dict__" 432 (.ref 192), en P "__weakref__" 434 (.ref 193), en P "__doc__" 435 .none] 4
def z75 : Obj := ⟨.type "type", none, (.cls ⟨"Table", [.type "object"], [.ref 191, .type "object"], 190, "Table", true, [], [], false, none, false⟩), ⟨[none, none, (some (.str "Table" 340)), (some (.str "Table" 348)), (some (.builtin "object.__new__")), (some (.bool true))]⟩⟩
def z76 : Obj := ⟨.type "getset_descriptor", none, (.fields ⟨[.str "__dict__" 431, .ref 191, .builtin "function.__dict__", .builtin "function.__dict__#set"]⟩), ⟨[]⟩⟩
def z77 : Obj := ⟨.type "getset_descriptor", none, (.fields ⟨[.str "__weakref__" 433, .ref 191, .builtin "ExceptionGroup.__weakref__", .none]⟩), ⟨[]⟩⟩
def z78 : Obj := sO 191
def z79 : Obj := bO 191
def z7a : Obj := tS ["_law_script", "_law_k"] 443
def z7b : Obj := nG "_law_cell_at" s__law_cell_at
def z7c : Obj := cF "_law_cell_at" 440 "_law_cell_at" 93 2 196 445
def z7d : Obj := uH "_law_cell_at" s__law_cell_at m2 201
def z7e : Obj := tS ["_law_found"] 451
def z7f : Obj := nG "_law_whole" s__law_whole
def z80 : Obj := cF "_law_whole" 448 "_law_whole" 97 1 203 452
def z81 : Obj := uH "_law_whole" s__law_whole m2 208
def z82 : Obj := tS ["_law_cell", "_law_many", "_law_found", "_law_number", "_law_k"] 458
def z83 : Obj := nG "_law_stream" s__law_stream
def z84 : Obj := cF "_law_stream" 455 "_law_stream" 99 2 210 463
def z85 : Obj := uH "_law_stream" s__law_stream m2 215
def z86 : Obj := tS ["_law_label_here"] 469
def z87 : Obj := nG "_law_flip" s__law_flip
def z88 : Obj := cF "_law_flip" 466 "_law_flip" 106 1 217 470
def z89 : Obj := uH "_law_flip" s__law_flip m2 222
def z8a : Obj := tS ["_law_cell", "_law_draws", "_law_kind", "_law_one", "_law_two", "_law_kinds"] 476
def z8b : Obj := nG "_law_ends" s__law_ends
def z8c : Obj := cF "_law_ends" 473 "_law_ends" 108 1 224 482
def z8d : Obj := uH "_law_ends" s__law_ends m2 229
def z8e : Obj := tS ["_law_draw", "_law_ends_here", "_law_kinds", "_law_some"] 488
def z8f : Obj := nG "_law_label" s__law_label
def z90 : Obj := cF "_law_label" 485 "_law_label" 115 2 231 492
def z91 : Obj := uH "_law_label" s__law_label m2 236
def z92 : Obj := tS ["_law_talks", "_law_label_here", "_law_k"] 498
def z93 : Obj := nG "_law_at" s__law_at
def z94 : Obj := cF "_law_at" 495 "_law_at" 118 2 238 501
def z95 : Obj := uH "_law_at" s__law_at m2 243
def z96 : Obj := tS ["_law_talks", "_law_label_here", "_law_sent", "_law_key"] 507
def z97 : Obj := nG "_law_free" s__law_free
def z98 : Obj := cF "_law_free" 504 "_law_free" 123 3 245 511
def z99 : Obj := uH "_law_free" s__law_free m2 250
def z9a : Obj := tS ["_law_table", "_law_talks", "_law_time", "_law_spans", "_law_label_here", "_law_sent", "_law_told", "e"] 517
def z9b : Obj := nG "_law_begun" s__law_begun
def z9c : Obj := cF "_law_begun" 514 "_law_begun" 126 6 252 525
def z9d : Obj := uH "_law_begun" s__law_begun m2 257
def z9e : Obj := tS ["_law_table", "_law_talks", "_law_time", "_law_spans", "_law_label_here", "_law_last", "_law_told", "_law_found", "e", "_law_at_here", "_law_came", "_law_sent", "_law_answered", "_law_until", "_law_onward", "_law_back", "_law_due", "_law_talk"] 531
def z9f : Obj := nG "_law_gone" s__law_gone
def za0 : Obj := cF "_law_gone" 528 "_law_gone" 143 6 259 549
def za1 : Obj := uH "_law_gone" s__law_gone m2 264
def za2 : Obj := tS ["_law_table", "_law_time", "_law_moment_here", "_law_told", "e"] 555
def za3 : Obj := nG "_law_late" s__law_late
def za4 : Obj := cF "_law_late" 552 "_law_late" 169 3 266 560
def za5 : Obj := uH "_law_late" s__law_late m2 271
def za6 : Obj := tS ["_law_time", "_law_talks", "_law_draws"] 566
def za7 : Obj := nG "_law_moment" s__law_moment
def za8 : Obj := cF "_law_moment" 563 "_law_moment" 178 3 273 569
def za9 : Obj := uH "_law_moment" s__law_moment m2 278
def zaa : Obj := nG "_law_deed" s__law_deed
def zab : Obj := cG "_law_deed" 572 "_law_deed" 184 5 280 575
def zac : Obj := uH "_law_deed" s__law_deed m2 283
def zad : Obj := nG "_law_looks" s__law_looks
def zae : Obj := cG "_law_looks" 578 "_law_looks" 203 6 285 581
def zaf : Obj := uH "_law_looks" s__law_looks m2 288
def zb0 : Obj := tS ["_law_script", "_law_ends_here", "_law_spans", "_law_cell", "_law_top", "_law_tables", "_law_states", "_law_held", "_law_draws", "_law_k", "_law_state", "_law_found", "_law_due"] 587
def zb1 : Obj := nG "law" s_law
def zb2 : Obj := cF "law" 584 "law" 223 1 290 600
def zb3 : Obj := uH "law" s_law m2 295
abbrev hp : Program := PySem.Challenge.pw_sieve_k45_deeds_at_a_table
def hEnv : Env := { scope := PySem.Challenge.pw_sieve_k45_deeds_at_a_table.main.scope, locals := mainNs, globals := mainNs, cells := [], code := .ref 13, frame := some 14 }
def hB : List Stmt := behindTheImports PySem.Challenge.pw_sieve_k45_deeds_at_a_table
abbrev hC : Code := .body hB hEnv
abbrev hF : List Frame := [topFrame ⟨0, 0, 0, 0⟩]
abbrev hAnn : Option Value := (some (.ref 6))
def hA (P : Params) : Heap := ⟨⟨[(boot_o_0 P), (boot_o_1 P), (boot_o_2 P), (boot_o_3 P), (boot_o_4 P), (boot_o_5 P), (boot_o_6 P), (boot_o_7 P), (boot_o_8 P), (boot_o_9 P), (boot_o_10 P), (boot_o_7 P), (boot_o_8 P), z0, z1]⟩, {}⟩
def ls0 (P : Params) : List Obj := [(boot_o_0 P), (boot_o_1 P), (boot_o_2 P), (boot_o_3 P), (boot_o_4 P), (boot_o_5 P), (boot_o_6 P), (boot_o_7 P), (boot_o_8 P), (boot_o_9 P), (boot_o_10 P), (boot_o_7 P), (boot_o_8 P), z0, z1]
def tr0 (P : Params) : BT := mkT 14 (ls0 P)
def ls1 (P : Params) : List Obj := (((ls0 P).set 3 (z2 P)).set 12 z3) ++ [z4, z5, (z6 P), (boot_o_7 P), (boot_o_8 P), z7, z8, (boot_o_7 P), (z9 P), za, zb, zc, zd, ze, z5, (zf P), (boot_o_7 P), z10, z11, z12, (boot_o_7 P), (boot_o_8 P), z13, (boot_o_7 P), z14, z15, z16, z17, (z18 P), z19, z1a, z1b, ze, z5, (z1c P), (boot_o_7 P), (boot_o_8 P), z1d, z1e, (boot_o_7 P), (z1f P), z20, z21, z22, ze, z5, (z23 P), (boot_o_7 P), (boot_o_8 P), z24, z25, (boot_o_7 P), (z26 P), z27, z28, z29, ze, z5, (z2a P), (boot_o_7 P), (boot_o_8 P), z2b, z2c, (boot_o_7 P), (z2d P), z2e, z2f, z30, (boot_o_7 P), (boot_o_8 P), z31, (boot_o_7 P), z32, z33, z34, (boot_o_7 P), z5, (z35 P), (boot_o_7 P), z36, z37, z38, (boot_o_7 P), (boot_o_8 P), z39, (boot_o_7 P), z3a, z3b, z3c, (boot_o_7 P), (boot_o_8 P), z3d, (boot_o_7 P), z3e, z3f, z40, (boot_o_7 P), (boot_o_8 P), z41, (boot_o_7 P), z42, z43, z44, z45, (z46 P), z47, z48, z49, z4a, z4b]
def tr1 (P : Params) : BT := mkT 14 (ls1 P)
def gr1 : List Stmt := (hB.drop 0).take 9
def ls2 (P : Params) : List Obj := (((ls1 P).set 3 (z4c P)).set 12 z4d) ++ [(boot_o_7 P), z5, (z4e P), (boot_o_7 P), z4f, z50, z51, (boot_o_7 P), (boot_o_8 P), z52, (boot_o_7 P), z53, z54, z55, (boot_o_7 P), (boot_o_8 P), z56, (boot_o_7 P), z57, z58, z59, (boot_o_7 P), (boot_o_8 P), z5a, z5b, z5c, (boot_o_7 P), (boot_o_8 P), z5d, (boot_o_7 P), z5e, z5f, z60, (boot_o_7 P), (boot_o_8 P), z61, (boot_o_7 P), z62, z63, z64, (boot_o_7 P), (boot_o_8 P), z65, (boot_o_7 P), z66, z67, z68, (boot_o_7 P), (boot_o_8 P), z69, z6a, z6b, (boot_o_7 P), (boot_o_8 P), z6c, (boot_o_7 P), z6d, z6e, z6f, (boot_o_7 P), (boot_o_8 P), z70, z71, z72, z73, (z74 P), z75, z76, z77, z78, z79, (boot_o_7 P), (boot_o_8 P), z7a, (boot_o_7 P), z7b, z7c, z7d, (boot_o_7 P), (boot_o_8 P), z7e, (boot_o_7 P), z7f, z80, z81, (boot_o_7 P), (boot_o_8 P), z82, (boot_o_7 P), z83, z84, z85, (boot_o_7 P), (boot_o_8 P), z86, (boot_o_7 P), z87, z88, z89, (boot_o_7 P), (boot_o_8 P), z8a, (boot_o_7 P), z8b, z8c, z8d, (boot_o_7 P), (boot_o_8 P), z8e, (boot_o_7 P), z8f, z90, z91, (boot_o_7 P), (boot_o_8 P), z92, (boot_o_7 P), z93, z94, z95, (boot_o_7 P), (boot_o_8 P), z96, (boot_o_7 P), z97, z98, z99, (boot_o_7 P), (boot_o_8 P), z9a, (boot_o_7 P), z9b, z9c, z9d, (boot_o_7 P), (boot_o_8 P), z9e, (boot_o_7 P), z9f, za0, za1, (boot_o_7 P), (boot_o_8 P), za2, (boot_o_7 P), za3, za4, za5, (boot_o_7 P), (boot_o_8 P), za6, (boot_o_7 P), za7, za8, za9, (boot_o_7 P), (boot_o_8 P), zaa, zab, zac, (boot_o_7 P), (boot_o_8 P), zad, zae, zaf, (boot_o_7 P), (boot_o_8 P), zb0, (boot_o_7 P), zb1, zb2, zb3]
def tr2 (P : Params) : BT := mkT 14 (ls2 P)
def gr2 : List Stmt := (hB.drop 9).take 17
def hZ (P : Params) : Heap := ⟨⟨(ls2 P)⟩, {}⟩
theorem pre (w : World) : (fun os => topGo treeTable hp w 11 hAnn 12 ⟨boot_heap w.params, Array.mk [], boot_drawn, boot_toks, os⟩ (topStub hp)) = fun os => some (⟨hA w.params, Array.mk [], {}, 187, os⟩, ⟨denote treeTable hC, hC, ⟨0, 0, 0, 0⟩, hF⟩) := by kernel_rfl
theorem blk (w : World) : (fun os => segRun treeTable hp w 11 hAnn 1 1 ⟨hA w.params, Array.mk [], {}, 187, os⟩ (blockOf hB hEnv hC ⟨0, 0, 0, 0⟩ hF)) = fun os => some (.next, SharedT.abs ⟨tr0 w.params, 15, {}, Array.mk [], {}, 187, os⟩, hC, ⟨0, 0, 0, 0⟩) := by kernel_rfl
theorem pc1 (w : World) : (fun os => segRunT treeTable hp w 11 hAnn 1 1410 ⟨tr0 w.params, 15, {}, Array.mk [], {}, 187, os⟩ (PySem.W.piecesOf gr1 hEnv hC ⟨0, 0, 0, 0⟩ hF)) = fun os => some (.next, ⟨tr1 w.params, 125, {}, Array.mk [], {}, 340, os⟩, hC, ⟨18, 0, 32, 69⟩) := by kernel_rfl
theorem pc2 (w : World) : (fun os => segRunT treeTable hp w 11 hAnn 1 976 ⟨tr1 w.params, 125, {}, Array.mk [], {}, 340, os⟩ (PySem.W.piecesOf gr2 hEnv hC ⟨18, 0, 32, 69⟩ hF)) = fun os => some (.next, ⟨tr2 w.params, 297, {}, Array.mk [], {}, 603, os⟩, hC, ⟨223, 0, 245, 15⟩) := by kernel_rfl
theorem fin (w : World) : (fun os => topRun treeTable hp w 11 hAnn 2 (SharedT.abs ⟨tr2 w.params, 297, {}, Array.mk [], {}, 603, os⟩) ⟨doneF .next, hC, ⟨223, 0, 245, 15⟩, hF⟩) = fun os => some ⟨hZ w.params, Array.mk [], {}, 603, os⟩ := by kernel_rfl
theorem bodyEq : hB = gr1 ++ (gr2 ++ []) := by kernel_rfl
abbrev hM : Nat := (12 + (1 + (1410 + (976 + 2))))
theorem rest (w : World) (os : OsState) : topRun treeTable hp w 11 hAnn (1410 + (976 + 2)) (SharedT.abs ⟨tr0 w.params, 15, {}, Array.mk [], {}, 187, os⟩) (restOf hB hEnv hC ⟨0, 0, 0, 0⟩ hF) = some ⟨hZ w.params, Array.mk [], {}, 603, os⟩ := by
  have h : topRun treeTable hp w 11 hAnn (1410 + (976 + 2)) (SharedT.abs ⟨tr0 w.params, 15, {}, Array.mk [], {}, 187, os⟩) (restOf (gr1 ++ (gr2 ++ [])) hEnv hC ⟨0, 0, 0, 0⟩ hF) = some ⟨hZ w.params, Array.mk [], {}, 603, os⟩ := piece_app (segRun_of (congrFun (pc1 w) os)) (piece_app (segRun_of (congrFun (pc2 w) os)) (piece_nil (congrFun (fin w) os)))
  rw [← bodyEq] at h
  exact h
theorem run (w : World) (os : OsState) : topRun treeTable hp w 11 hAnn hM ⟨boot_heap w.params, Array.mk [], boot_drawn, boot_toks, os⟩ (topStub hp) = some ⟨hZ w.params, Array.mk [], {}, 603, os⟩ := go_top (congrFun (pre w) os) (piece_block (congrFun (blk w) os) (rest w os))
theorem opn : ∀ w : World, (fencedOpening treeTable hp w 4894).map (fun s => (s.heap, s.gens, s.drawn, s.toks)) = some (boot_heap w.params, Array.mk [], boot_drawn, boot_toks) := boot_open (by kernel_rfl) (by decide) (fun s => by kernel_rfl)
theorem siz (w : World) : ((boot_heap w.params).isNs mainGlobals && (Array.mk [] : Array GenState).size == 0, (boot_heap w.params).objs.size, (boot_heap w.params).nsMap mainGlobals "__annotations__") = (true, 11, hAnn) := by kernel_rfl
end
end Hd
def kept : List Nat := [1, 2, 3, 4, 5, 7, 8, 9, 11, 12, 13, 14, 15, 16, 17, 18, 19, 20, 21, 22, 23, 24, 25]
def view : Program := { PySem.Challenge.pw_sieve_k45_deeds_at_a_table with main := { PySem.Challenge.pw_sieve_k45_deeds_at_a_table.main with body := kept.filterMap fun i => PySem.Challenge.pw_sieve_k45_deeds_at_a_table.main.body[i]? } }
abbrev theRow : PySem.W.OpenRow := PySem.W.OpenLaw.row PySem.Challenge.rw_sieve_k45_deeds_at_a_table
noncomputable section
open PySem PySem.W PyProof.Rows Hd
variable (w : World) (os : OsState)
def xt : Shared → Bool := fun s => xlAt view [] s && recOk (RowW.records (OpenRow.toRowW theRow)) s
abbrev sZ : Shared := ⟨hZ w.params, Array.mk [], {}, 603, os⟩
theorem lk0 : seen (List.map (fun x => x.name) (recsOf view)) (ownsOf view) [] { heap := (sZ w os).heap, drawn := {}, toks := (sZ w os).toks, os := os } = (openGood view []).1 := by kernel_rfl
theorem lk1 : (sZ w os).heap.bltView = (openGood view []).2.1 := by kernel_rfl
theorem lk2 : ((sZ w os).heap.keysOk (looseW view []) (List.map (fun x => x.name) (recsOf view)) (List.map (fun x => x.fst) (litsOf view)) (List.map (fun x => x.name) (clssOf view (looseW view []))) && (sZ w os).heap.accountedOkI (importedModules hp.main.body) && (sZ w os).heap.isNs mainGlobals && (sZ w os).heap.isNs builtinsNs && tablesOk view (sZ w os).heap && xt (sZ w os) && if true = true then (sZ w os).gens.size == 0 else !leftWithCleanup (sZ w os).gens) = (openGood view []).2.2.1 := by kernel_rfl
theorem lk3 : tabsOk view (sZ w os) = (openGood view []).2.2.2.1 := by kernel_rfl
theorem lk4 : pinSeenD view (drecsOf view) (sZ w os) = (openGood view []).2.2.2.2.1 := by kernel_rfl
theorem lk5 : plainSeenE view (looseW view []) (sZ w os) = (openGood view []).2.2.2.2.2.1 := by kernel_rfl
theorem lk6 : plainSeenD view [] (sZ w os) = (openGood view []).2.2.2.2.2.2.1 := by kernel_rfl
theorem lk7 : wideSeen view (sZ w os) = (openGood view []).2.2.2.2.2.2.2.1 := by kernel_rfl
theorem lk8 : clsSeenW view [] (sZ w os) = (openGood view []).2.2.2.2.2.2.2.2 := by kernel_rfl
theorem pr2 {α β : Type} {a : α} {b : β} {p : α × β} (h : a = p.1) (k : b = p.2) : (a, b) = p := Prod.ext h k
theorem lk : openSeen view [] (importedModules hp.main.body) xt true (sZ w os) = openGood view [] := pr2 (lk0 w os) (pr2 (lk1 w os) (pr2 (lk2 w os) (pr2 (lk3 w os) (pr2 (lk4 w os) (pr2 (lk5 w os) (pr2 (lk6 w os) (pr2 (lk7 w os) (lk8 w os))))))))
theorem lkA : (staticsOk (importedModules hp.main.body) (boot_heap w.params) (sZ w os).heap && namesBound hp (sZ w os).heap && gensDone (sZ w os) && laidKept (boot_heap w.params) (sZ w os).heap) = true := by kernel_rfl
end
end K45
open PySem PySem.W PyProof.Rows
local macro_rules | `(tactic| o_head $H) => `(tactic| (
  refine holds_open (r := K45.theRow) (q := K45.view) (loose := []) (N := 4894) (YP := Hook.says $H) (Ya := Hook.val $H) (Yf := Hook.obs $H)
    (XP := XL K45.view []) (Xt := K45.xt) ?left (Hook.of $H) (Hook.keeps $H)
    (fun s e => xl_of s (Bool.and_eq_true_iff.mp e).1) XL.keeps (by rfl) (by rfl) (by rfl)
    (fun s e => recFacts_of (Bool.and_eq_true_iff.mp e).2) (by rfl) (by assumption) (by decide +kernel) ⟨rfl, rfl, rfl, rfl, rfl, by decide +kernel⟩ ?wit ?go
  (case left => (refine LeftO.of_pieces (p := K45.Hd.hp) (q := K45.view) (loose := []) (Xt := K45.xt) (g0 := true) (H₀ := boot_heap) (H₁ := K45.Hd.hZ) (gs₀ := Array.mk []) (gs₁ := Array.mk []) (d₀ := boot_drawn) (d₁ := {}) (k₀ := boot_toks) (k₁ := 603) (m₀ := 11) (ann := K45.Hd.hAnn) (M := K45.Hd.hM) K45.Hd.opn K45.Hd.siz K45.Hd.run (by decide) ?looks; (case looks => (intro w; refine funext fun os => K45.pr2 (K45.lkA w os) (K45.pr2 (K45.lk w os) ?_); kernel_rfl))))
  (case wit => w_witness2)))
set_option maxRecDepth 100000 in
set_option maxHeartbeats 0 in
theorem PySem.Challenge.cw_sieve_k45_deeds_at_a_table_holds : PySem.Challenge.rw_sieve_k45_deeds_at_a_table.Holds := by
  w_on; o_law; k_head
  k_fill
  refine K45.walk (l := PySem.Challenge.rw_sieve_k45_deeds_at_a_table) rfl rfl (fun w h Y => PySem.W.kIn_of Y) ?F
  case F =>
    intro w mg fa h KX G hmg
    refine' K45.asm hmg ?D0 ?D1 ?D2 ?D3 ?D4 ?D5 ?D6 ?D7 ?D8 ?D9 ?D10 ?D11 ?D12 ?D13 ?D14 ?D15 ?b0 ?b1 ?b2 ?b3 ?b4 ?b5 ?b6 ?b7 ?m0 ?m1 ?m2 ?m3 ?m4 ?m5 ?m6 ?f0 ?f1 ?f2 ?f3 ?f4 ?f5 ?f6 ?f7 ?f8 ?f9 ?f10 ?f11 ?f12 ?f13 ?f14 ?f15 ?f16 ?f17 ?f18 ?f19 ?f20 ?f21 ?f22 ?f23 ?f24 ?f25 ?f26 ?e0 ?e1 ?e2 ?e3 ?e4 ?e5 ?e6 ?e7 ?e8 ?e9 ?e10 ?e11 ?tx ?x0
    case D0 => (refine' Sv.mk_def KX G ?a ?l ?c ?k); (case a => k_is); (case l => k_is); (case c => k_is); (case k => k_is)
    case D1 => (refine' Sv.mk_def KX G ?a ?l ?c ?k); (case a => k_is); (case l => k_is); (case c => k_is); (case k => k_is)
    case D2 => (refine' Sv.mk_def KX G ?a ?l ?c ?k); (case a => k_is); (case l => k_is); (case c => k_is); (case k => k_is)
    case D3 => (refine' Sv.mk_def KX G ?a ?l ?c ?k); (case a => k_is); (case l => k_is); (case c => k_is); (case k => k_is)
    case D4 => (refine' Sv.mk_def KX G ?a ?l ?c ?k); (case a => k_is); (case l => k_is); (case c => k_is); (case k => k_is)
    case D5 => (refine' Sv.mk_def KX G ?a ?l ?c ?k); (case a => k_is); (case l => k_is); (case c => k_is); (case k => k_is)
    case D6 => (refine' Sv.mk_def KX G ?a ?l ?c ?k); (case a => k_is); (case l => k_is); (case c => k_is); (case k => k_is)
    case D7 => (refine' Sv.mk_def KX G ?a ?l ?c ?k); (case a => k_is); (case l => k_is); (case c => k_is); (case k => k_is)
    case D8 => (refine' Sv.mk_def KX G ?a ?l ?c ?k); (case a => k_is); (case l => k_is); (case c => k_is); (case k => k_is)
    case D9 => (refine' Sv.mk_def KX G ?a ?l ?c ?k); (case a => k_is); (case l => k_is); (case c => k_is); (case k => k_is)
    case D10 => (refine' Sv.mk_def KX G ?a ?l ?c ?k); (case a => k_is); (case l => k_is); (case c => k_is); (case k => k_is)
    case D11 => (refine' Sv.mk_def KX G ?a ?l ?c ?k); (case a => k_is); (case l => k_is); (case c => k_is); (case k => k_is)
    case D12 => (refine' Sv.mk_def KX G ?a ?l ?c ?k); (case a => k_is); (case l => k_is); (case c => k_is); (case k => k_is)
    case D13 => (refine' Sv.mk_def KX G ?a ?l ?c ?k); (case a => k_is); (case l => k_is); (case c => k_is); (case k => k_is)
    case D14 => (refine' Sv.mk_def KX G ?a ?l ?c ?k); (case a => k_is); (case l => k_is); (case c => k_is); (case k => k_is)
    case D15 => (refine' Sv.mk_def KX G ?a ?l ?c ?k); (case a => k_is); (case l => k_is); (case c => k_is); (case k => k_is)
    case b0 => (refine' PySem.W.mg_none_of KX G ?a); (case a => k_is)
    case b1 => (refine' PySem.W.mg_none_of KX G ?a); (case a => k_is)
    case b2 => (refine' PySem.W.mg_none_of KX G ?a); (case a => k_is)
    case b3 => (refine' PySem.W.mg_none_of KX G ?a); (case a => k_is)
    case b4 => (refine' PySem.W.mg_none_of KX G ?a); (case a => k_is)
    case b5 => (refine' PySem.W.mg_none_of KX G ?a); (case a => k_is)
    case b6 => (refine' PySem.W.mg_none_of KX G ?a); (case a => k_is)
    case b7 => (refine' PySem.W.mg_none_of KX G ?a); (case a => k_is)
    case m0 => (refine' PySem.W.mg_of KX G ?a); (case a => k_is)
    case m1 => (refine' PySem.W.mg_of KX G ?a); (case a => k_is)
    case m2 => (refine' PySem.W.mg_of KX G ?a); (case a => k_is)
    case m3 => (refine' PySem.W.mg_of KX G ?a); (case a => k_is)
    case m4 => (refine' PySem.W.mg_of KX G ?a); (case a => k_is)
    case m5 => (refine' PySem.W.mg_of KX G ?a); (case a => k_is)
    case m6 => (refine' PySem.W.mg_of KX G ?a); (case a => k_is)
    case f0 => (constructor <;> first | k_is | kernel_rfl)
    case f1 => (constructor <;> first | k_is | kernel_rfl)
    case f2 => (constructor <;> first | k_is | kernel_rfl)
    case f3 => (constructor <;> first | k_is | kernel_rfl)
    case f4 => k_is
    case f5 => k_is
    case f6 => k_is
    case f7 => k_is
    case f8 => k_exc
    case f9 => k_exc
    case f10 => k_exc
    case f11 => k_is
    case f12 => k_is
    case f13 => k_is
    case f14 => kit_is
    case f15 => kit_is
    case f16 => kit_is
    case f17 => kit_is
    case f18 => kit_is
    case f19 => kit_is
    case f20 => kit_is
    case f21 => kit_is
    case f22 => kit_is
    case f23 => kit_is
    case f24 => (constructor <;> first | k_is | kernel_rfl)
    case f25 => (constructor <;> first | k_is | kernel_rfl)
    case f26 => k_is
    case e0 => (refine' Sv.mk_mdef ?a ?l ?c ?k ?n); (case a => k_is); (case l => k_is); (case c => k_is); (case k => k_is); (case n => k_is)
    case e1 => (refine' Sv.mk_mdef ?a ?l ?c ?k ?n); (case a => k_is); (case l => k_is); (case c => k_is); (case k => k_is); (case n => k_is)
    case e2 => (refine' Sv.mk_mdef ?a ?l ?c ?k ?n); (case a => k_is); (case l => k_is); (case c => k_is); (case k => k_is); (case n => k_is)
    case e3 => (refine' Sv.mk_mdef ?a ?l ?c ?k ?n); (case a => k_is); (case l => k_is); (case c => k_is); (case k => k_is); (case n => k_is)
    case e4 => (refine' Sv.mk_mdef ?a ?l ?c ?k ?n); (case a => k_is); (case l => k_is); (case c => k_is); (case k => k_is); (case n => k_is)
    case e5 => (refine' Sv.mk_mdef ?a ?l ?c ?k ?n); (case a => k_is); (case l => k_is); (case c => k_is); (case k => k_is); (case n => k_is)
    case e6 => (refine' Sv.mk_mdef ?a ?l ?c ?k ?n); (case a => k_is); (case l => k_is); (case c => k_is); (case k => k_is); (case n => k_is)
    case e7 => (refine' Sv.mk_mdef ?a ?l ?c ?k ?n); (case a => k_is); (case l => k_is); (case c => k_is); (case k => k_is); (case n => k_is)
    case e8 => (refine' Sv.mk_mdef ?a ?l ?c ?k ?n); (case a => k_is); (case l => k_is); (case c => k_is); (case k => k_is); (case n => k_is)
    case e9 => (refine' Sv.mk_mdef ?a ?l ?c ?k ?n); (case a => k_is); (case l => k_is); (case c => k_is); (case k => k_is); (case n => k_is)
    case e10 => (refine' Sv.mk_mdef ?a ?l ?c ?k ?n); (case a => k_is); (case l => k_is); (case c => k_is); (case k => k_is); (case n => k_is)
    case e11 => (refine' Sv.mk_mdef ?a ?l ?c ?k ?n); (case a => k_is); (case l => k_is); (case c => k_is); (case k => k_is); (case n => k_is)
    case tx => (constructor <;> first | k_is | kit_is)
    case x0 => (refine' Sv.mk_xdef KX G ?a ?lk ?tl ?ns ?ini ?l ?c ?k); (case a => k_is); (case lk => k_is); (case tl => kernel_rfl); (case ns => kernel_rfl); (case ini => k_is); (case l => k_is); (case c => k_is); (case k => k_is)
