import PyProof.Rows.All
import PyProof.ExcArgs
import PyProof.FitsBits
import Wide.All
import OpenK.AllK
import Wide.FinOn
import Lean
import PyProof.EqAt
import PyProof.EqKinds
import PyProof.TupleCall
import PyProof.NeData
import PyProof.ZipIter
import PyProof.EnumMake
import KE.BitLaws
import KE.IntBitsLaws
import KE.KIntText
import KE.IntTextLaws
import PyProof.ExcClass3
import PyProof.ExcInit
import PyProof.InstStoreFacts
import PyProof.DictWalks
import KE.KDictList
import PyProof.Rows.SumAny
import PyProof.StrBlockI
import PyProof.SliceStr2
import KE.KRevIter
import PyProof.Rows.GenSrcRange
import PyProof.ListRange
import PyProof.AutoSeq1
import PyProof.ReprHeadsTuple
import PyProof.StrBlock2
import PySem.Challenge.RW_sieve_k14_a_rule_shown
set_option Elab.async false
set_option linter.all false
set_option maxRecDepth 100000
-- CHANGE: your row's module here, as the last of these rows
namespace L2
open PySem PySem.Spec PyProof.Rows
abbrev Key := Sum Int Str
def keyIs : Key → Value → Bool
  | .inl k, v => Value.isInt k v
  | .inr x, v => Value.isStrOf x v
def keyH (w : World) : Key → Int
  | .inl k => hashInt k
  | .inr x => hashStr w x
theorem keyIs_shape : ∀ {k : Key} {v : Value}, keyIs k v = true → (∃ i t, k = Sum.inl i ∧ v = Value.int i t) ∨ (∃ x t, k = Sum.inr x ∧ v = Value.str x t)
  | .inl i, v, h => by
    obtain ⟨t, e⟩ := Value.isInt_shape (k := i) (v := v) h
    exact .inl ⟨i, t, rfl, e⟩
  | .inr x, v, h => by
    obtain ⟨t, e⟩ := Value.isStrOf_shape (x := x) (v := v) h
    exact .inr ⟨x, t, rfl, e⟩
theorem key_ll (a b : Int) : decide ((Sum.inl a : Key) = Sum.inl b) = (a == b) := by
  by_cases e : a = b
  · subst e; simp
  · have h : ¬ (Sum.inl a : Key) = Sum.inl b := fun q => e (Sum.inl.inj q)
    rw [decide_eq_false h]
    exact (beq_eq_false_iff_ne.mpr e).symm
theorem key_rr (a b : Str) : decide ((Sum.inr a : Key) = Sum.inr b) = decide (a = b) := by
  by_cases e : a = b
  · subst e; simp
  · have h : ¬ (Sum.inr a : Key) = Sum.inr b := fun q => e (Sum.inr.inj q)
    rw [decide_eq_false h, decide_eq_false e]
theorem key_lr (a : Int) (b : Str) : decide ((Sum.inl a : Key) = Sum.inr b) = false := decide_eq_false (fun q => nomatch q)
theorem key_rl (a : Str) (b : Int) : decide ((Sum.inr a : Key) = Sum.inl b) = false := decide_eq_false (fun q => nomatch q)
def mixKind (prog : Program) (w : World) : PySem.KeyKind prog w Key where
  is := keyIs
  hash := keyH w
  inj := fun v a b ha hb => by
    rcases keyIs_shape ha with ⟨i, t, rfl, rfl⟩ | ⟨x, t, rfl, rfl⟩
    · rcases keyIs_shape hb with ⟨j, u, rfl, e⟩ | ⟨y, u, rfl, e⟩
      · injection e with e1 _; rw [e1]
      · exact nomatch e
    · rcases keyIs_shape hb with ⟨j, u, rfl, e⟩ | ⟨y, u, rfl, e⟩
      · exact nomatch e
      · injection e with e1 _; rw [e1]
  byValue := fun k v h => by
    rcases keyIs_shape h with ⟨i, t, rfl, rfl⟩ | ⟨x, t, rfl, rfl⟩ <;> rfl
  pyHash := fun hv h => by
    rcases keyIs_shape hv with ⟨i, t, rfl, rfl⟩ | ⟨x, t, rfl, rfl⟩
    · exact wpAny_pyHash_int h
    · exact wpAny_pyHash_str h
  eqBool := fun hu hv h => by
    rcases keyIs_shape hu with ⟨i, t, rfl, rfl⟩ | ⟨x, t, rfl, rfl⟩
    · rcases keyIs_shape hv with ⟨j, u, rfl, rfl⟩ | ⟨y, u, rfl, rfl⟩
      · rw [key_ll] at h; exact wpAny_eqBool_int h
      · rw [key_lr] at h; exact SeqAt.EqAt.int_str i t y u _ _ _ _ h
    · rcases keyIs_shape hv with ⟨j, u, rfl, rfl⟩ | ⟨y, u, rfl, rfl⟩
      · rw [key_rl] at h; exact SeqAt.EqAt.str_int x t j u _ _ _ _ h
      · rw [key_rr] at h; exact wpAny_eqBool_str h
  «strs» := fun k x t v h => by
    rcases keyIs_shape h with ⟨i, u, rfl, e⟩ | ⟨y, u, rfl, e⟩
    · exact nomatch e
    · injection e with e1 _
      subst e1
      cases v <;> rfl
end L2
namespace L2
open PySem PySem.Spec PyProof.Rows
inductive V where
  | non | bl (b : Bool) | int (i : Int) | str (x : Str) | byt (b : Array UInt8) | flt (b : UInt64) | ref (a : Addr) | ty (n : String)
  deriving DecidableEq
def RelV : V → Value → Prop
  | .non, u => u = Value.none
  | .bl b, u => u = Value.bool b
  | .int i, u => ∃ t, u = Value.int i t
  | .str x, u => ∃ t, u = Value.str x t
  | .byt b, u => ∃ t, u = Value.bytes b t
  | .flt b, u => ∃ t, u = Value.float b t
  | .ref a, u => u = Value.ref a
  | .ty n, u => u = Value.type n
abbrev Vals : List V → List Value → Prop := Paired RelV
theorem Vals.length {xs : List V} {us : List Value} (r : Vals xs us) : xs.length = us.length := Paired.length r
theorem Vals.get : ∀ {xs : List V} {us : List Value} {i : Nat} {x : V}, Vals xs us → xs[i]? = some x → ∃ u, us[i]? = some u ∧ RelV x u
  | _, _, _, _, .nil, e => by simp at e
  | _, _, 0, _, .cons r _, e => by simp at e; subst e; exact ⟨_, rfl, r⟩
  | _, _, i + 1, x, .cons _ t, e => by
    obtain ⟨u, h1, h2⟩ := Vals.get (i := i) (x := x) t (by simpa using e)
    exact ⟨u, by simpa using h1, h2⟩
theorem Vals.set {x : V} {u : Value} (r : RelV x u) : ∀ {xs : List V} {us : List Value} (i : Nat), Vals xs us → Vals (xs.set i x) (us.set i u)
  | _, _, _, .nil => .nil
  | _, _, 0, .cons _ t => .cons r t
  | _, _, i + 1, .cons q t => .cons q (Vals.set r i t)
theorem Vals.append : ∀ {xs ys : List V} {us ws : List Value}, Vals xs us → Vals ys ws → Vals (xs ++ ys) (us ++ ws)
  | _, _, _, _, .nil, s => s
  | _, _, _, _, .cons r t, s => .cons r (Vals.append t s)
theorem Vals.take : ∀ {xs : List V} {us : List Value} (n : Nat), Vals xs us → Vals (xs.take n) (us.take n)
  | _, _, 0, _ => .nil
  | _, _, _ + 1, .nil => .nil
  | _, _, n + 1, .cons r t => .cons r (Vals.take n t)
theorem Vals.drop : ∀ {xs : List V} {us : List Value} (n : Nat), Vals xs us → Vals (xs.drop n) (us.drop n)
  | _, _, 0, r => r
  | _, _, _ + 1, .nil => .nil
  | _, _, n + 1, .cons _ t => Vals.drop n t
def RelO : Option V → Option Value → Prop
  | some v, some u => RelV v u
  | none, none => True
  | _, _ => False
def KV {κ : Type} : List (κ × V) → List (κ × Value) → Prop := Paired fun (p : κ × V) (q : κ × Value) => p.1 = q.1 ∧ RelV p.2 q.2
def kV : Key → V
  | .inl i => .int i
  | .inr x => .str x
inductive HO where
  | lst (xs : List V)
  | tup (xs : List V)
  | dK (kvs : List (Key × V)) | dT (kvs : List (List Key × V))
  | set (S : Int → Bool) (n : Nat)
  | ins (C dx : Addr) (fs : List (Str × V))
  | own (x : Addr)
  | xd (fs : List (Str × V))
  | met (f x : Addr)
  | rng (lo hi : Int)
  | frz (o : Obj) (u : HO)
  | tbl (ps : Array Value)
  | ext (φ : Heap → Prop)
abbrev Hp := Addr → Option HO
def upd (H : Hp) (a : Addr) (o : HO) : Hp := fun b => if b = a then some o else H b
theorem upd_same {H : Hp} {a : Addr} {o : HO} : upd H a o a = some o := by unfold upd; rw [if_pos rfl]
theorem upd_ne {H : Hp} {a b : Addr} {o : HO} (h : b ≠ a) : upd H a o b = H b := by unfold upd; rw [if_neg h]
theorem upd_upd {H : Hp} {a : Addr} {o u : HO} : upd (upd H a o) a u = upd H a u := by
  funext b; unfold upd; split <;> rfl
theorem ne_of_none {H : Hp} {a b : Addr} {o : HO} (h : H a = some o) (h' : H b = none) : a ≠ b := by
  intro e; subst e; rw [h] at h'; cases h'
section
variable (P : Program) (w : World)
def ObjOk (H : Hp) (h : Heap) (a : Addr) : HO → Prop
  | .lst xs => xs.length ≤ sizeLine ∧ ∃ (its : List Value) (n : Nat), Vals xs its ∧ h.get? a = some { cls := .type "list", data := .seq its.toArray n }
  | .tup xs => xs.length ≤ sizeLine ∧ ∃ its : List Value, Vals xs its ∧ IsTup h a its.toArray
  | .dK kvs => kvs.length ≤ sizeLine ∧ (a == sysModules) = false ∧ ∃ vs, KV kvs vs ∧ h.DictOf (mixKind P w) a vs
  | .dT kvs => kvs.length ≤ sizeLine ∧ (a == sysModules) = false ∧ ∃ xs : List (List Key × Addr × Value),
      Paired (fun (p : List Key × V) (q : List Key × Addr × Value) => p.1 = q.1 ∧ H q.2.1 = some (.tup (p.1.map kV)) ∧ RelV p.2 q.2.2) kvs xs ∧
      ∃ o es ep, h.get? a = some o ∧ o.ExactDict ∧ o.data = .dict es ep ∧ es.toList = xs.map (entryOfKey (tupleKind (mixKind P w))) ∧ (xs.map (·.1)).Nodup
  | .set S n => h.SetOf (intKind P w) a S n
  | .ins C dx fs => H dx = some (.own a) ∧ fs.length ≤ 1000 ∧ dx ≠ a ∧ h.get? a = some (PySem.W.instObj C dx) ∧
      ∃ mA, h.Ns1 dx mA ∧ (∀ f, RelO (fs.lookup f) (mA f)) ∧ PySem.Within mA (fs.map (·.1))
  | .own _ => ∃ o, h.get? a = some o
  | .xd fs => ∃ mA, h.Ns1 a mA ∧ ∀ f, RelO (fs.lookup f) (mA f)
  | .rng lo hi => ∃ t u v, h.get? a = some { cls := .type "range", data := .fields #[.int lo t, .int hi u, .int 1 v] }
  | .frz o u => h.get? a = some o ∧ ObjOk H h a u
  | .tbl ps => h.get? a = some { cls := .none, data := .fields ps }
  | .met f x => h.get? a = some (PySem.W.methodObj (.ref f) (.ref x))
  | .ext φ => φ h ∧ (∃ o, h.get? a = some o) ∧ ∀ h1 h2 : Heap, φ h1 → (∀ o, h1.get? a = some o → h2.get? a = some o) → φ h2
def HOk (H : Hp) (h : Heap) : Prop := ∀ a o, H a = some o → ObjOk P w H h a o
end
section
variable {P : Program} {w : World} {H H' : Hp} {h h' : Heap} {a : Addr} {o : HO}
theorem ObjOk.lt (x : ObjOk P w H h a o) : a < h.objs.size := by
  cases o with
  | lst xs => obtain ⟨_, _, _, _, e⟩ := x; exact Heap.lt_size e
  | tup xs => obtain ⟨_, _, _, p⟩ := x; exact p.lt
  | dK kvs => obtain ⟨_, _, _, _, o, _, _, e, _⟩ := x; exact Heap.lt_size e
  | dT kvs => obtain ⟨_, _, _, _, o, _, _, e, _⟩ := x; exact Heap.lt_size e
  | set S n => obtain ⟨o, _, _, _, e, _⟩ := x; exact Heap.lt_size e
  | ins C dx fs => obtain ⟨_, _, _, e, _⟩ := x; exact Heap.lt_size e
  | own y => obtain ⟨_, e⟩ := x; exact Heap.lt_size e
  | xd fs => obtain ⟨_, ⟨_, _, _, e, _⟩, _⟩ := x; exact Heap.lt_size e
  | rng lo hi => obtain ⟨_, _, _, e⟩ := x; exact Heap.lt_size e
  | frz ob u => obtain ⟨e, _⟩ := x; exact Heap.lt_size e
  | tbl ps => exact Heap.lt_size (show h.get? a = some _ from x)
  | met f y => exact Heap.lt_size (show h.get? a = some _ from x)
  | ext φ => obtain ⟨_, ⟨_, e⟩, _⟩ := x; exact Heap.lt_size e
theorem Paired.mapP {α β : Type} {F G : α → β → Prop} : ∀ {l₁ : List α} {l₂ : List β}, Paired F l₁ l₂ → (∀ a b, F a b → G a b) → Paired G l₁ l₂
  | _, _, .nil, _ => .nil
  | _, _, .cons r t, f => .cons (f _ _ r) (Paired.mapP t f)
theorem ObjOk.stay (x : ObjOk P w H h a o) (k : ∀ b u, (b = a ∨ H b = some (.own a)) → h.get? b = some u → h'.get? b = some u)
    (ho : ∀ b, H b = some (.own a) → H' b = some (.own a)) (ht : ∀ b xs, H b = some (.tup xs) → H' b = some (.tup xs)) : ObjOk P w H' h' a o := by
  induction o with
  | lst xs => obtain ⟨z, its, n, r, e⟩ := x; exact ⟨z, its, n, r, k _ _ (.inl rfl) e⟩
  | tup xs => obtain ⟨z, its, r, ob, e, c⟩ := x; exact ⟨z, its, r, ob, k _ _ (.inl rfl) e, c⟩
  | dK kvs => obtain ⟨z, y, vs, r, ob, es, ep, e, c⟩ := x; exact ⟨z, y, vs, r, ob, es, ep, k _ _ (.inl rfl) e, c⟩
  | dT kvs =>
    obtain ⟨z, y, xs, r, ob, es, ep, e, c⟩ := x
    exact ⟨z, y, xs, Paired.mapP r fun p q z => ⟨z.1, ht _ _ z.2.1, z.2.2⟩, ob, es, ep, k _ _ (.inl rfl) e, c⟩
  | set S n => obtain ⟨ob, es, ep, t, e, c⟩ := x; exact ⟨ob, es, ep, t, k _ _ (.inl rfl) e, c⟩
  | ins C dx fs =>
    obtain ⟨d, z, ne, e, mA, ⟨od, es, ep, e2, c⟩, r⟩ := x
    exact ⟨ho _ d, z, ne, k _ _ (.inl rfl) e, mA, ⟨od, es, ep, k _ _ (.inr d) e2, c⟩, r⟩
  | own y => obtain ⟨ob, e⟩ := x; exact ⟨ob, k _ _ (.inl rfl) e⟩
  | xd fs => obtain ⟨mA, ⟨od, es, ep, e, c⟩, r⟩ := x; exact ⟨mA, ⟨od, es, ep, k _ _ (.inl rfl) e, c⟩, r⟩
  | rng lo hi => obtain ⟨t, u, v, e⟩ := x; exact ⟨t, u, v, k _ _ (.inl rfl) e⟩
  | frz ob u ih => obtain ⟨e, q⟩ := x; exact ⟨k _ _ (.inl rfl) e, ih q⟩
  | tbl ps =>
    have e : h.get? a = some { cls := .none, data := .fields ps } := x
    show h'.get? a = some { cls := .none, data := .fields ps }
    exact k a _ (.inl rfl) e
  | met f y =>
    have e : h.get? a = some (PySem.W.methodObj (.ref f) (.ref y)) := x
    show h'.get? a = some (PySem.W.methodObj (.ref f) (.ref y))
    exact k a _ (.inl rfl) e
  | ext φ => obtain ⟨p, ⟨o, e⟩, st⟩ := x; exact ⟨st _ _ p fun o q => k _ _ (.inl rfl) q, ⟨o, k _ _ (.inl rfl) e⟩, st⟩
theorem HOk.lt (x : HOk P w H h) (e : H a = some o) : a < h.objs.size := (x a o e).lt
theorem HOk.fresh (x : HOk P w H h) (e : h.objs.size ≤ a) : H a = none := by
  cases q : H a with
  | none => rfl
  | some u => exact absurd (Nat.lt_of_lt_of_le (x.lt q) e) (Nat.lt_irrefl _)
theorem HOk.kept (x : HOk P w H h) (k : ∀ b u, h.get? b = some u → h'.get? b = some u) : HOk P w H h' := fun a o e =>
  (x a o e).stay (fun b u _ q => k b u q) (fun _ q => q) fun _ _ q => q
theorem HOk.laid (x : HOk P w H h) (k : ∀ b u, h.get? b = some u → h'.get? b = some u) (hp : h.objs.size ≤ a) (new : ObjOk P w (upd H a o) h' a o) : HOk P w (upd H a o) h' := fun b u e => by
  have hn := x.fresh hp
  by_cases hb : b = a
  · subst hb; rw [upd_same] at e; cases e; exact new
  · rw [upd_ne hb] at e
    exact (x b u e).stay (fun c v _ q => k c v q) (fun c q => by rw [upd_ne (ne_of_none q hn)]; exact q) fun c xs q => by rw [upd_ne (ne_of_none q hn)]; exact q
end
def Rd (H : Hp) (a : Addr) (u : HO) : Prop := H a = some u ∨ ∃ o, H a = some (.frz o u)
theorem Rd.of {H : Hp} {a : Addr} {u : HO} (h : H a = some u) : Rd H a u := .inl h
theorem Rd.ok {P : Program} {w : World} {H : Hp} {h : Heap} {a : Addr} {u : HO} (r : Rd H a u) (x : HOk P w H h) : ObjOk P w H h a u := by
  rcases r with r | ⟨o, r⟩
  · exact x a u r
  · obtain ⟨_, q⟩ := x a _ r
    exact q
def Mut : Option HO → Prop
  | some (.lst _) => True
  | some (.dK _) => True
  | some (.dT _) => True
  | some (.set _ _) => True
  | some (.ins _ _ _) => True
  | some (.ext _) => True
  | _ => False
section
variable {P : Program} {w : World} {H : Hp} {h h' : Heap} {x e : Addr} {o' : HO}
theorem HOk.write (ok : HOk P w H h) (mu : Mut (H x)) (he : e = x ∨ H e = some (.own x)) (k : ∀ b u, b ≠ e → h.get? b = some u → h'.get? b = some u) (heo : ∃ u, h'.get? e = some u)
    (new : ObjOk P w (upd H x o') h' x o') : HOk P w (upd H x o') h' := fun b u q => by
  have nown : ∀ c y, H c = some (.own y) → c ≠ x := fun c y r z => by subst z; rw [r] at mu; exact mu
  have ntup : ∀ c xs, H c = some (.tup xs) → c ≠ x := fun c xs r z => by subst z; rw [r] at mu; exact mu
  by_cases hb : b = x
  · subst hb; rw [upd_same] at q; cases q; exact new
  · rw [upd_ne hb] at q
    by_cases hbe : b = e
    · have q' : H b = some (.own x) := by
        rcases he with z | z
        · exact absurd (hbe.trans z) hb
        · rw [hbe]; exact z
      rw [q] at q'; cases q'
      obtain ⟨v, hv⟩ := heo
      exact ⟨v, by rw [hbe]; exact hv⟩
    · refine (ok b u q).stay (fun c v hc r => k c v ?_ r) (fun c r => by rw [upd_ne (nown c b r)]; exact r) fun c xs r => by rw [upd_ne (ntup c xs r)]; exact r
      rcases hc with rfl | hc
      · exact hbe
      · rintro rfl
        rcases he with z | z
        · exact nown c b hc z
        · rw [hc] at z; cases z; exact hb rfl
end
structure Un (fs ex : List Addr) (H H' : Hp) (h h' : Heap) : Prop where
  keep : ∀ b o, h.get? b = some o → H b = none → b ∉ fs → b ∉ ex → h'.get? b = some o
  slot : ∀ b o, h.get? b = some o → H b = none → b ∈ fs → b ∉ ex → ∃ sl, h'.get? b = some { o with slots := sl }
  free : ∀ b o, h.get? b = some o → H b = none → b ∉ ex → H' b = none
  there : ∀ b o, h.get? b = some o → b ∉ ex → ∃ o', h'.get? b = some o'
  tups : ∀ b xs, H b = some (.tup xs) → H' b = some (.tup xs)
  frzs : ∀ b o u, H b = some (.frz o u) → H' b = some (.frz o u)
  tbls : ∀ b ps, H b = some (.tbl ps) → ∃ more, H' b = some (.tbl (ps ++ more))
section
variable {fs fs' ex ex' : List Addr} {H H1 H2 : Hp} {h h1 h2 h' : Heap} {a x e : Addr} {o : HO}
theorem Un.any (u : Un fs ex H H1 h h1) {b : Addr} {ob : Obj} (q : h.get? b = some ob) (n : H b = none) (hx : b ∉ ex) : ∃ sl, h1.get? b = some { ob with slots := sl } := by
  by_cases hb : b ∈ fs
  · exact u.slot b ob q n hb hx
  · exact ⟨ob.slots, u.keep b ob q n hb hx⟩
theorem Un.trans (a : Un fs ex H H1 h h1) (b : Un fs ex H1 H2 h1 h2) : Un fs ex H H2 h h2 where
  keep := fun c ob q n hc hx => b.keep c ob (a.keep c ob q n hc hx) (a.free c ob q n hx) hc hx
  slot := fun c ob q n hc hx => by
    obtain ⟨sl, e1⟩ := a.slot c ob q n hc hx
    obtain ⟨sl', e2⟩ := b.slot c _ e1 (a.free c ob q n hx) hc hx
    exact ⟨sl', e2⟩
  free := fun c ob q n hx => by
    obtain ⟨o', e1⟩ := a.there c ob q hx
    exact b.free c o' e1 (a.free c ob q n hx) hx
  there := fun c ob q hx => by
    obtain ⟨o', e1⟩ := a.there c ob q hx
    exact b.there c o' e1 hx
  tups := fun c xs q => b.tups c xs (a.tups c xs q)
  frzs := fun c ob xs q => b.frzs c ob xs (a.frzs c ob xs q)
  tbls := fun c ps q => by
    obtain ⟨m1, e1⟩ := a.tbls c ps q
    obtain ⟨m2, e2⟩ := b.tbls c _ e1
    exact ⟨m1 ++ m2, by rw [e2, Array.append_assoc]⟩
theorem Un.kept (k : ∀ b u, h.get? b = some u → h'.get? b = some u) : Un fs ex H H h h' :=
  ⟨fun b ob q _ _ _ => k b ob q, fun b ob q _ _ _ => ⟨ob.slots, k b ob q⟩, fun _ _ _ n _ => n, fun b ob q _ => ⟨ob, k b ob q⟩, fun _ _ q => q, fun _ _ _ q => q, fun _ ps q => ⟨#[], by rw [q]; simp⟩⟩
theorem Un.refl : Un fs ex H H h h := Un.kept fun _ _ q => q
theorem Un.laid (k : ∀ b u, h.get? b = some u → h'.get? b = some u) (hp : h.objs.size ≤ a) (hn : H a = none) : Un fs ex H (upd H a o) h h' where
  keep := fun b u q _ _ _ => k b u q
  slot := fun b u q _ _ _ => ⟨u.slots, k b u q⟩
  free := fun b u q n _ => by rw [upd_ne (Nat.ne_of_lt (Nat.lt_of_lt_of_le (Heap.lt_size q) hp))]; exact n
  there := fun b u q _ => ⟨u, k b u q⟩
  tups := fun b xs q => by rw [upd_ne (ne_of_none q hn)]; exact q
  frzs := fun b u xs q => by rw [upd_ne (ne_of_none q hn)]; exact q
  tbls := fun b ps q => ⟨#[], by rw [upd_ne (ne_of_none q hn), q]; simp⟩
theorem Un.write (mu : Mut (H x)) (he : e = x ∨ H e = some (.own x)) (k : ∀ b u, b ≠ e → h.get? b = some u → h'.get? b = some u) (heo : ∃ u, h'.get? e = some u) : Un fs ex H (upd H x o) h h' := by
  have hx : ∀ b, H b = none → b ≠ x := fun b n z => by subst z; rw [n] at mu; exact mu
  have hb : ∀ b, H b = none → b ≠ e := fun b n z => by
    subst z
    rcases he with r | r
    · exact hx b n r
    · rw [n] at r; cases r
  have hm : ∀ b u, H b = some u → ¬ Mut (some u) → b ≠ x := fun b u q nm z => by subst z; rw [q] at mu; exact nm mu
  refine ⟨fun b u q n _ _ => k b u (hb b n) q, fun b u q n _ _ => ⟨u.slots, k b u (hb b n) q⟩, fun b u q n _ => by rw [upd_ne (hx b n)]; exact n, fun b u q _ => ?_,
    fun b xs q => by rw [upd_ne (hm b _ q fun z => z)]; exact q, fun b u xs q => by rw [upd_ne (hm b _ q fun z => z)]; exact q, fun b ps q => ⟨#[], by rw [upd_ne (hm b _ q fun z => z), q]; simp⟩⟩
  by_cases hbe : b = e
  · subst hbe; exact heo
  · exact ⟨u, k b u hbe q⟩
end
def trk (h : Heap) (H : Hp) : List Addr := (List.range h.objs.size).filter fun a => (H a).isSome
def hidT (h : Heap) (H : Hp) : Heap := PySem.W.hideAll h (trk h H)
theorem hidT_size (h : Heap) (H : Hp) : (hidT h H).objs.size = h.objs.size := PySem.W.hideAll_size _ _
theorem hidT_get {h : Heap} {H : Hp} {b : Addr} {o : Obj} (e : h.get? b = some o) (n : H b = none) : (hidT h H).get? b = some o :=
  PySem.W.hideAll_get _ e fun hm => by
    have q : (H b).isSome = true := (List.mem_filter.mp hm).2
    rw [n] at q; simp at q
theorem of_hidT {h : Heap} {H : Hp} {b : Addr} {o : Obj} (e : (hidT h H).get? b = some o) : h.get? b = some o ∧ H b = none := by
  have e' : h.get? b = some o := PySem.W.of_hideAll (trk h H) e
  refine ⟨e', ?_⟩
  cases q : H b with
  | none => rfl
  | some x =>
    have hm : b ∈ trk h H := List.mem_filter.mpr ⟨List.mem_range.mpr (Heap.lt_size e'), by simp [q]⟩
    have z : (hidT h H).get? b = none := PySem.W.hideAll_none (trk h H) hm
    rw [z] at e; cases e
end L2
namespace L2
open PySem PySem.Spec PyProof.Rows
structure Mod (K : PySem.W.Frag) (mg : Str → Option Value) (base : Heap) : Prop where
  kin : K.In base
  glob : base.Ns mainGlobals mg
  blt : ∃ mb, base.Ns builtinsNs mb ∧ ∀ x : Str, x ≠ "__name__" → mb x = bootBuiltins x
  nolimit : base.NoLimit
structure Cx where
  prog : Program
  w : World
  K : PySem.W.Frag
  mg : Str → Option Value
  base : Heap
  A : Around
  N : List Str
  s₀ : Shared
  H₀ : Hp
  env : Env
  outer : List Env
  stack : List Env
  ex : List Addr
  fn : Str → Bool
  calm : Bool
  pn : List (Addr × Obj)
  xe : Value → Shared → Prop
def frs (l : List Env) : List Addr := l.filterMap (·.frame)
abbrev Cx.fs (X : Cx) : List Addr := frs X.outer
def Vis (sc : Scope) (x : Str) : Prop := sc.names.lookup x = some .local ∨ sc.names.lookup x = some .cell ∨ sc.names.lookup x = some .free
def Loc (sc : Scope) (x : Str) : Prop := sc.names.lookup x = some .local ∨ sc.names.lookup x = some .cell
def Look (env : Env) (h : Heap) (m : Str → Option Value) (x : Str) (u : Value) : Prop :=
  (env.kindOf x = some .local ∧ m x = some u) ∨ ((env.kindOf x = some .cell ∨ env.kindOf x = some .free) ∧ ∃ c, env.cells.lookup x = some c ∧ h.IsCell c (some u))
structure Cx.Ok (X : Cx) : Prop where
  mod : Mod X.K X.mg X.base
  kind : X.env.scope.kind = .function
  glob : X.env.globals = mainGlobals
  blt : X.env.builtins = builtinsNs
  above : X.s₀.heap.objs.size ≤ X.env.locals
  inj : ∀ x y c, X.env.cells.lookup x = some c → X.env.cells.lookup y = some c → x = y
  has : ∀ x, (X.env.kindOf x = some .cell ∨ X.env.kindOf x = some .free) → ∃ c, X.env.cells.lookup x = some c
  cab : ∀ x c, X.fn x = true → X.env.cells.lookup x = some c → X.s₀.heap.objs.size ≤ c
  hd : X.calm = true → X.A.handled = none
  frames : X.A.frames = some X.stack
  stk : X.stack = X.outer ∨ (X.stack = X.env :: X.outer ∧ X.env.frame = some X.env.locals)
  exf : ∀ b ∈ X.ex, b ≠ X.env.locals ∧ ∀ x c, X.env.cells.lookup x = some c → c ≠ b
  bs : ∀ b o, X.base.get? b = some o → X.s₀.heap.get? b = some o ∧ X.H₀ b = none
  bsz : X.base.objs.size ≤ X.s₀.heap.objs.size
  noex : ∀ b o, X.base.get? b = some o → b ∉ X.ex
  exfs : ∀ b ∈ X.ex, b ∉ X.fs
  funs : X.s₀.heap.FunFrames X.base X.outer
  frf : ∀ b ∈ X.fs, X.H₀ b = none
structure Inv (X : Cx) (pins : List (Addr × Obj)) (σ : List (Option V)) (H : Hp) (s : Shared) : Prop where
  ok : X.Ok
  os : s.os = X.s₀.os
  bare : AllBare s.gens
  base : Un X.fs X.ex X.H₀ H X.s₀.heap s.heap
  loc : ∃ m, s.heap.Ns X.env.locals m ∧ ∀ (i : Nat) (x : Str) (v : V), X.N[i]? = some x → σ[i]? = some (some v) → Vis X.env.scope x → ∃ u, RelV v u ∧ Look X.env s.heap m x u
  cell : ∀ x c, X.env.cells.lookup x = some c → ∃ v, s.heap.IsCell c v
  free : H X.env.locals = none
  freeC : ∀ x c, X.env.cells.lookup x = some c → H c = none
  pin : ∀ p ∈ X.pn ++ pins, s.heap.get? p.1 = some p.2 ∧ H p.1 = none ∧ p.1 ≠ X.env.locals ∧ p.1 ∉ X.fs ∧ ∀ v, p.2.data ≠ .cell v
  hok : HOk X.prog X.w H s.heap
  len : σ.length = X.N.length
section
variable {X : Cx} {pins : List (Addr × Obj)} {σ : List (Option V)} {H H' : Hp} {s : Shared} {h' : Heap}
theorem Cx.Ok.nofr (ok : X.Ok) {b : Addr} {o : Obj} (e : X.base.get? b = some o) : b ∉ X.fs := fun hb => by
  have := (ok.funs.mem hb).1
  rw [e] at this; cases this
theorem Inv.bs (I : Inv X pins σ H s) : ∀ b o, X.base.get? b = some o → s.heap.get? b = some o ∧ H b = none := fun b o e =>
  ⟨I.base.keep b o (I.ok.bs b o e).1 (I.ok.bs b o e).2 (I.ok.nofr e) (I.ok.noex b o e), I.base.free b o (I.ok.bs b o e).1 (I.ok.bs b o e).2 (I.ok.noex b o e)⟩
theorem Inv.bk (I : Inv X pins σ H s) : ∀ b o, X.base.get? b = some o → s.heap.get? b = some o := fun b o e => (I.bs b o e).1
theorem Inv.mod (I : Inv X pins σ H s) : Mod X.K X.mg X.base := I.ok.mod
theorem Inv.kIn (I : Inv X pins σ H s) : X.K.In s.heap := I.ok.mod.kin.keeps I.bk
theorem Inv.lt (I : Inv X pins σ H s) : X.env.locals < s.heap.objs.size := let ⟨_, hn, _⟩ := I.loc; hn.lt
theorem Inv.sz (I : Inv X pins σ H s) : X.s₀.heap.objs.size ≤ s.heap.objs.size := Nat.le_trans I.ok.above (Nat.le_of_lt I.lt)
theorem Inv.nofs (I : Inv X pins σ H s) {a : Addr} (h : s.heap.objs.size ≤ a) : a ∉ X.fs := fun hb => by
  obtain ⟨_, o, ho, _⟩ := I.ok.funs.mem hb
  exact absurd (Nat.lt_of_lt_of_le (Heap.lt_size ho) (Nat.le_trans I.sz h)) (Nat.lt_irrefl _)
theorem Inv.cne (I : Inv X pins σ H s) : ∀ x c, X.env.cells.lookup x = some c → c ≠ X.env.locals := fun x c e z => by
  obtain ⟨v, o, ho, hd⟩ := I.cell x c e
  obtain ⟨m, ⟨o', es, ep, ho', hd', _⟩, _⟩ := I.loc
  rw [z, ho'] at ho; cases ho; rw [hd'] at hd; cases hd
theorem Inv.funs (I : Inv X pins σ H s) : s.heap.FunFrames X.base X.outer := by
  have all : ∀ (l : List Env), (∀ b ∈ frs l, b ∈ X.fs) → X.s₀.heap.FunFrames X.base l → s.heap.FunFrames X.base l := by
    intro l
    induction l with
    | nil => intro _ _; trivial
    | cons env r ih =>
      intro hs hl
      obtain ⟨hk, ⟨L, o, hf, hn, ho, hd⟩, hr⟩ := hl
      have hL : L ∈ X.fs := hs L (by unfold frs; rw [List.filterMap_cons, hf]; exact List.mem_cons_self)
      obtain ⟨sl, e⟩ := I.base.slot L o ho (I.ok.frf L hL) hL fun z => I.ok.exfs L z hL
      exact ⟨hk, ⟨L, _, hf, hn, e, hd⟩, ih (fun b hb => hs b (by unfold frs; rw [List.filterMap_cons, hf]; exact List.mem_cons_of_mem _ hb)) hr⟩
  exact all X.outer (fun _ hb => hb) I.ok.funs
theorem Inv.stack (I : Inv X pins σ H s) : s.heap.FunFrames X.base X.stack := by
  rcases I.ok.stk with e | ⟨e, hf⟩
  · rw [e]; exact I.funs
  · rw [e]
    obtain ⟨m, hn, _⟩ := I.loc
    refine .cons (by rw [I.ok.kind]; decide) hf hn ?_ I.funs
    exact Heap.get?_none_of_le (Nat.le_trans I.ok.bsz I.ok.above)
theorem Inv.stkSub (I : Inv X pins σ H s) : ∀ b ∈ frs X.stack, b ∈ X.env.locals :: X.fs := fun b hb => by
  rcases I.ok.stk with e | ⟨e, hf⟩
  · rw [e] at hb; exact List.mem_cons_of_mem _ hb
  · rw [e] at hb
    unfold frs at hb
    rw [List.filterMap_cons, hf] at hb
    exact hb
theorem Inv.stkFree (I : Inv X pins σ H s) : ∀ b ∈ frs X.stack, H b = none := fun b hb => by
  rcases List.mem_cons.mp (I.stkSub b hb) with e | hb
  · rw [e]; exact I.free
  · obtain ⟨_, o, ho, _⟩ := I.ok.funs.mem hb
    exact I.base.free b o ho (I.ok.frf b hb) fun z => I.ok.exfs b z hb
theorem Inv.step {g' : Array GenState} {t' : Nat} {d' : Drawn} {ch : List Addr} (I : Inv X pins σ H s)
    (hch : ∀ b ∈ ch, (b ∈ X.ex ∨ X.s₀.heap.objs.size ≤ b) ∧ b ≠ X.env.locals ∧ (∀ x c, X.env.cells.lookup x = some c → c ≠ b) ∧ ∀ p ∈ X.pn ++ pins, p.1 ≠ b)
    (keep : ∀ b o, b ≠ X.env.locals → b ∉ X.fs → b ∉ ch → s.heap.get? b = some o → H b = none → h'.get? b = some o)
    (slot : ∀ b o, b ≠ X.env.locals → b ∈ X.fs → b ∉ ch → s.heap.get? b = some o → H b = none → ∃ sl, h'.get? b = some { o with slots := sl }) (free : ∀ b o, b ∉ ch → s.heap.get? b = some o → H b = none → H' b = none)
    (there : ∀ b o, b ∉ ch → s.heap.get? b = some o → ∃ o', h'.get? b = some o')
    (tups : ∀ b xs, H b = some (.tup xs) → H' b = some (.tup xs)) (frzs : ∀ b o u, H b = some (.frz o u) → H' b = some (.frz o u)) (tbls : ∀ b ps, H b = some (.tbl ps) → ∃ more, H' b = some (.tbl (ps ++ more)))
    (ns : ∀ m, s.heap.Ns X.env.locals m → h'.Ns X.env.locals m) (hok : HOk X.prog X.w H' h') (hg : AllBare g') :
    Inv X pins σ H' { s with heap := h', gens := g', drawn := d', toks := t' } := by
  have neL : ∀ b o, X.s₀.heap.get? b = some o → b ≠ X.env.locals := fun b o e => Nat.ne_of_lt (Nat.lt_of_lt_of_le (Heap.lt_size e) I.ok.above)
  have neC : ∀ b o, X.s₀.heap.get? b = some o → b ∉ X.ex → b ∉ ch := fun b o e hx hb => by
    rcases (hch b hb).1 with z | z
    · exact hx z
    · exact absurd (Nat.lt_of_lt_of_le (Heap.lt_size e) z) (Nat.lt_irrefl _)
  have cellK : ∀ x c, X.env.cells.lookup x = some c → ∀ v, s.heap.IsCell c v → h'.IsCell c v := fun x c e v ⟨o, ho, hd⟩ => by
    have nch : c ∉ ch := fun z => (hch c z).2.2.1 x c e rfl
    by_cases hc : c ∈ X.fs
    · obtain ⟨sl, q⟩ := slot c o (I.cne x c e) hc nch ho (I.freeC x c e)
      exact ⟨_, q, hd⟩
    · exact ⟨o, keep c o (I.cne x c e) hc nch ho (I.freeC x c e), hd⟩
  refine ⟨I.ok, I.os, hg, ⟨fun b o e n hb hx => ?_, fun b o e n hb hx => ?_, fun b o e n hx => ?_, fun b o e hx => ?_, fun b xs e => tups b xs (I.base.tups b xs e), fun b o xs e => frzs b o xs (I.base.frzs b o xs e), fun b ps e => ?_⟩, ?_, fun x c e => ?_, ?_, fun x c e => ?_, fun p hp => ?_, hok, I.len⟩
  · exact keep b o (neL b o e) hb (neC b o e hx) (I.base.keep b o e n hb hx) (I.base.free b o e n hx)
  · obtain ⟨sl, e1⟩ := I.base.slot b o e n hb hx
    obtain ⟨sl', e2⟩ := slot b _ (neL b o e) hb (neC b o e hx) e1 (I.base.free b o e n hx)
    exact ⟨sl', e2⟩
  · obtain ⟨o', e1⟩ := I.base.there b o e hx
    exact free b o' (neC b o e hx) e1 (I.base.free b o e n hx)
  · obtain ⟨o', e1⟩ := I.base.there b o e hx
    exact there b o' (neC b o e hx) e1
  · obtain ⟨m1, e1⟩ := I.base.tbls b ps e
    obtain ⟨m2, e2⟩ := tbls b _ e1
    exact ⟨m1 ++ m2, by rw [e2, Array.append_assoc]⟩
  · obtain ⟨m, hn, hl⟩ := I.loc
    refine ⟨m, ns m hn, fun i x v e1 e2 e3 => ?_⟩
    obtain ⟨u, r, l⟩ := hl i x v e1 e2 e3
    refine ⟨u, r, ?_⟩
    rcases l with l | ⟨k, c, e, z⟩
    · exact .inl l
    · exact .inr ⟨k, c, e, cellK x c e _ z⟩
  · obtain ⟨v, z⟩ := I.cell x c e
    exact ⟨v, cellK x c e v z⟩
  · obtain ⟨m, ⟨o, _, _, ho, _⟩, _⟩ := I.loc
    exact free _ o (fun z => (hch _ z).2.1 rfl) ho I.free
  · obtain ⟨v, o, ho, hd⟩ := I.cell x c e
    exact free c o (fun z => (hch c z).2.2.1 x c e rfl) ho (I.freeC x c e)
  · obtain ⟨e, n, ne, nf, d⟩ := I.pin p hp
    have nch : p.1 ∉ ch := fun z => (hch p.1 z).2.2.2 p hp rfl
    exact ⟨keep p.1 p.2 ne nf nch e n, free p.1 p.2 nch e n, ne, nf, d⟩
theorem Inv.un {t' : Nat} (I : Inv X pins σ H s) (u : Un X.fs [] H H' s.heap h') (hok : HOk X.prog X.w H' h') : Inv X pins σ H' { s with heap := h', toks := t' } := by
  obtain ⟨m, ⟨o, es, ep, ho, r⟩, _⟩ := id I.loc
  obtain ⟨sl, hL⟩ := u.any ho I.free (by simp)
  exact I.step (g' := s.gens) (d' := s.drawn) (ch := []) (fun _ z => nomatch z) (fun b o _ hb _ e n => u.keep b o e n hb (by simp)) (fun b o _ hb _ e n => u.slot b o e n hb (by simp)) (fun b o _ e n => u.free b o e n (by simp)) (fun b o _ e => u.there b o e (by simp)) u.tups u.frzs u.tbls (fun m' hm => by
    obtain ⟨o', es', ep', ho', r'⟩ := hm
    rw [ho] at ho'; cases ho'
    exact ⟨_, es', ep', hL, r'⟩) hok I.bare
theorem Inv.call {g' : Array GenState} {t' : Nat} {d' : Drawn} {ch : List Addr} (I : Inv X pins σ H s) (u : Un (frs X.stack) ch H H' s.heap h') (hok : HOk X.prog X.w H' h') (hg : AllBare g')
    (hch : ∀ b ∈ ch, (b ∈ X.ex ∨ X.s₀.heap.objs.size ≤ b) ∧ b ≠ X.env.locals ∧ (∀ x c, X.env.cells.lookup x = some c → c ≠ b) ∧ ∀ p ∈ X.pn ++ pins, p.1 ≠ b) :
    Inv X pins σ H' { s with heap := h', gens := g', drawn := d', toks := t' } := by
  obtain ⟨m, ⟨o, es, ep, ho, r⟩, _⟩ := id I.loc
  obtain ⟨sl, hL⟩ := u.any ho I.free fun z => (hch _ z).2.1 rfl
  exact I.step (ch := ch) hch (fun b o hL hb hc e n => u.keep b o e n (fun z => (List.mem_cons.mp (I.stkSub b z)).elim hL hb) hc) (fun b o _ _ hc e n => u.any e n hc) (fun b o hc e n => u.free b o e n hc) (fun b o hc e => u.there b o e hc) u.tups u.frzs u.tbls (fun m' hm => by
    obtain ⟨o', es', ep', ho', r'⟩ := hm
    rw [ho] at ho'; cases ho'
    exact ⟨_, es', ep', hL, r'⟩) hok hg
theorem Inv.turned {t' : Nat} {it : Addr} (I : Inv X pins σ H s) (k : ∀ b o, b ≠ it → s.heap.get? b = some o → h'.get? b = some o) (hn : H it = none) (hL : it ≠ X.env.locals)
    (h1 : it ∈ X.ex ∨ X.s₀.heap.objs.size ≤ it) (h2 : ∀ x c, X.env.cells.lookup x = some c → c ≠ it) (h3 : ∀ p ∈ X.pn ++ pins, p.1 ≠ it) : Inv X pins σ H { s with heap := h', toks := t' } := by
  have nit : ∀ b u, H b = some u → b ≠ it := fun b u e z => by rw [z, hn] at e; cases e
  refine I.step (g' := s.gens) (d' := s.drawn) (ch := [it]) (fun b hb => ?_) (fun b o _ _ hc e _ => k b o (fun z => hc (by simp [z])) e) (fun b o _ _ hc e _ => ⟨o.slots, k b o (fun z => hc (by simp [z])) e⟩) (fun _ _ _ _ n => n)
    (fun b o hc e => ⟨o, k b o (fun z => hc (by simp [z])) e⟩) (fun _ _ e => e) (fun _ _ _ e => e) (fun b ps e => ⟨#[], by rw [e]; simp⟩) (fun m hm => ?_) (fun b u e => ?_) I.bare
  · have e : b = it := by simpa using hb
    subst e
    exact ⟨h1, hL, h2, h3⟩
  · obtain ⟨o, es, ep, ho, r⟩ := hm
    exact ⟨o, es, ep, k _ o (Ne.symm hL) ho, r⟩
  · refine (I.hok b u e).stay (fun c v hc q => k c v ?_ q) (fun _ q => q) fun _ _ q => q
    rcases hc with z | z
    · rw [z]; exact nit b u e
    · exact nit c _ z
theorem Inv.tok (I : Inv X pins σ H s) (t : Nat) : Inv X pins σ H { s with toks := t } := I.un (h' := s.heap) (t' := t) Un.refl I.hok
theorem Inv.kept {t' : Nat} (I : Inv X pins σ H s) (k : ∀ b u, s.heap.get? b = some u → h'.get? b = some u) : Inv X pins σ H { s with heap := h', toks := t' } := I.un (Un.kept k) (I.hok.kept k)
theorem Inv.laid {a : Addr} {o : HO} {t' : Nat} (I : Inv X pins σ H s) (k : ∀ b u, s.heap.get? b = some u → h'.get? b = some u) (hp : s.heap.objs.size ≤ a) (new : ObjOk X.prog X.w (upd H a o) h' a o) :
    Inv X pins σ (upd H a o) { s with heap := h', toks := t' } := I.un (Un.laid k hp (I.hok.fresh hp)) (I.hok.laid k hp new)
theorem Inv.write {x e : Addr} {o : HO} {t' : Nat} (I : Inv X pins σ H s) (mu : Mut (H x)) (he : e = x ∨ H e = some (.own x)) (k : ∀ b u, b ≠ e → s.heap.get? b = some u → h'.get? b = some u) (heo : ∃ u, h'.get? e = some u)
    (new : ObjOk X.prog X.w (upd H x o) h' x o) : Inv X pins σ (upd H x o) { s with heap := h', toks := t' } := I.un (Un.write mu he k heo) (I.hok.write mu he k heo new)
theorem Inv.pins_of {pins' : List (Addr × Obj)} (I : Inv X pins σ H s) (h : ∀ p ∈ pins', s.heap.get? p.1 = some p.2 ∧ H p.1 = none ∧ p.1 ≠ X.env.locals ∧ p.1 ∉ X.fs ∧ ∀ v, p.2.data ≠ .cell v) : Inv X pins' σ H s :=
  ⟨I.ok, I.os, I.bare, I.base, I.loc, I.cell, I.free, I.freeC, fun p hp => (List.mem_append.mp hp).elim (fun z => I.pin p (List.mem_append_left _ z)) (h p), I.hok, I.len⟩
theorem nodup_ix {N : List Str} (hN : N.Nodup) {i j : Nat} {x : Str} (a : N[i]? = some x) (b : N[j]? = some x) : i = j := by
  obtain ⟨h1, e1⟩ := List.getElem?_eq_some_iff.mp a
  obtain ⟨h2, e2⟩ := List.getElem?_eq_some_iff.mp b
  exact (List.getElem_inj hN).mp (e1.trans e2.symm)
theorem store_ok2 {M : Model} {A : Around} {E : Value → Shared → Prop} {i : Nat} {x : Str} {v : V} {u : Value} {Q : Unit → Shared → Prop} (I : Inv X pins σ H s) (hN : X.N.Nodup) (hi : X.N[i]? = some x) (hx : Loc X.env.scope x) (r : RelV v u)
    (h : ∀ s', Inv X pins (σ.set i (some v)) H s' → (∃ a, Heap.SameBut a s.heap s'.heap ∧ (a = X.env.locals ∨ X.env.cells.lookup x = some a)) → Q () s') (hf : X.fn x = true ∨ X.env.scope.names.lookup x = some .local := by first | exact .inl rfl | exact .inr rfl | assumption) : wpAny M A (storeName X.env x u) Q E s := by
  obtain ⟨m, hn, hl⟩ := id I.loc
  have hcls : (X.env.scope.kind == .class || (X.env.scope.kind == .module && X.env.locals != X.env.globals)) = false := by rw [I.ok.kind]; rfl
  have hiσ : i < σ.length := by rw [I.len]; exact (List.getElem?_eq_some_iff.mp hi).1
  have cne := I.cne
  have tracked : ∀ {a : Addr} {h' : Heap}, (∃ o, s.heap.get? a = some o ∧ H a = none) → Heap.SameBut a s.heap h' → HOk X.prog X.w H h' := fun {a h'} ha hs b ob e => by
    obtain ⟨_, _, hfree⟩ := ha
    refine (I.hok b ob e).stay (fun c w' hc q => (hs.2 c ?_).trans q) (fun _ q => q) fun _ _ q => q
    rintro rfl
    rcases hc with rfl | hc
    · rw [hfree] at e; cases e
    · rw [hfree] at hc; cases hc
  rcases hx with hk | hk
  · refine wpAny_storeName_local hk hn (fun h' hn' hs => ?_) hcls
    obtain ⟨oL, _, _, hoL, _⟩ := id hn
    refine h _ ⟨I.ok, I.os, I.bare, ⟨fun b o e n hb hx => ?_, fun b o e n hb hx => ?_, I.base.free, fun b o e hx => ?_, I.base.tups, I.base.frzs, I.base.tbls⟩, ⟨_, hn', fun j y v' e1 e2 e3 => ?_⟩, fun y c e => ?_, I.free, I.freeC, fun p hp => ?_, tracked ⟨oL, hoL, I.free⟩ hs, by simpa using I.len⟩ ⟨_, hs, .inl rfl⟩
    · exact (hs.2 b (Nat.ne_of_lt (Nat.lt_of_lt_of_le (Heap.lt_size e) I.ok.above))).trans (I.base.keep b o e n hb hx)
    · obtain ⟨sl, e1⟩ := I.base.slot b o e n hb hx
      exact ⟨sl, (hs.2 b (Nat.ne_of_lt (Nat.lt_of_lt_of_le (Heap.lt_size e) I.ok.above))).trans e1⟩
    · obtain ⟨o', e1⟩ := I.base.there b o e hx
      exact ⟨o', (hs.2 b (Nat.ne_of_lt (Nat.lt_of_lt_of_le (Heap.lt_size e) I.ok.above))).trans e1⟩
    · by_cases hj : j = i
      · subst hj
        rw [hi] at e1; cases e1
        rw [List.getElem?_set_self hiσ] at e2
        cases e2
        exact ⟨u, r, .inl ⟨hk, by simp⟩⟩
      · rw [List.getElem?_set_ne (Ne.symm hj)] at e2
        obtain ⟨u', r', q⟩ := hl j y v' e1 e2 e3
        refine ⟨u', r', ?_⟩
        rcases q with ⟨k, e⟩ | ⟨k, c, e, z⟩
        · refine .inl ⟨k, ?_⟩
          have : y ≠ x := fun e => hj (nodup_ix hN e1 (e ▸ hi))
          simp [this, e]
        · exact .inr ⟨k, c, e, z.sameBut hs (cne y c e)⟩
    · obtain ⟨w', z⟩ := I.cell y c e
      exact ⟨w', z.sameBut hs (cne y c e)⟩
    · obtain ⟨e, n, ne, nf, d⟩ := I.pin p hp
      exact ⟨(hs.2 p.1 ne).trans e, n, ne, nf, d⟩
  · have hfn : X.fn x = true := by
      rcases hf with z | z
      · exact z
      · rw [z] at hk; cases hk
    obtain ⟨c, hc⟩ := I.ok.has x (.inl hk)
    obtain ⟨w', z⟩ := I.cell x c hc
    refine wpAny_storeName_cell I.ok.kind hk hc z (fun h' hc' hs => ?_)
    obtain ⟨oc, hoc, hocd⟩ := id z
    refine h { s with heap := h' } ⟨I.ok, I.os, I.bare, ⟨fun b o e n hb hx => ?_, fun b o e n hb hx => ?_, I.base.free, fun b o e hx => ?_, I.base.tups, I.base.frzs, I.base.tbls⟩, ⟨m, hn.sameBut hs (Ne.symm (cne x c hc)), fun j y v' e1 e2 e3 => ?_⟩, fun y c' e => ?_, I.free, I.freeC, fun p hp => ?_, tracked ⟨oc, hoc, I.freeC x c hc⟩ hs, by simpa using I.len⟩ ⟨c, hs, .inr hc⟩
    · exact (hs.2 b (Nat.ne_of_lt (Nat.lt_of_lt_of_le (Heap.lt_size e) (I.ok.cab x c hfn hc)))).trans (I.base.keep b o e n hb hx)
    · obtain ⟨sl, e1⟩ := I.base.slot b o e n hb hx
      exact ⟨sl, (hs.2 b (Nat.ne_of_lt (Nat.lt_of_lt_of_le (Heap.lt_size e) (I.ok.cab x c hfn hc)))).trans e1⟩
    · obtain ⟨o', e1⟩ := I.base.there b o e hx
      exact ⟨o', (hs.2 b (Nat.ne_of_lt (Nat.lt_of_lt_of_le (Heap.lt_size e) (I.ok.cab x c hfn hc)))).trans e1⟩
    · by_cases hj : j = i
      · subst hj
        rw [hi] at e1; cases e1
        rw [List.getElem?_set_self hiσ] at e2
        cases e2
        exact ⟨u, r, .inr ⟨.inl hk, c, hc, hc'⟩⟩
      · rw [List.getElem?_set_ne (Ne.symm hj)] at e2
        obtain ⟨u', r', q⟩ := hl j y v' e1 e2 e3
        refine ⟨u', r', ?_⟩
        rcases q with q | ⟨k, c', e, z'⟩
        · exact .inl q
        · refine .inr ⟨k, c', e, z'.sameBut hs ?_⟩
          rintro rfl
          exact hj (nodup_ix hN e1 (I.ok.inj _ _ _ e hc ▸ hi))
    · by_cases hcc : c' = c
      · subst hcc; exact ⟨_, hc'⟩
      · obtain ⟨w2, z2⟩ := I.cell y c' e
        exact ⟨w2, z2.sameBut hs hcc⟩
    · obtain ⟨e, n, ne, nf, d⟩ := I.pin p hp
      refine ⟨(hs.2 p.1 ?_).trans e, n, ne, nf, d⟩
      intro q
      rw [q, hoc] at e
      have q' : oc = p.2 := Option.some.inj e
      exact d w' (by rw [← q']; exact hocd)
theorem store_ok {M : Model} {A : Around} {E : Value → Shared → Prop} {i : Nat} {x : Str} {v : V} {u : Value} {Q : Unit → Shared → Prop} (I : Inv X pins σ H s) (hN : X.N.Nodup) (hi : X.N[i]? = some x) (hx : Loc X.env.scope x) (r : RelV v u)
    (h : ∀ s', Inv X pins (σ.set i (some v)) H s' → Q () s') (hf : X.fn x = true ∨ X.env.scope.names.lookup x = some .local := by first | exact .inl rfl | exact .inr rfl | assumption) : wpAny M A (storeName X.env x u) Q E s :=
  store_ok2 I hN hi hx r (fun s' I' _ => h s' I') hf
theorem Inv.call' {s' : Shared} {ch : List Addr} (I : Inv X pins σ H s) (ho : s'.os = s.os) (u : Un (frs X.stack) ch H H' s.heap s'.heap) (hok : HOk X.prog X.w H' s'.heap) (hg : AllBare s'.gens)
    (hch : ∀ b ∈ ch, (b ∈ X.ex ∨ X.s₀.heap.objs.size ≤ b) ∧ b ≠ X.env.locals ∧ (∀ x c, X.env.cells.lookup x = some c → c ≠ b) ∧ ∀ p ∈ X.pn ++ pins, p.1 ≠ b) : Inv X pins σ H' s' := by
  obtain ⟨h', g', d', t', o'⟩ := s'
  have e : o' = s.os := ho
  subst e
  exact I.call (g' := g') (t' := t') (d' := d') u hok hg hch
end
abbrev XK := Value → Option Addr → Hp → Prop
abbrev St := List (Option V)
abbrev VK := V → Hp → Prop
abbrev TE := St → Hp → VK → Prop
abbrev TT := St → Hp → (Bool → Hp → Prop) → Prop
abbrev TA := St → Hp → (List V → Hp → Prop) → Prop
structure Ends where
  nx : St → Hp → Prop
  rt : VK
  bk : St → Hp → Prop := fun _ _ => False
  ct : St → Hp → Prop := fun _ _ => False
abbrev TS := Ends → St → Hp → Prop
def EP (X : Cx) (pins : List (Addr × Obj)) (σ : St) (Q : VK) (u : Value) (s' : Shared) : Prop := ∃ v H', Inv X pins σ H' s' ∧ RelV v u ∧ Q v H'
def TP (X : Cx) (pins : List (Addr × Obj)) (σ : St) (Q : Bool → Hp → Prop) (b : Bool) (s' : Shared) : Prop := ∃ H', Inv X pins σ H' s' ∧ Q b H'
def AP (X : Cx) (pins : List (Addr × Obj)) (σ : St) (Q : List V → Hp → Prop) (us : List Value) (s' : Shared) : Prop := ∃ vs H', Inv X pins σ H' s' ∧ Vals vs us ∧ Q vs H'
def SP (X : Cx) (pins : List (Addr × Obj)) (D : Ends) (f : Flow) (s' : Shared) : Prop :=
  match f with
  | .next => ∃ σ' H', Inv X pins σ' H' s' ∧ D.nx σ' H'
  | .brk => ∃ σ' H', Inv X pins σ' H' s' ∧ D.bk σ' H'
  | .cont => ∃ σ' H', Inv X pins σ' H' s' ∧ D.ct σ' H'
  | .ret u => ∃ v σ' H', Inv X pins σ' H' s' ∧ RelV v u ∧ D.rt v H'
def PE (X : Cx) (e : Expr) (t : TE) : Prop :=
  ∀ (pins : List (Addr × Obj)) (s : Shared) (σ : St) (H : Hp) (Q : VK), Inv X pins σ H s → t σ H Q → wpAny (model X.prog X.w) X.A (eval e X.env) (EP X pins σ Q) X.xe s
def PT (X : Cx) (e : Expr) (t : TT) : Prop :=
  ∀ (pins : List (Addr × Obj)) (s : Shared) (σ : St) (H : Hp) (Q : Bool → Hp → Prop), Inv X pins σ H s → t σ H Q → wpAny (model X.prog X.w) X.A (isTrue e X.env (eval e X.env)) (TP X pins σ Q) X.xe s
def PW (X : Cx) (e : Expr) (t : TT) : Prop :=
  ∀ (whole : Sem Value) (pins : List (Addr × Obj)) (s : Shared) (σ : St) (H : Hp) (Q : Bool → Hp → Prop), Inv X pins σ H s → t σ H Q → wpAny (model X.prog X.w) X.A (isTrue e X.env whole) (TP X pins σ Q) X.xe s
theorem PW.pt {X : Cx} {e : Expr} {t : TT} (h : PW X e t) : PT X e t := h _
def PA (X : Cx) (es : List Expr) (t : TA) : Prop :=
  ∀ (pos : Pos) (pins : List (Addr × Obj)) (s : Shared) (σ : St) (H : Hp) (Q : List V → Hp → Prop), Inv X pins σ H s → t σ H Q → wpAny (model X.prog X.w) X.A (spliced (backTo pos (starEach es X.env))) (AP X pins σ Q) X.xe s
def PS (X : Cx) (st : Stmt) (t : TS) : Prop :=
  ∀ (pins : List (Addr × Obj)) (s : Shared) (σ : St) (H : Hp) (D : Ends), Inv X pins σ H s → t D σ H → wpAny (model X.prog X.w) X.A (exec st X.env) (SP X pins D) X.xe s
def PSs (X : Cx) (st : List Stmt) (t : TS) : Prop :=
  ∀ (pins : List (Addr × Obj)) (s : Shared) (σ : St) (H : Hp) (D : Ends), Inv X pins σ H s → t D σ H → wpAny (model X.prog X.w) X.A (execs st X.env) (SP X pins D) X.xe s
theorem thn {α : Type} {t : Sem α} {Q Q' : α → Shared → Prop} {M : Model} {A : Around} {E : Value → Shared → Prop} {s : Shared} (h : wpAny M A t Q E s) (hQ : ∀ a s, Q a s → Q' a s) : wpAny M A t Q' E s := wpAny_mono h hQ fun _ _ x => x
end L2
namespace L2
open PySem PySem.Spec PyProof.Rows
section
variable {X : Cx}
theorem bin {a b : Expr} {ta tb : TE} (ha : PE X a ta) (hb : PE X b tb) {pins : List (Addr × Obj)} {s : Shared} {σ : St} {H : Hp} {R : V → V → Hp → Prop} (I : Inv X pins σ H s) (h : ta σ H fun x H1 => tb σ H1 fun y H2 => R x y H2)
    {α : Type} {Q : α → Shared → Prop} {f : Value → Value → Sem α}
    (hf : ∀ v u s2 x y H2, Inv X pins σ H2 s2 → RelV x v → RelV y u → R x y H2 → wpAny (model X.prog X.w) X.A (f v u) Q X.xe s2) :
    wpAny (model X.prog X.w) X.A (eval a X.env) (fun v s₁ => wpAny (model X.prog X.w) X.A (eval b X.env) (fun u s₂ => wpAny (model X.prog X.w) X.A (f v u) Q X.xe s₂) X.xe s₁) X.xe s := by
  refine thn (ha pins s σ H _ I h) fun v s1 ⟨x, H1, I1, r1, q1⟩ => ?_
  refine thn (hb pins s1 σ H1 _ I1 q1) fun u s2 ⟨y, H2, I2, r2, q2⟩ => ?_
  exact hf v u s2 x y H2 I2 r1 r2 q2
def tVar (i : Nat) : TE := fun σ H Q => ∃ v, σ[i]? = some (some v) ∧ Q v H
def tC (v : V) : TE := fun _ H Q => Q v H
theorem pe_var {i : Nat} {x : Str} {pos : Pos} (hN : X.N[i]? = some x) (hv : Vis X.env.scope x) (hd : (x == ("__debug__" : Str)) = false := by decide) (hcd : (x == ("__classdict__" : Str)) = false := by decide) : PE X (.Name x pos) (tVar i) := by
  intro pins s σ H Q I h
  obtain ⟨v, e, h⟩ := h
  obtain ⟨m, hn, hl⟩ := I.loc
  obtain ⟨u, r, l⟩ := hl i x v hN e hv
  have fin : EP X pins σ Q u s := ⟨v, H, I, r, h⟩
  rcases l with ⟨hk, hm⟩ | ⟨hk, c, hc, hcell⟩
  · exact wpAny_Name (wpAny_loadName_local I.ok.kind hk hn hm fin) hd
  · rcases hk with hk | hk
    · exact wpAny_Name (wpAny_loadName_cell I.ok.kind hk hc hcell fin) hd
    · exact wpAny_Name (wpAny_loadName_free I.ok.kind hk hc hcell fin hcd) hd
theorem pe_int {i j pos} : PE X (.Constant (.int i) j pos) (tC (.int i)) := fun _ _ _ H _ I h => wpAny_Constant_int ⟨.int i, H, I.tok _, ⟨_, rfl⟩, h⟩
theorem pe_bl {b j pos} : PE X (.Constant (.bool b) j pos) (tC (.bl b)) := fun _ _ _ H _ I h => Constant_bool ⟨.bl b, H, I, rfl, h⟩
theorem pe_non {j pos} : PE X (.Constant .none j pos) (tC .non) := fun _ _ _ H _ I h => Constant_none ⟨.non, H, I, rfl, h⟩
theorem pe_str {x j pos} : PE X (.Constant (.str x) j pos) (tC (.str x)) := fun _ _ _ H _ I h => Calls.Constant_str ⟨.str x, H, I.tok _, ⟨_, rfl⟩, h⟩
def Gl (X : Cx) (x : Str) : Prop := X.env.kindOf x = some .globalImplicit
theorem ld_glob {E : Value → Shared → Prop} {pins : List (Addr × Obj)} {s : Shared} {σ : St} {H : Hp} {x : Str} {u : Value} {pos : Pos} {Q : Value → Shared → Prop} (I : Inv X pins σ H s) (hg : Gl X x) (hm : X.mg x = some u) (h : Q u s)
    (hd : (x == ("__debug__" : Str)) = false := by decide) : wpAny (model X.prog X.w) X.A (eval (.Name x pos) X.env) Q E s :=
  Calls.Name_function_global I.ok.kind hg (Calls.loadGlobal_global (by rw [I.ok.glob]; exact I.mod.glob.keeps I.bk) hm h) hd
theorem ld_blt {E : Value → Shared → Prop} {pins : List (Addr × Obj)} {s : Shared} {σ : St} {H : Hp} {x : Str} {u : Value} {pos : Pos} {Q : Value → Shared → Prop} (I : Inv X pins σ H s) (hg : Gl X x) (hm : X.mg x = none) (hv : bootBuiltins x = some u) (h : Q u s)
    (hn : x ≠ "__name__" := by decide) (hd : (x == ("__debug__" : Str)) = false := by decide) : wpAny (model X.prog X.w) X.A (eval (.Name x pos) X.env) Q E s := by
  obtain ⟨mb, h1, h2⟩ := I.mod.blt
  exact Calls.Name_function_global I.ok.kind hg (Calls.loadGlobal_builtin (by rw [I.ok.glob]; exact I.mod.glob.keeps I.bk) hm (by rw [I.ok.blt]; exact h1.keeps I.bk) ((h2 x hn).trans hv) h) hd
theorem pe_glob {x : Str} {v : V} {u : Value} {pos : Pos} (hg : Gl X x) (hm : X.mg x = some u) (r : RelV v u) (hd : (x == ("__debug__" : Str)) = false := by decide) : PE X (.Name x pos) (tC v) :=
  fun _ _ _ H _ I h => ld_glob I hg hm ⟨v, H, I, r, h⟩ hd
theorem pe_bltn {x : Str} {v : V} {u : Value} {pos : Pos} (hg : Gl X x) (hm : X.mg x = none) (hv : bootBuiltins x = some u) (r : RelV v u) (hn : x ≠ "__name__" := by decide) (hd : (x == ("__debug__" : Str)) = false := by decide) : PE X (.Name x pos) (tC v) :=
  fun _ _ _ H _ I h => ld_blt I hg hm hv ⟨v, H, I, r, h⟩ hn hd
variable {a b : Expr} {ta tb : TE} {pos : Pos}
def PC (X : Cx) (op : CmpOp) (a b : Expr) (t : TE) : Prop :=
  ∀ (pins : List (Addr × Obj)) (s : Shared) (σ : St) (H : Hp) (Q : VK), Inv X pins σ H s → t σ H Q →
    wpAny (model X.prog X.w) X.A (eval a X.env) (fun v s₁ => wpAny (model X.prog X.w) X.A (eval b X.env) (fun u s₂ => wpAny (model X.prog X.w) X.A (compareOp op v u) (EP X pins σ Q) X.xe s₂) X.xe s₁) X.xe s
def tB (t : TE) : TT := fun σ H Q => t σ H fun x H1 => ∃ c, x = .bl c ∧ Q c H1
theorem pt_cmp {op : CmpOp} {t : TE} (h : PC X op a b t) (h1 : behindInMarks op b = false := by first | exact nobehind _ (by decide) (by decide) | rfl) : PT X (.Compare a [op] [b] pos) (tB t) := by
  intro pins s σ H Q I hw
  refine wpAny_isTrue_Compare1 (thn (h pins s σ H _ I hw) fun v s1 h1 => thn h1 fun u s2 h2 => thn h2 fun c s3 ⟨x, H1, I1, r1, q1⟩ => ?_) h1
  obtain ⟨d, rfl, q⟩ := q1
  cases r1
  exact wpAny_truthy_bool ⟨H1, I1, q⟩
theorem pt_val {e : Expr} {t : TE} (h : PE X e t) (he : ∀ whole, isTrue e X.env whole = (do let v ← whole; standAt e.pos; holding [v] (truthy v)) := by intro _; rfl) : PT X e (tB t) := by
  intro pins s σ H Q I hw
  refine isTrue_plain (thn (h pins s σ H _ I hw) fun v s1 ⟨x, H1, I1, r1, q1⟩ => ?_) (he _)
  obtain ⟨d, rfl, q⟩ := q1
  cases r1
  exact wpAny_truthy_bool ⟨H1, I1, q⟩
variable {tA tB' : TT} {rest : List Expr}
def tAnd (t u : TT) : TT := fun σ H Q => t σ H fun c H1 => if c = true then u σ H1 Q else Q false H1
def tOr (t u : TT) : TT := fun σ H Q => t σ H fun c H1 => if c = true then Q true H1 else u σ H1 Q
def tNot (t : TT) : TT := fun σ H Q => t σ H fun c H1 => Q (!c) H1
theorem pw_and1 (ha : PT X a tA) : PW X (.BoolOp .And [a] pos) tA := by
  intro wh pins s σ H Q I h
  refine isTrue_and (thn (ha pins s σ H Q I h) fun c s1 e => ?_)
  cases c with
  | true => exact isTrue_and_nil e
  | false => exact e
theorem pw_or1 (ha : PT X a tA) : PW X (.BoolOp .Or [a] pos) tA := by
  intro wh pins s σ H Q I h
  refine isTrue_or (thn (ha pins s σ H Q I h) fun c s1 e => ?_)
  cases c with
  | false => exact isTrue_or_nil e
  | true => exact e
theorem pw_and (ha : PT X a tA) (hb : PW X (.BoolOp .And (b :: rest) pos) tB') : PW X (.BoolOp .And (a :: b :: rest) pos) (tAnd tA tB') := by
  intro wh pins s σ H Q I h
  refine isTrue_and (thn (ha pins s σ H _ I h) fun c s1 ⟨H1, I1, q1⟩ => ?_)
  cases c with
  | true => exact hb wh pins s1 σ H1 Q I1 q1
  | false => exact ⟨H1, I1, q1⟩
theorem pw_or (ha : PT X a tA) (hb : PW X (.BoolOp .Or (b :: rest) pos) tB') : PW X (.BoolOp .Or (a :: b :: rest) pos) (tOr tA tB') := by
  intro wh pins s σ H Q I h
  refine isTrue_or (thn (ha pins s σ H _ I h) fun c s1 ⟨H1, I1, q1⟩ => ?_)
  cases c with
  | true => exact ⟨H1, I1, q1⟩
  | false => exact hb wh pins s1 σ H1 Q I1 q1
theorem pt_not (ha : PT X a tA) : PT X (.UnaryOp .Not a pos) (tNot tA) := by
  intro pins s σ H Q I h
  exact isTrue_not (ha pins s σ H (fun c H1 => Q (!c) H1) I h)
def tIf (t : TT) (ta tb : TE) : TE := fun σ H Q => t σ H fun c H1 => if c = true then ta σ H1 Q else tb σ H1 Q
theorem pe_ifExp {c : Expr} (hc : PT X c tA) (ha : PE X a ta) (hb : PE X b tb) : PE X (.IfExp c a b pos) (tIf tA ta tb) := by
  intro pins s σ H Q I h
  refine wpAny_IfExp (thn (hc pins s σ H _ I h) fun d s1 ⟨H1, I1, q1⟩ => ?_)
  cases d with
  | true => exact ha pins s1 σ H1 Q I1 q1
  | false => exact hb pins s1 σ H1 Q I1 q1
end
end L2
namespace L2
open PySem PySem.Spec PyProof.Rows
def SqL (K : PySem.W.Frag) (H : Hp) (a : Addr) (xs : List V) : Prop :=
  Rd H a (.lst xs) ∨
    ∃ (o : Obj) (its : Array Value) (n : Nat), K.lookup a = some o ∧ o.cls = .type "list" ∧ o.dict = none ∧ o.data = .seq its n ∧ its.size ≤ sizeLine ∧ Vals xs its.toList
def SqT (K : PySem.W.Frag) (H : Hp) (a : Addr) (xs : List V) : Prop :=
  Rd H a (.tup xs) ∨
    ∃ (o : Obj) (its : Array Value) (n : Nat), K.lookup a = some o ∧ o.cls = .type "tuple" ∧ o.data = .seq its n ∧ its.size ≤ sizeLine ∧ Vals xs its.toList
def absV : Value → Option V
  | .none => some .non
  | .bool b => some (.bl b)
  | .int i _ => some (.int i)
  | .str x _ => some (.str x)
  | .bytes b _ => some (.byt b)
  | .float b _ => some (.flt b)
  | .ref a => some (.ref a)
  | .type n => some (.ty n)
  | _ => none
theorem RelV.abs {x : V} {u : Value} (r : RelV x u) : absV u = some x := by
  cases x with
  | non => cases r; rfl
  | bl _ => cases r; rfl
  | int _ => obtain ⟨t, rfl⟩ := r; rfl
  | str _ => obtain ⟨t, rfl⟩ := r; rfl
  | byt _ => obtain ⟨t, rfl⟩ := r; rfl
  | flt _ => obtain ⟨t, rfl⟩ := r; rfl
  | ref _ => cases r; rfl
  | ty _ => cases r; rfl
theorem RelV.inj {x y : V} {u : Value} (r : RelV x u) (q : RelV y u) : x = y := Option.some.inj (r.abs.symm.trans q.abs)
theorem Vals.inj : ∀ {xs ys : List V} {us : List Value}, Vals xs us → Vals ys us → xs = ys
  | _, _, _, .nil, .nil => rfl
  | _, _, _, .cons r t, .cons r' t' => by rw [r.inj r', Vals.inj t t']
section
variable {X : Cx} {pins : List (Addr × Obj)} {σ : St} {H : Hp} {s : Shared} {a : Addr} {xs ys : List V}
theorem SqL.of {K : PySem.W.Frag} (h : H a = some (.lst xs)) : SqL K H a xs := .inl (.inl h)
theorem SqT.of {K : PySem.W.Frag} (h : H a = some (.tup xs)) : SqT K H a xs := .inl (.inl h)
theorem Inv.list (I : Inv X pins σ H s) (h : SqL X.K H a xs) : ∃ its : List Value, Vals xs its ∧ PlainL s.heap a its.toArray ∧ xs.length ≤ sizeLine := by
  rcases h with h | ⟨o, its, n, hk, hc, hd, hs, hz, r⟩
  · obtain ⟨z, its, n, r, e⟩ := h.ok I.hok
    exact ⟨its, r, ⟨_, n, e, rfl, rfl, rfl⟩, z⟩
  · refine ⟨its.toList, r, ⟨o, n, I.kIn a o hk, hc, hd, by simpa using hs⟩, ?_⟩
    have e := r.length
    simp only [Array.length_toList] at e
    omega
theorem Inv.tuple (I : Inv X pins σ H s) (h : SqT X.K H a xs) : ∃ its : List Value, Vals xs its ∧ IsTup s.heap a its.toArray ∧ xs.length ≤ sizeLine := by
  rcases h with h | ⟨o, its, n, hk, hc, hs, hz, r⟩
  · obtain ⟨z, its, r, p⟩ := h.ok I.hok
    exact ⟨its, r, p, z⟩
  · refine ⟨its.toList, r, ⟨o, I.kIn a o hk, hc, n, by simpa using hs⟩, ?_⟩
    have e := r.length
    simp only [Array.length_toList] at e
    omega
theorem Inv.list_inj (I : Inv X pins σ H s) (h : SqL X.K H a xs) (h' : SqL X.K H a ys) : xs = ys := by
  obtain ⟨its, r, ⟨o, n, e, _, _, d⟩, _⟩ := I.list h
  obtain ⟨its', r', ⟨o', n', e', _, _, d'⟩, _⟩ := I.list h'
  rw [e] at e'; cases e'
  rw [d] at d'
  injection d' with d1 _
  have : its = its' := by simpa using congrArg Array.toList d1
  subst this
  exact r.inj r'
theorem Inv.tuple_inj (I : Inv X pins σ H s) (h : SqT X.K H a xs) (h' : SqT X.K H a ys) : xs = ys := by
  obtain ⟨its, r, ⟨o, e, _, n, d⟩, _⟩ := I.tuple h
  obtain ⟨its', r', ⟨o', e', _, n', d'⟩, _⟩ := I.tuple h'
  rw [e] at e'; cases e'
  rw [d] at d'
  injection d' with d1 _
  have : its = its' := by simpa using congrArg Array.toList d1
  subst this
  exact r.inj r'
end
abbrev Cx.wish (X : Cx) (E : Value → Shared → Prop) : Cx := { X with xe := E }
abbrev Cx.nox (X : Cx) : Cx := X.wish fun _ _ => False
theorem Cx.Ok.wish {X : Cx} (ok : X.Ok) (E : Value → Shared → Prop) : (X.wish E).Ok :=
  ⟨ok.mod, ok.kind, ok.glob, ok.blt, ok.above, ok.inj, ok.has, ok.cab, ok.hd, ok.frames, ok.stk, ok.exf, ok.bs, ok.bsz, ok.noex, ok.exfs, ok.funs, ok.frf⟩
theorem Cx.Ok.unwish {X : Cx} {E : Value → Shared → Prop} (ok : (X.wish E).Ok) : X.Ok :=
  ⟨ok.mod, ok.kind, ok.glob, ok.blt, ok.above, ok.inj, ok.has, ok.cab, ok.hd, ok.frames, ok.stk, ok.exf, ok.bs, ok.bsz, ok.noex, ok.exfs, ok.funs, ok.frf⟩
section
variable {X : Cx} {pins : List (Addr × Obj)} {σ : St} {H : Hp} {s : Shared} {E : Value → Shared → Prop}
theorem Inv.wish (I : Inv X pins σ H s) (E : Value → Shared → Prop) : Inv (X.wish E) pins σ H s := ⟨I.ok.wish E, I.os, I.bare, I.base, I.loc, I.cell, I.free, I.freeC, I.pin, I.hok, I.len⟩
theorem Inv.unwish (I : Inv (X.wish E) pins σ H s) : Inv X pins σ H s := ⟨I.ok.unwish, I.os, I.bare, I.base, I.loc, I.cell, I.free, I.freeC, I.pin, I.hok, I.len⟩
theorem SP.unwish {D : Ends} {f : Flow} {s' : Shared} (h : SP (X.wish E) pins D f s') : SP X pins D f s' := by
  cases f with
  | next => obtain ⟨σ', H', I, q⟩ := h; exact ⟨σ', H', I.unwish, q⟩
  | brk => obtain ⟨σ', H', I, q⟩ := h; exact ⟨σ', H', I.unwish, q⟩
  | cont => obtain ⟨σ', H', I, q⟩ := h; exact ⟨σ', H', I.unwish, q⟩
  | ret u => obtain ⟨v, σ', H', I, r, q⟩ := h; exact ⟨v, σ', H', I.unwish, r, q⟩
theorem PSs.nox {st : List Stmt} {t : TS} (h : PSs X.nox st t) : PSs X st t := fun pins s σ H D I hw =>
  wpAny_mono (h pins s σ H D (I.wish _) hw) (fun _ _ q => q.unwish) fun _ _ z => False.elim z
end
section
variable {X : Cx} {st : Stmt} {rest : List Stmt} {t u : TS} {e : Expr} {te : TE} {pos : Pos}
def tNext : TS := fun D σ H => D.nx σ H
def tSeq (t u : TS) : TS := fun D σ H => t { D with nx := u D } σ H
theorem pss_nil : PSs X [] tNext := fun _ _ σ H _ I h => wpAny_execs_nil ⟨σ, H, I, h⟩
theorem pss_cons (h1 : PS X st t) (h2 : PSs X rest u) : PSs X (st :: rest) (tSeq t u) := by
  intro pins s σ H D I h
  refine wpAny_execs_cons (thn (h1 pins s σ H { D with nx := u D } I h) fun f s1 q => ?_)
  cases f with
  | next =>
    obtain ⟨σ', H', I', q⟩ := q
    exact h2 pins s1 σ' H' D I' q
  | ret v => exact q
  | brk => exact q
  | cont => exact q
theorem pss_one (h1 : PS X st t) : PSs X [st] t := by
  intro pins s σ H D I h
  refine wpAny_execs_cons (thn (h1 pins s σ H D I h) fun f s1 q => ?_)
  cases f with
  | next => exact wpAny_execs_nil q
  | ret v => exact q
  | brk => exact q
  | cont => exact q
theorem Inv.quiet {pins : List (Addr × Obj)} {σ : St} {H : Hp} {s : Shared} (I : Inv X pins σ H s) : interactive X.env = false := by simp [interactive, I.ok.kind]
def tDrop (te : TE) : TS := fun D σ H => te σ H fun _ H1 => D.nx σ H1
theorem ps_expr (he : PE X e te) (hs : swapsWith e none pos.line X.env = pure false := by rfl) : PS X (.Expr e pos) (tDrop te) := by
  intro pins s σ H D I h
  exact wpAny_Expr_any (thn (he pins s σ H _ I h) fun v s1 ⟨x, H1, I1, r1, q1⟩ => ⟨σ, H1, I1, q1⟩) I.quiet hs
def tRet (te : TE) : TS := fun D σ H => te σ H D.rt
theorem ps_ret (he : PE X e te) : PS X (.Return (some e) pos) (tRet te) := by
  intro pins s σ H D I h
  exact wpAny_Return_some (thn (he pins s σ H _ I h) fun v s1 ⟨x, H1, I1, r1, q1⟩ => ⟨x, σ, H1, I1, r1, q1⟩)
def tIfS (c : TT) (t u : TS) : TS := fun D σ H => c σ H fun b H1 => if b = true then t D σ H1 else u D σ H1
theorem ps_if {c : Expr} {a b : List Stmt} {tc : TT} (hc : PT X c tc) (ha : PSs X a t) (hb : PSs X b u) : PS X (.If c a b pos) (tIfS tc t u) := by
  intro pins s σ H D I h
  refine wpAny_If (thn (hc pins s σ H _ I h) fun d s1 ⟨H1, I1, q1⟩ => ?_)
  cases d with
  | true => exact ha pins s1 σ H1 D I1 q1
  | false => exact hb pins s1 σ H1 D I1 q1
end
abbrev TG := V → St → Hp → (St → Hp → Prop) → Prop
abbrev TGs := List V → St → Hp → (St → Hp → Prop) → Prop
def PG (X : Cx) (target : Expr) (t : TG) : Prop :=
  ∀ (pins : List (Addr × Obj)) (s : Shared) (σ : St) (H : Hp) (v : V) (u : Value) (Q : St → Hp → Prop), Inv X pins σ H s → RelV v u → t v σ H Q →
    wpAny (model X.prog X.w) X.A (assign target X.env u) (fun _ s' => ∃ σ' H', Inv X pins σ' H' s' ∧ Q σ' H') X.xe s
def PGs (X : Cx) (ts : List Expr) (t : TGs) : Prop :=
  ∀ (pins : List (Addr × Obj)) (s : Shared) (σ : St) (H : Hp) (vs : List V) (us : List Value) (Q : St → Hp → Prop), Inv X pins σ H s → Vals vs us → t vs σ H Q →
    wpAny (model X.prog X.w) X.A (assignInOrder ((assignEach ts X.env).map (·.2)) us) (fun _ s' => ∃ σ' H', Inv X pins σ' H' s' ∧ Q σ' H') X.xe s
abbrev TSet := V → V → V → Hp → (Hp → Prop) → Prop
def PSet (X : Cx) (t : TSet) : Prop :=
  ∀ (pins : List (Addr × Obj)) (s : Shared) (σ : St) (H : Hp) (o i v : V) (ov iv u : Value) (Q : Hp → Prop), Inv X pins σ H s → RelV o ov → RelV i iv → RelV v u → t o i v H Q →
    wpAny (model X.prog X.w) X.A (setItem ov iv u) (fun _ s' => ∃ H', Inv X pins σ H' s' ∧ Q H') X.xe s
section
variable {X : Cx} {pos : Pos}
def gName (i : Nat) : TG := fun v σ H Q => Q (σ.set i (some v)) H
theorem pg_name {i : Nat} {x : Str} (hN : X.N.Nodup) (hi : X.N[i]? = some x) (hx : Loc X.env.scope x) (hf : X.fn x = true ∨ X.env.scope.names.lookup x = some .local := by first | exact .inl rfl | exact .inr rfl | assumption) : PG X (.Name x pos) (gName i) := by
  intro pins s σ H v u Q I r h
  exact wpAny_assign_Name (store_ok I hN hi hx r (fun s' I' => ⟨_, H, I', h⟩) hf)
def gNil : TGs := fun vs σ H Q => vs = [] ∧ Q σ H
def gCons (t : TG) (u : TGs) : TGs := fun vs σ H Q => ∃ v r, vs = v :: r ∧ t v σ H fun σ' H' => u r σ' H' Q
theorem pgs_nil : PGs X [] gNil := by
  intro pins s σ H vs us Q I r h
  obtain ⟨e, h⟩ := h
  subst e
  cases r
  exact assignInOrder_nil ⟨σ, H, I, h⟩
theorem pgs_cons {e : Expr} {es : List Expr} {t : TG} {u : TGs} (h1 : PG X e t) (h2 : PGs X es u)
    (hs : (assignEach (e :: es) X.env).map (·.2) = assign e X.env :: (assignEach es X.env).map (·.2) := by rfl) : PGs X (e :: es) (gCons t u) := by
  intro pins s σ H vs us Q I r h
  obtain ⟨v, vr, e1, h⟩ := h
  subst e1
  cases r with
  | cons r rr =>
    rw [hs]
    refine assignInOrder_cons (thn (h1 pins s σ H _ _ _ I r h) fun _ s1 ⟨σ1, H1, I1, q1⟩ => ?_)
    exact h2 pins s1 σ1 H1 _ _ Q I1 rr q1
def gTup (K : PySem.W.Frag) (n : Nat) (t : TGs) : TG := fun v σ H Q => ∃ a xs, v = .ref a ∧ SqT K H a xs ∧ xs.length = n ∧ t xs σ H Q
theorem pg_tup {es : List Expr} {k : Nat} {t : TGs} {n : Nat} (hc : X.calm = true) (h : PGs X es t)
    (hn : (assignEach es X.env).length = n := by rfl) (hst : (assignEach es X.env).findIdx? (·.1) = none := by rfl) : PG X (.Tuple es k pos) (gTup X.K n t) := by
  intro pins s σ H v u Q I r hw
  obtain ⟨a, xs, e1, hq, hl, hw⟩ := hw
  subst e1
  cases r
  obtain ⟨its, rv, ht, hz⟩ := I.tuple hq
  refine assign_Tuple_tuple (I.ok.hd hc) ht (by simp [hn, ← hl, rv.length]) hst fun h' hx => ?_
  have I1 : Inv X pins σ H { s with heap := h' } := I.kept (t' := s.toks) fun b o e => hx b o (Nat.ne_of_lt (Heap.lt_size e)) e
  exact h pins _ σ H xs _ Q I1 (by simpa using rv) hw
def gSub (to ti : TE) (t : TSet) : TG := fun v σ H Q => to σ H fun o H1 => ti σ H1 fun i H2 => t o i v H2 fun H3 => Q σ H3
theorem pg_sub {o i : Expr} {to ti : TE} {t : TSet} (ho : PE X o to) (hi : PE X i ti) (hs : PSet X t)
    (ha : ∀ v, assign (.Subscript o i pos) X.env v = (do
      let ov ← holding [v] (eval o X.env)
      let iv ← holding [v, ov] (eval i X.env)
      standAt pos
      holding [v, ov, iv] (setItem ov iv v)
      release [v, ov, iv] []) := by intro _; rfl) : PG X (.Subscript o i pos) (gSub to ti t) := by
  intro pins s σ H v u Q I r h
  rw [ha]
  refine wpAny_bind (wpAny_holding (thn (ho pins s σ H _ I h) fun ov s1 ⟨x, H1, I1, r1, q1⟩ => ?_))
  refine wpAny_bind (wpAny_holding (thn (hi pins s1 σ H1 _ I1 q1) fun iv s2 ⟨y, H2, I2, r2, q2⟩ => ?_))
  refine wpAny_bind (wpAny_standAt (wpAny_bind (wpAny_holding (thn (hs pins s2 σ H2 x y v ov iv u _ I2 r1 r2 r q2) fun _ s3 ⟨H3, I3, q3⟩ => ?_))))
  exact wpAny_release ⟨σ, H3, I3, q3⟩
def tAsg (te : TE) (g : TG) : TS := fun D σ H => te σ H fun x H1 => g x σ H1 D.nx
theorem ps_asg {tg e : Expr} {te : TE} {g : TG} (he : PE X e te) (hg : PG X tg g) (hs : swapsWithSole [tg] e pos.line X.env = pure false := by rfl) (hw : swappedStores [tg] e X.env = pure none := by rfl)
    (h1 : (assignEach [tg] X.env).map (·.2) = [assign tg X.env] := by rfl) : PS X (.Assign [tg] e pos) (tAsg te g) := by
  intro pins s σ H D I h
  refine wpAny_Assign_stores (thn (he pins s σ H _ I h) fun v s1 ⟨x, H1, I1, r1, q1⟩ => ?_) hs hw
  rw [h1]
  exact thn (hg pins s1 σ H1 x v _ I1 r1 q1) fun _ s2 q => q
theorem ps_set {i : Nat} {x : Str} {e : Expr} {te : TE} {pos' : Pos} (hN : X.N.Nodup) (hi : X.N[i]? = some x) (hx : Loc X.env.scope x) (he : PE X e te) (hs : swapsWith e (some (.Name x pos')) pos.line X.env = pure false := by rfl) (hf : X.fn x = true ∨ X.env.scope.names.lookup x = some .local := by first | exact .inl rfl | exact .inr rfl | assumption) :
    PS X (.Assign [.Name x pos'] e pos) (tAsg te (gName i)) := by
  intro pins s σ H D I h
  refine wpAny_Assign_Name (thn (he pins s σ H _ I h) fun v s1 ⟨y, H1, I1, r1, q1⟩ => ?_) hs
  exact store_ok I1 hN hi hx r1 (fun s2 I2 => ⟨_, H1, I2, q1⟩) hf
end
section
variable {X : Cx} {pos : Pos}
end
structure It where
  go : Nat → Hp → Prop
  yld : Nat → Hp → V → Hp → Prop
  stop : Nat → Hp → Prop
def FpOk (X : Cx) (pins : List (Addr × Obj)) (H : Hp) (b : Addr) : Prop :=
  H b = none ∧ b ≠ X.env.locals ∧ b ∉ X.fs ∧ (b ∈ X.ex ∨ X.s₀.heap.objs.size ≤ b) ∧ (∀ x c, X.env.cells.lookup x = some c → c ≠ b) ∧ ∀ p ∈ X.pn ++ pins, p.1 ≠ b
theorem Inv.fpOk {X : Cx} {pins : List (Addr × Obj)} {σ : St} {H H' : Hp} {s : Shared} {b : Addr} (I : Inv X pins σ H s) (hb : s.heap.objs.size ≤ b) (hn : H' b = none) : FpOk X pins H' b := by
  refine ⟨hn, Nat.ne_of_gt (Nat.lt_of_lt_of_le I.lt hb), I.nofs hb, .inr (Nat.le_trans I.sz hb), fun x c e z => ?_, fun p hp z => ?_⟩
  · obtain ⟨v, q⟩ := I.cell x c e
    exact absurd (Nat.lt_of_lt_of_le q.lt (by rw [z]; exact hb)) (Nat.lt_irrefl _)
  · exact absurd (Nat.lt_of_lt_of_le (Heap.lt_size (I.pin p hp).1) (by rw [z]; exact hb)) (Nat.lt_irrefl _)
structure Turn (P : Program) (w : World) (K : PySem.W.Frag) (tg : Expr) (J : It) (fp : List Addr) (it : Addr) (tn : Nat → Heap → Prop) : Prop where
  mem : it ∈ fp
  obj : ∀ i h, tn i h → ∀ b ∈ fp, ∃ o, h.get? b = some o ∧ ∀ v, o.data ≠ .cell v
  keep : ∀ i h h', tn i h → (∀ b ∈ fp, ∀ o, h.get? b = some o → h'.get? b = some o) → tn i h'
  item : ∀ (X : Cx), X.prog = P → X.w = w → X.K = K → X.calm = true → ∀ (i : Nat) (pins : List (Addr × Obj)) (s : Shared) (σ : St) (H : Hp) (E : Value → Shared → Prop), Inv X pins σ H s → (∀ b ∈ fp, FpOk X pins H b) → tn i s.heap → J.go i H →
    wpAny (model P w) X.A (pyNext (.ref it)) (fun r s1 => ∃ u, r = some u ∧
      wpAny (model P w) X.A (letOwnedTupleGo tg (.ref it) u) (fun _ s2 => ∃ x H', Inv X pins σ H' s2 ∧ RelV x u ∧ J.yld i H x H' ∧ tn (i + 1) s2.heap ∧ ∀ b ∈ fp, H' b = none) E s1) E s
  done : ∀ (X : Cx), X.prog = P → X.w = w → X.K = K → X.calm = true → ∀ (i : Nat) (pins : List (Addr × Obj)) (s : Shared) (σ : St) (H : Hp) (E : Value → Shared → Prop), Inv X pins σ H s → (∀ b ∈ fp, FpOk X pins H b) → tn i s.heap → J.stop i H →
    wpAny (model P w) X.A (pyNext (.ref it)) (fun r s1 => r = none ∧ Inv X pins σ H s1) E s
  self : ∀ (A : Around) (i : Nat) (s : Shared) (Q : Value → Shared → Prop) (E : Value → Shared → Prop), tn i s.heap → Q (.ref it) s → wpAny (model P w) A (pyIter (.ref it)) Q E s
abbrev TI := St → Hp → (It → Hp → Prop) → Prop
def PIE (X : Cx) (pins : List (Addr × Obj)) (σ : St) (tg : Expr) (R : It → Hp → Prop) (itv : Value) (s2 : Shared) : Prop :=
  ∃ (it : Addr) (fp : List Addr) (tn : Nat → Heap → Prop) (J : It) (H' : Hp), itv = .ref it ∧ Inv X pins σ H' s2 ∧ Turn X.prog X.w X.K tg J fp it tn ∧ tn 0 s2.heap ∧ (∀ b ∈ fp, FpOk X pins H' b) ∧ R J H'
def PI (X : Cx) (tg iter : Expr) (wi : TI) : Prop :=
  ∀ (pins : List (Addr × Obj)) (s : Shared) (σ : St) (H : Hp) (R : It → Hp → Prop), Inv X pins σ H s → wi σ H R →
    wpAny (model X.prog X.w) X.A (eval iter X.env) (fun v s1 => wpAny (model X.prog X.w) X.A (pyIter v) (PIE X pins σ tg R) X.xe s1) X.xe s
theorem go_of {M : Model} {A : Around} {E : Value → Shared → Prop} {s : Shared} {tg : Expr} {it : Addr} {u : Value} {o : Obj} {n : String} {vs : Array Value} {Q : Unit → Shared → Prop} (ho : s.heap.get? it = some o) (hc : o.cls = .type n) (hd : o.data = .fields vs)
    (hn : ["enumerate", "zip", "dict_itemiterator", "dict_reverseitemiterator", "odict_iterator", "itertools.zip_longest", "itertools.pairwise"].contains n = false) (hQ : Q () s) : wpAny M A (letOwnedTupleGo tg (.ref it) u) Q E s := by
  unfold letOwnedTupleGo
  cases tg <;> first
    | exact wpAny_pure hQ
    | (cases u <;> first
        | exact wpAny_pure hQ
        | (refine wpAny_bind (wpAny_load ho ?_)
           rw [hc, hd]
           show wpAny M A (if (["enumerate", "zip", "dict_itemiterator", "dict_reverseitemiterator", "odict_iterator", "itertools.zip_longest", "itertools.pairwise"].contains n && vs[0]? == some (rawInt _)) = true then _ else _) Q E s
           rw [if_neg (by intro h; rw [hn, Bool.false_and] at h; cases h)]
           exact wpAny_pure hQ))
def Itl (K : PySem.W.Frag) (a : Addr) : It :=
  ⟨fun i H => ∃ xs x, SqL K H a xs ∧ xs[i]? = some x, fun i H x H' => H' = H ∧ ∀ xs, SqL K H a xs → xs[i]? = some x, fun i H => ∃ xs, SqL K H a xs ∧ xs.length ≤ i⟩
def Itt (K : PySem.W.Frag) (a : Addr) : It :=
  ⟨fun i H => ∃ xs x, SqT K H a xs ∧ xs[i]? = some x, fun i H x H' => H' = H ∧ ∀ xs, SqT K H a xs → xs[i]? = some x, fun i H => ∃ xs, SqT K H a xs ∧ xs.length ≤ i⟩
def Itr (lo : Int) (n : Nat) : It := ⟨fun i _ => i < n, fun i H x H' => H' = H ∧ x = .int (lo + i), fun i _ => n ≤ i⟩
theorem turn_list {P : Program} {w : World} {K : PySem.W.Frag} {tg : Expr} (a it : Addr) : Turn P w K tg (Itl K a) [it] it (fun i h => h.IsListIter it a i) where
  mem := by simp
  obj := fun i h st b hb => by
    have e : b = it := by simpa using hb
    subst e
    obtain ⟨o, e, c, d⟩ := st
    exact ⟨o, e, fun v z => by rw [d] at z; cases z⟩
  keep := fun i h h' st k => st.at fun o e => k it (by simp) o e
  item := by
    intro X hP hw hK hc i pins s σ H E I hf st hg
    subst hP hw hK
    obtain ⟨xs, x, hq, hx⟩ := hg
    obtain ⟨its, rv, p, hz⟩ := I.list hq
    obtain ⟨u, hu, ru⟩ := rv.get hx
    obtain ⟨f0, f1, f2, f3, f4, f5⟩ := hf it (by simp)
    refine wpAny_pyNext_list_item st p.isList (x := u) (by simpa using hu) fun h' st' sb => ?_
    have I1 : Inv X pins σ H { s with heap := h' } := I.turned (t' := s.toks) (fun b o hb e => (sb.2 b hb).trans e) f0 f1 f3 f4 f5
    obtain ⟨o, e, c, d⟩ := id st'
    exact ⟨u, rfl, go_of (s := { s with heap := h' }) e c d (by decide) ⟨x, H, I1, ru, ⟨rfl, fun ys hy => by rw [I.list_inj hy hq]; exact hx⟩, st', fun b hb => (hf b hb).1⟩⟩
  done := by
    intro X hP hw hK hc i pins s σ H E I hf st hg
    subst hP hw hK
    obtain ⟨xs, hq, hx⟩ := hg
    obtain ⟨its, rv, p, hz⟩ := I.list hq
    obtain ⟨f0, f1, f2, f3, f4, f5⟩ := hf it (by simp)
    have hl := rv.length
    exact wpAny_pyNext_list_end (I.ok.hd hc) st p.isList (by simp; omega) fun h' eb => ⟨rfl, I.turned (t' := s.toks) (fun b o hb e => eb b o hb e) f0 f1 f3 f4 f5⟩
  self := fun _ _ _ _ _ st h => wpAny_pyIter_listiter st h
theorem turn_tuple {P : Program} {w : World} {K : PySem.W.Frag} {tg : Expr} (a it : Addr) : Turn P w K tg (Itt K a) [it] it (fun i h => h.IsTupleIter it a i) where
  mem := by simp
  obj := fun i h st b hb => by
    have e : b = it := by simpa using hb
    subst e
    obtain ⟨o, e, c, d⟩ := st
    exact ⟨o, e, fun v z => by rw [d] at z; cases z⟩
  keep := fun i h h' st k => st.at fun o e => k it (by simp) o e
  item := by
    intro X hP hw hK hc i pins s σ H E I hf st hg
    subst hP hw hK
    obtain ⟨xs, x, hq, hx⟩ := hg
    obtain ⟨its, rv, p, hz⟩ := I.tuple hq
    obtain ⟨u, hu, ru⟩ := rv.get hx
    obtain ⟨f0, f1, f2, f3, f4, f5⟩ := hf it (by simp)
    refine wpAny_pyNext_tuple_item st (show s.heap.IsTuple a its.toArray from p) (x := u) (by simpa using hu) fun h' st' sb => ?_
    have I1 : Inv X pins σ H { s with heap := h' } := I.turned (t' := s.toks) (fun b o hb e => (sb.2 b hb).trans e) f0 f1 f3 f4 f5
    obtain ⟨o, e, c, d⟩ := id st'
    exact ⟨u, rfl, go_of (s := { s with heap := h' }) e c d (by decide) ⟨x, H, I1, ru, ⟨rfl, fun ys hy => by rw [I.tuple_inj hy hq]; exact hx⟩, st', fun b hb => (hf b hb).1⟩⟩
  done := by
    intro X hP hw hK hc i pins s σ H E I hf st hg
    subst hP hw hK
    obtain ⟨xs, hq, hx⟩ := hg
    obtain ⟨its, rv, p, hz⟩ := I.tuple hq
    obtain ⟨f0, f1, f2, f3, f4, f5⟩ := hf it (by simp)
    have hl := rv.length
    exact wpAny_pyNext_tuple_end (I.ok.hd hc) st (show s.heap.IsTuple a its.toArray from p) (by simp; omega) fun h' eb => ⟨rfl, I.turned (t' := s.toks) (fun b o hb e => eb b o hb e) f0 f1 f3 f4 f5⟩
  self := fun _ _ _ _ _ st h => wpAny_pyIter_tupleiter st h
theorem turn_range {P : Program} {w : World} {K : PySem.W.Frag} {tg : Expr} (it : Addr) (lo : Int) (n : Nat) : Turn P w K tg (Itr lo n) [it] it (fun i h => IsRangeIter h it (lo + (i : Nat) * 1) ((n : Int) - (i : Nat)) 1) where
  mem := by simp
  obj := fun i h st b hb => by
    have e : b = it := by simpa using hb
    subst e
    exact ⟨_, st, fun v z => by
      have z' : Data.fields _ = Data.cell v := z
      cases z'⟩
  keep := fun i h h' st k => k it (by simp) _ st
  item := by
    intro X hP hw hK hc i pins s σ H E I hf st hg
    subst hP hw hK
    obtain ⟨f0, f1, f2, f3, f4, f5⟩ := hf it (by simp)
    have W := Walks.range (prog := X.prog) (w := X.w) (I.ok.hd hc) it lo 1 n
    refine W.item i s _ _ hg st fun v h' tk hv st' kk => ?_
    obtain ⟨t, rfl⟩ := hv
    have I1 : Inv X pins σ H { s with heap := h', toks := tk } := I.turned (fun b o hb e => kk b o (by simpa using hb) e) f0 f1 f3 f4 f5
    refine ⟨_, rfl, go_of (s := { s with heap := h', toks := tk }) (n := "range_iterator") st' rfl rfl (by decide) ⟨.int (lo + i), H, I1, ⟨t, ?_⟩, ⟨rfl, rfl⟩, st', fun b hb => (hf b hb).1⟩⟩
    rw [Int.mul_one]
  done := by
    intro X hP hw hK hc i pins s σ H E I hf st hg
    subst hP hw hK
    obtain ⟨f0, f1, f2, f3, f4, f5⟩ := hf it (by simp)
    exact wpAny_pyNext_range_end (I.ok.hd hc) st (by have : n ≤ i := hg; omega) fun h' eb => ⟨rfl, I.turned (t' := s.toks) (fun b o hb e => eb b o hb e) f0 f1 f3 f4 f5⟩
  self := fun _ _ _ _ _ st h => wpAny_pyIter_rangeiter st h
end L2
namespace L2
open PySem PySem.Spec PyProof.Rows
section
variable {X : Cx} {tg : Expr}
def iList (K : PySem.W.Frag) (tl : TE) : TI := fun σ H R => tl σ H fun x H1 => ∃ a, x = .ref a ∧ (∃ xs, SqL K H1 a xs) ∧ R (Itl K a) H1
def iTup (K : PySem.W.Frag) (tl : TE) : TI := fun σ H R => tl σ H fun x H1 => ∃ a, x = .ref a ∧ (∃ xs, SqT K H1 a xs) ∧ R (Itt K a) H1
theorem pi_list {l : Expr} {tl : TE} (hl : PE X l tl) : PI X tg l (iList X.K tl) := by
  intro pins s σ H R I h
  refine thn (hl pins s σ H _ I h) fun v s1 ⟨x, H1, I1, r1, q1⟩ => ?_
  obtain ⟨a, e, ⟨xs, hq⟩, q⟩ := q1
  subst e
  cases r1
  obtain ⟨its, rv, p, hz⟩ := I1.list hq
  refine wpAny_pyIter_list p.isList ?_
  refine ⟨s1.heap.objs.size, [s1.heap.objs.size], _, _, H1, rfl, I1.kept (t' := s1.toks) fun b o e => Heap.get?_push_of_some _ e, turn_list a _, ⟨_, Heap.get?_push_size _ rfl, rfl, rfl⟩, fun b hb => ?_, q⟩
  have e : b = s1.heap.objs.size := by simpa using hb
  subst e
  exact I1.fpOk (Nat.le_refl _) (I1.hok.fresh (Nat.le_refl _))
theorem pi_tup {l : Expr} {tl : TE} (hl : PE X l tl) : PI X tg l (iTup X.K tl) := by
  intro pins s σ H R I h
  refine thn (hl pins s σ H _ I h) fun v s1 ⟨x, H1, I1, r1, q1⟩ => ?_
  obtain ⟨a, e, ⟨xs, hq⟩, q⟩ := q1
  subst e
  cases r1
  obtain ⟨its, rv, p, hz⟩ := I1.tuple hq
  refine wpAny_pyIter_tuple (show s1.heap.IsTuple a its.toArray from p) ?_
  refine ⟨s1.heap.objs.size, [s1.heap.objs.size], _, _, H1, rfl, I1.kept (t' := s1.toks) fun b o e => Heap.get?_push_of_some _ e, turn_tuple a _, ⟨_, Heap.get?_push_size _ rfl, rfl, rfl⟩, fun b hb => ?_, q⟩
  have e : b = s1.heap.objs.size := by simpa using hb
  subst e
  exact I1.fpOk (Nat.le_refl _) (I1.hok.fresh (Nat.le_refl _))
theorem range_it {pins : List (Addr × Obj)} {σ : St} {H : Hp} {s : Shared} {R : It → Hp → Prop} {E : Value → Shared → Prop} {lo hi : Int} {t u v : Tok} {tk : Nat} (I : Inv X pins σ H s) (h1 : -(2 ^ 62) ≤ lo) (h2 : lo < 2 ^ 62) (h3 : -(2 ^ 62) ≤ hi) (h4 : hi < 2 ^ 62)
    (q : R (Itr lo (hi - lo).toNat) H) : wpAny (model X.prog X.w) X.A (pyIter (.ref s.heap.objs.size)) (PIE X pins σ tg R) E { s with heap := s.heap.push { cls := .type "range", data := .fields #[.int lo t, .int hi u, .int 1 v] }, toks := tk } := by
  refine wpAny_pyIter_range (IsRange.new ..) (small_one h1 h2 h3 h4) ?_
  have I1 : Inv X pins σ H { s with heap := s.heap.push { cls := .type "range", data := .fields #[.int lo t, .int hi u, .int 1 v] }, toks := tk } := I.kept fun b o e => Heap.get?_push_of_some _ e
  refine ⟨(s.heap.push { cls := .type "range", data := .fields #[.int lo t, .int hi u, .int 1 v] }).objs.size, [(s.heap.push { cls := .type "range", data := .fields #[.int lo t, .int hi u, .int 1 v] }).objs.size], _, _, H, rfl,
    I1.kept (t' := tk) fun b o e => Heap.get?_push_of_some _ e, turn_range _ lo (hi - lo).toNat, ?_, fun b hb => ?_, q⟩
  · have e1 : lo + ((0 : Nat) : Int) * 1 = lo := by simp
    have e2 : (((hi - lo).toNat : Nat) : Int) - ((0 : Nat) : Int) = Builtin.Range.rangeSize lo hi 1 := by rw [rangeSize_one]; split <;> omega
    show IsRangeIter _ _ (lo + ((0 : Nat) : Int) * 1) ((((hi - lo).toNat : Nat) : Int) - ((0 : Nat) : Int)) 1
    rw [e1, e2]
    exact Heap.get?_push_size _ rfl
  · have e : b = (s.heap.push { cls := .type "range", data := .fields #[.int lo t, .int hi u, .int 1 v] }).objs.size := by simpa using hb
    subst e
    exact I1.fpOk (Nat.le_refl _) (I1.hok.fresh (Nat.le_refl _))
def iRng1 (ta : TA) : TI := fun σ H R => ta σ H fun vs H1 => ∃ j : Int, vs = [.int j] ∧ -(2 ^ 62) ≤ j ∧ j < 2 ^ 62 ∧ R (Itr 0 j.toNat) H1
theorem pi_range1 {a : Expr} {ta : TA} {p pos : Pos} (hg : Gl X "range") (hm : X.mg "range" = none) (ha : PA X [a] ta) (hs : starEach [a] X.env = [(false, eval a X.env)] := by rfl) : PI X tg (.Call (.Name "range" p) [a] [] pos) (iRng1 ta) := by
  intro pins s σ H R I h
  refine Call_ (ld_blt I hg hm boot_range (PyProof.Rows.callWith_type1 (thn (ha pos pins s σ H _ I h) fun us s1 ⟨vs, H1, I1, r1, q1⟩ => ?_) hs rfl))
  obtain ⟨j, e, q1, q2, q⟩ := q1
  subst e
  cases r1 with
  | cons r rr =>
    cases rr
    obtain ⟨t, rfl⟩ := r
    exact call_range_1 (range_it I1 (by omega) (by omega) q1 q2 (by simpa using q))
def tFor (wi : TI) (g : TG) (tb : TS) : TS := fun D σ H => wi σ H fun J H1 => ∃ W : Nat → Nat → St → Hp → Prop, (∃ m, W 0 m σ H1) ∧ ∀ i m σ H, W i m σ H →
  (J.stop i H ∧ D.nx σ H) ∨ (J.go i H ∧ ∃ N : St → Hp → Prop, (∀ σ' H', N σ' H' → ∃ m', m' < m ∧ W (i + 1) m' σ' H') ∧ ∀ x H', J.yld i H x H' → g x σ H' fun σ2 H2 => tb { D with nx := N, ct := N, bk := D.nx } σ2 H2)
def pinsAt (fp : List Addr) (h : Heap) : List (Addr × Obj) := fp.filterMap fun b => (h.get? b).map fun o => (b, o)
theorem mem_pinsAt {fp : List Addr} {h : Heap} {b : Addr} {o : Obj} (hb : b ∈ fp) (e : h.get? b = some o) : (b, o) ∈ pinsAt fp h := List.mem_filterMap.mpr ⟨b, hb, by rw [e]; rfl⟩
theorem of_pinsAt {fp : List Addr} {h : Heap} {p : Addr × Obj} (hp : p ∈ pinsAt fp h) : p.1 ∈ fp ∧ h.get? p.1 = some p.2 := by
  obtain ⟨b, hb, e⟩ := List.mem_filterMap.mp hp
  cases q : h.get? b with
  | none => rw [q] at e; cases e
  | some o =>
    rw [q] at e
    have e' : (b, o) = p := Option.some.inj e
    subst e'
    exact ⟨hb, q⟩
theorem Inv.pinned {pins : List (Addr × Obj)} {σ : St} {H : Hp} {s : Shared} {fp : List Addr} (I : Inv X pins σ H s) (hf : ∀ b ∈ fp, FpOk X pins H b) (ho : ∀ b ∈ fp, ∃ o, s.heap.get? b = some o ∧ ∀ v, o.data ≠ .cell v) : Inv X (pins ++ pinsAt fp s.heap) σ H s :=
  I.pins_of fun p hp => (List.mem_append.mp hp).elim (fun z => I.pin p (List.mem_append_right _ z)) fun z => by
    obtain ⟨hb, e⟩ := of_pinsAt z
    obtain ⟨f0, f1, f2, _⟩ := hf p.1 hb
    obtain ⟨o, e', d⟩ := ho p.1 hb
    rw [e] at e'; cases e'
    exact ⟨e, f0, f1, f2, d⟩
theorem Inv.unpinned {pins pl : List (Addr × Obj)} {σ : St} {H : Hp} {s : Shared} (I : Inv X (pins ++ pl) σ H s) : Inv X pins σ H s := I.pins_of fun p hp => I.pin p (List.mem_append_right _ (List.mem_append_left _ hp))
theorem ps_for {iter : Expr} {body : List Stmt} {wi : TI} {g : TG} {tb : TS} {pos : Pos} (hp : PassesOwn (model X.prog X.w) X.A X.env X.xe) (hc : X.calm = true) (hi : PI X tg iter wi) (hg : PG X tg g) (hb : PSs X body tb)
    (hs : ∀ x, foldedSetIterable iter X.env x = pure x := by intro _; rfl) : PS X (.For tg iter body [] pos) (tFor wi g tb) := by
  intro pins s σ H D I h
  refine wpAny_For (thn (hi pins s σ H _ I h) fun v s1 h1 => thn h1 fun itv s2 h2 => ?_) hs
  obtain ⟨it, fp, tn, J, H2, e, I2, T, st2, f2, W, ⟨m0, w0⟩, turn⟩ := h2
  subst e
  -- what stays true of the iterator's objects through the loop
  have stat : ∀ {H' : Hp}, (∀ b ∈ fp, H' b = none) → ∀ b ∈ fp, FpOk X pins H' b := fun hn b hb => ⟨hn b hb, (f2 b hb).2⟩
  refine codeAny_forLoop_any (fun n s' => ∃ i σ' H', Inv X pins σ' H' s' ∧ tn i s'.heap ∧ (∀ b ∈ fp, H' b = none) ∧ W i n σ' H') ?_ m0 ⟨0, σ, H2, I2, st2, fun b hb => (f2 b hb).1, w0⟩
  rintro n s3 ⟨i, σ3, H3, I3, st3, fr3, w3⟩
  rcases turn i n σ3 H3 w3 with ⟨stop, qn⟩ | ⟨go, N, hN, step⟩
  · refine wpAny_passesOwn hp (thn (T.done X rfl rfl rfl hc i pins s3 σ3 H3 X.xe I3 (stat fr3) st3 stop) fun r s4 ⟨hr, I4⟩ => ?_)
    subst hr
    exact wpAny_execs_nil ⟨σ3, H3, I4, qn⟩
  · refine wpAny_passesOwn hp (thn (T.item X rfl rfl rfl hc i pins s3 σ3 H3 X.xe I3 (stat fr3) st3 go) fun r s4 ⟨u, hr, h4⟩ => ?_)
    subst hr
    refine wpAny_passesOwn hp (thn h4 fun _ s5 ⟨x, H5, I5, r5, y5, st5, fr5⟩ => ?_)
    have I5' := I5.pinned (stat fr5) (T.obj _ _ st5)
    refine wpAny_passesOwn hp (thn (hg _ s5 σ3 H5 x u _ I5' r5 (step x H5 y5)) fun _ s6 ⟨σ6, H6, I6, q6⟩ => ?_)
    refine wpAny_passesOwn hp (thn (hb _ s6 σ6 H6 _ I6 q6) fun f s7 q7 => ?_)
    have again : ∀ {σ7 : St} {H7 : Hp}, Inv X (pins ++ pinsAt fp s5.heap) σ7 H7 s7 → N σ7 H7 → ∃ m, m < n ∧ ∃ i σ' H', Inv X pins σ' H' s7 ∧ tn i s7.heap ∧ (∀ b ∈ fp, H' b = none) ∧ W i m σ' H' := fun {σ7 H7} I7 n7 => by
      obtain ⟨m', hm, w7⟩ := hN σ7 H7 n7
      refine ⟨m', hm, i + 1, σ7, H7, I7.unpinned, T.keep _ _ _ st5 fun b hb o e => (I7.pin (b, o) (List.mem_append_right _ (List.mem_append_right _ (mem_pinsAt hb e)))).1, fun b hb => ?_, w7⟩
      obtain ⟨o, e, d⟩ := T.obj _ _ st5 b hb
      exact (I7.pin (b, o) (List.mem_append_right _ (List.mem_append_right _ (mem_pinsAt hb e)))).2.1
    cases f with
    | next => obtain ⟨σ7, H7, I7, n7⟩ := q7; exact again I7 n7
    | cont => obtain ⟨σ7, H7, I7, n7⟩ := q7; exact again I7 n7
    | brk => obtain ⟨σ7, H7, I7, q7⟩ := q7; exact ⟨σ7, H7, I7.unpinned, q7⟩
    | ret v => obtain ⟨x7, σ7, H7, I7, r7, q7⟩ := q7; exact ⟨x7, σ7, H7, I7.unpinned, r7, q7⟩
end
theorem for_list {K : PySem.W.Frag} {a : Addr} {xs : List V} {g : TG} {tb : TS} {D : Ends} {σ : St} {H : Hp} (Pv : Nat → St → Hp → Prop) (h0 : Pv 0 σ H) (hl : ∀ i σ H, i ≤ xs.length → Pv i σ H → SqL K H a xs)
    (hs : ∀ i x σ H, xs[i]? = some x → Pv i σ H → g x σ H fun σ2 H2 => tb { D with nx := Pv (i + 1), ct := Pv (i + 1), bk := D.nx } σ2 H2) (hd : ∀ σ H, Pv xs.length σ H → D.nx σ H) :
    ∃ W : Nat → Nat → St → Hp → Prop, (∃ m, W 0 m σ H) ∧ ∀ i m σ H, W i m σ H →
      ((Itl K a).stop i H ∧ D.nx σ H) ∨ ((Itl K a).go i H ∧ ∃ N : St → Hp → Prop, (∀ σ' H', N σ' H' → ∃ m', m' < m ∧ W (i + 1) m' σ' H') ∧ ∀ x H', (Itl K a).yld i H x H' → g x σ H' fun σ2 H2 => tb { D with nx := N, ct := N, bk := D.nx } σ2 H2) := by
  refine ⟨fun i m σ H => m = xs.length - i ∧ i ≤ xs.length ∧ Pv i σ H, ⟨xs.length, by simp, Nat.zero_le _, h0⟩, ?_⟩
  rintro i m σ H ⟨rfl, hi, p⟩
  have q := hl i σ H hi p
  by_cases hlt : i < xs.length
  · refine .inr ⟨⟨xs, xs[i], q, by simp [hlt]⟩, Pv (i + 1), fun σ' H' p' => ⟨xs.length - (i + 1), by omega, rfl, hlt, p'⟩, fun x H' y => ?_⟩
    obtain ⟨e, y⟩ := y
    subst e
    exact hs i x σ _ (y xs q) p
  · have e : i = xs.length := by omega
    subst e
    exact .inl ⟨⟨xs, q, Nat.le_refl _⟩, hd σ H p⟩
theorem for_range {lo : Int} {n : Nat} {g : TG} {tb : TS} {D : Ends} {σ : St} {H : Hp} (Pv : Nat → St → Hp → Prop) (h0 : Pv 0 σ H)
    (hs : ∀ i σ H, i < n → Pv i σ H → g (.int (lo + i)) σ H fun σ2 H2 => tb { D with nx := Pv (i + 1), ct := Pv (i + 1), bk := D.nx } σ2 H2) (hd : ∀ σ H, Pv n σ H → D.nx σ H) :
    ∃ W : Nat → Nat → St → Hp → Prop, (∃ m, W 0 m σ H) ∧ ∀ i m σ H, W i m σ H →
      ((Itr lo n).stop i H ∧ D.nx σ H) ∨ ((Itr lo n).go i H ∧ ∃ N : St → Hp → Prop, (∀ σ' H', N σ' H' → ∃ m', m' < m ∧ W (i + 1) m' σ' H') ∧ ∀ x H', (Itr lo n).yld i H x H' → g x σ H' fun σ2 H2 => tb { D with nx := N, ct := N, bk := D.nx } σ2 H2) := by
  refine ⟨fun i m σ H => m = n - i ∧ i ≤ n ∧ Pv i σ H, ⟨n, by simp, Nat.zero_le _, h0⟩, ?_⟩
  rintro i m σ H ⟨rfl, hi, p⟩
  by_cases hlt : i < n
  · refine .inr ⟨hlt, Pv (i + 1), fun σ' H' p' => ⟨n - (i + 1), by omega, rfl, hlt, p'⟩, fun x H' y => ?_⟩
    obtain ⟨e, y⟩ := y
    subst e y
    exact hs i σ _ hlt p
  · have e : i = n := by omega
    subst e
    exact .inl ⟨Nat.le_refl _, hd σ H p⟩
end L2
namespace L2
open PySem PySem.Spec PyProof.Rows
abbrev R2 := V → V → Hp → VK → Prop
def OpR (X : Cx) (f : Value → Value → Sem Value) (r : R2) : Prop :=
  ∀ (pins : List (Addr × Obj)) (s : Shared) (σ : St) (H : Hp) (x y : V) (v u : Value) (Q : VK), Inv X pins σ H s → RelV x v → RelV y u → r x y H Q →
    wpAny (model X.prog X.w) X.A (f v u) (EP X pins σ Q) X.xe s
def CallR (X : Cx) (f : Value) (r : List V → Hp → VK → Prop) : Prop :=
  ∀ (pins : List (Addr × Obj)) (s : Shared) (σ : St) (H : Hp) (xs : List V) (us : List Value) (Q : VK), Inv X pins σ H s → Vals xs us → r xs H Q →
    wpAny (model X.prog X.w) X.A (call f us) (EP X pins σ Q) X.xe s
def tOp (r : R2) (ta tb : TE) : TE := fun σ H Q => ta σ H fun x H1 => tb σ H1 fun y H2 => r x y H2 Q
def rI (C : Int → Int → Prop) (g : Int → Int → V) : R2 := fun x y H Q => ∃ i j, x = .int i ∧ y = .int j ∧ C i j ∧ Q (g i j) H
def rI0 (g : Int → Int → V) : R2 := fun x y H Q => ∃ i j, x = .int i ∧ y = .int j ∧ Q (g i j) H
section
variable {X : Cx} {a b c : Expr} {ta tb tc : TE} {pos : Pos}
theorem binT (ha : PE X a ta) (hb : PE X b tb) {pins : List (Addr × Obj)} {s : Shared} {σ : St} {H : Hp} {R : V → V → Hp → Prop} (I : Inv X pins σ H s)
    (h : ta σ H fun x H1 => tb σ H1 fun y H2 => R x y H2) {Q : Value → Shared → Prop} {f : Value → Value → Sem Value}
    (hf : ∀ v u s2 x y H2, Inv X pins σ H2 s2 → RelV x v → RelV y u → R x y H2 → wpAny (model X.prog X.w) X.A (f v u) Q X.xe s2) :
    wpAny (model X.prog X.w) X.A (eval a X.env) (fun v s₁ => wpAny (model X.prog X.w) X.A (eval b X.env) (fun u s₂ => wpAny (model X.prog X.w) X.A (f v u) Q X.xe s₂) X.xe s₁) X.xe s := by
  refine thn (ha pins s σ H _ I h) fun v s1 ⟨x, H1, I1, r1, q1⟩ => ?_
  refine thn (hb pins s1 σ H1 _ I1 q1) fun u s2 ⟨y, H2, I2, r2, q2⟩ => ?_
  exact hf v u s2 x y H2 I2 r1 r2 q2
theorem pe_op {op : Operator} {r : R2} (ho : OpR X (binaryOp op) r) (ha : PE X a ta) (hb : PE X b tb) : PE X (.BinOp a op b pos) (tOp r ta tb) := by
  intro pins s σ H Q I h
  exact wpAny_BinOp (binT ha hb I h fun v u s2 x y H2 I2 rx ry q => ho pins s2 σ H2 x y v u Q I2 rx ry q)
theorem opI {f : Value → Value → Sem Value} {C : Int → Int → Prop} {g : Int → Int → Int}
    (rule : ∀ (i j : Int) (t u : Tok) (s : Shared) (Q : Value → Shared → Prop) (E : Value → Shared → Prop), C i j → Q (.int (g i j) s.toks) { s with toks := s.toks + 1 } → wpAny (model X.prog X.w) X.A (f (.int i t) (.int j u)) Q E s) :
    OpR X f (rI C fun i j => .int (g i j)) := by
  intro pins s σ H x y v u Q I rx ry h
  obtain ⟨i, j, rfl, rfl, hc, q⟩ := h
  obtain ⟨t, rfl⟩ := rx
  obtain ⟨t', rfl⟩ := ry
  exact rule i j t t' s _ _ hc ⟨.int (g i j), H, I.tok _, ⟨_, rfl⟩, q⟩
theorem opI0 {f : Value → Value → Sem Value} {g : Int → Int → Int}
    (rule : ∀ (i j : Int) (t u : Tok) (s : Shared) (Q : Value → Shared → Prop) (E : Value → Shared → Prop), Q (.int (g i j) s.toks) { s with toks := s.toks + 1 } → wpAny (model X.prog X.w) X.A (f (.int i t) (.int j u)) Q E s) :
    OpR X f (rI0 fun i j => .int (g i j)) := by
  intro pins s σ H x y v u Q I rx ry h
  obtain ⟨i, j, rfl, rfl, q⟩ := h
  obtain ⟨t, rfl⟩ := rx
  obtain ⟨t', rfl⟩ := ry
  exact rule i j t t' s _ _ ⟨.int (g i j), H, I.tok _, ⟨_, rfl⟩, q⟩
theorem opB0 {f : Value → Value → Sem Value} {g : Int → Int → Bool}
    (rule : ∀ (i j : Int) (t u : Tok) (s : Shared) (Q : Value → Shared → Prop) (E : Value → Shared → Prop), Q (.bool (g i j)) s → wpAny (model X.prog X.w) X.A (f (.int i t) (.int j u)) Q E s) :
    OpR X f (rI0 fun i j => .bl (g i j)) := by
  intro pins s σ H x y v u Q I rx ry h
  obtain ⟨i, j, rfl, rfl, q⟩ := h
  obtain ⟨t, rfl⟩ := rx
  obtain ⟨t', rfl⟩ := ry
  exact rule i j t t' s _ _ ⟨.bl (g i j), H, I, rfl, q⟩
def CPow (i j : Int) : Prop := 0 ≤ j ∧ j ≤ 1000000 ∧ i.natAbs < 2 ^ 64
def CMul (i j : Int) : Prop := (-(2 ^ 64) < i ∧ i < 2 ^ 64) ∨ (-(2 ^ 64) < j ∧ j < 2 ^ 64)
theorem CMul.ok {i j : Int} (h : CMul i j) : IntMulOk i j := by
  rcases h with ⟨h1, h2⟩ | ⟨h1, h2⟩
  · exact .of_left (intBits_le_64 h1 h2)
  · exact .of_right (intBits_le_64 h1 h2)
theorem two_pow_nn (k : Nat) : (0 : Int) ≤ 2 ^ k := by
  rw [two_pow_cast]
  exact Int.natCast_nonneg _
theorem op_add : OpR X (binaryOp .Add) (rI0 fun i j => .int (i + j)) := opI0 fun _ _ _ _ _ _ _ q => add_int q
theorem op_sub : OpR X (binaryOp .Sub) (rI0 fun i j => .int (i - j)) := opI0 fun _ _ _ _ _ _ _ q => sub_int q
theorem op_mul : OpR X (binaryOp .Mult) (rI CMul fun i j => .int (i * j)) := opI fun _ _ _ _ _ _ _ hc q => mul_int q hc.ok
theorem op_mod : OpR X (binaryOp .Mod) (rI (fun _ j => 0 < j) fun i j => .int (i % j)) := opI fun i j _ _ _ _ _ hc q => by
  have h1 : (0 : Int) < j := hc
  exact mod_int' (by omega) (by rw [Int.fmod_eq_emod_of_nonneg i (by omega)]; exact q)
theorem op_shl : OpR X (binaryOp .LShift) (rI CPow fun i j => .int (i * 2 ^ j.toNat)) := opI fun _ _ _ _ _ _ _ hc q => lshift_int_small hc.1 hc.2.1 hc.2.2 q
theorem op_shr : OpR X (binaryOp .RShift) (rI (fun _ j => 0 ≤ j) fun i j => .int (i / 2 ^ j.toNat)) := opI fun i j _ _ _ _ _ hc q =>
  rshift_int hc (by rw [Int.fdiv_eq_ediv_of_nonneg i (two_pow_nn _)]; exact q)
theorem op_or : OpR X (binaryOp .BitOr) (rI0 fun i j => .int (Builtin.bitOr i j)) := opI0 fun _ _ _ _ _ _ _ q => or_int q
theorem op_xor : OpR X (binaryOp .BitXor) (rI0 fun i j => .int (Builtin.bitXor i j)) := opI0 fun _ _ _ _ _ _ _ q => xor_int q
end
def scal : V → V → Bool
  | .non, .non => true | .non, .int _ => true | .int _, .non => true | .non, .bl _ => true | .bl _, .non => true | .non, .str _ => true | .str _, .non => true
  | .int _, .int _ => true | .bl _, .bl _ => true | .str _, .str _ => true | .byt _, .byt _ => true
  | .int _, .str _ => true | .str _, .int _ => true | .bl _, .str _ => true | .str _, .bl _ => true
  | _, _ => false
def rEq : R2 := fun x y H Q => scal x y = true ∧ Q (.bl (decide (x = y))) H
def rNe : R2 := fun x y H Q => scal x y = true ∧ Q (.bl (!decide (x = y))) H
theorem dec_int {i j : Int} : decide (V.int i = V.int j) = (i == j) := by
  rw [Bool.eq_iff_iff]
  simp
theorem dec_bl {i j : Bool} : decide (V.bl i = V.bl j) = (i == j) := by
  rw [Bool.eq_iff_iff]
  simp
theorem dec_str {i j : Str} : decide (V.str i = V.str j) = (i == j) := by
  rw [Bool.eq_iff_iff]
  simp
theorem dec_byt {i j : Array UInt8} : decide (V.byt i = V.byt j) = (i.toList == j.toList) := by
  rw [Bool.eq_iff_iff]
  cases i
  cases j
  simp
section
variable {X : Cx} {a b c : Expr} {ta tb tc : TE} {pos : Pos}
theorem fin_bl {pins : List (Addr × Obj)} {σ : St} {H : Hp} {s : Shared} {Q : VK} {k k' : Bool} (I : Inv X pins σ H s) (q : Q (.bl k) H) (e : k = k') : EP X pins σ Q (.bool k') s := by
  subst e
  exact ⟨.bl k, H, I, rfl, q⟩
theorem op_eq : OpR X (compareOp .Eq) rEq := by
  intro pins s σ H x y v u Q I rx ry h
  obtain ⟨hs, q⟩ := h
  cases x with
  | non =>
    cases rx
    cases y with
    | non => cases ry; exact PySem.EqNone.eq_none_none (fin_bl I q (by simp))
    | bl j => cases ry; exact PySem.EqNone.eq_none_bool (fin_bl I q (by simp))
    | int j => obtain ⟨t', rfl⟩ := ry; exact PySem.EqNone.eq_none_int (fin_bl I q (by simp))
    | str j => obtain ⟨t', rfl⟩ := ry; exact PySem.EqNone.eq_none_str (fin_bl I q (by simp))
    | _ => exact absurd (show false = true from hs) Bool.false_ne_true
  | bl i =>
    cases rx
    cases y with
    | non => cases ry; exact PySem.EqNone.eq_bool_none (fin_bl I q (by simp))
    | bl j => cases ry; exact eq_bool (fin_bl I q dec_bl)
    | str j => obtain ⟨t', rfl⟩ := ry; exact PySem.EqMixed.eq_bool_str (fin_bl I q (by simp))
    | _ => exact absurd (show false = true from hs) Bool.false_ne_true
  | int i =>
    obtain ⟨t, rfl⟩ := rx
    cases y with
    | non => cases ry; exact PySem.EqNone.eq_int_none (fin_bl I q (by simp))
    | int j => obtain ⟨t', rfl⟩ := ry; exact eq_int (fin_bl I q dec_int)
    | str j => obtain ⟨t', rfl⟩ := ry; exact PySem.EqMixed.eq_int_str (fin_bl I q (by simp))
    | _ => exact absurd (show false = true from hs) Bool.false_ne_true
  | str i =>
    obtain ⟨t, rfl⟩ := rx
    cases y with
    | non => cases ry; exact PySem.EqNone.eq_str_none (fin_bl I q (by simp))
    | bl j => cases ry; exact PySem.EqMixed.eq_str_bool (fin_bl I q (by simp))
    | int j => obtain ⟨t', rfl⟩ := ry; exact PySem.EqMixed.eq_str_int (fin_bl I q (by simp))
    | str j => obtain ⟨t', rfl⟩ := ry; exact eq_str (fin_bl I q dec_str)
    | _ => exact absurd (show false = true from hs) Bool.false_ne_true
  | byt i =>
    obtain ⟨t, rfl⟩ := rx
    cases y with
    | byt j => obtain ⟨t', rfl⟩ := ry; exact PySem.W.eq_bytes (fin_bl I q dec_byt)
    | _ => exact absurd (show false = true from hs) Bool.false_ne_true
  | _ => cases y <;> exact absurd (show false = true from hs) Bool.false_ne_true
theorem op_ne : OpR X (compareOp .NotEq) rNe := by
  intro pins s σ H x y v u Q I rx ry h
  obtain ⟨hs, q⟩ := h
  cases x with
  | non =>
    cases rx
    cases y with
    | non => cases ry; exact PySem.EqNone.ne_none_none (fin_bl I q (by simp))
    | bl j => cases ry; exact PySem.EqNone.ne_none_bool (fin_bl I q (by simp))
    | int j => obtain ⟨t', rfl⟩ := ry; exact PySem.EqNone.ne_none_int (fin_bl I q (by simp))
    | str j => obtain ⟨t', rfl⟩ := ry; exact PySem.EqNone.ne_none_str (fin_bl I q (by simp))
    | _ => exact absurd (show false = true from hs) Bool.false_ne_true
  | bl i =>
    cases rx
    cases y with
    | non => cases ry; exact PySem.EqNone.ne_bool_none (fin_bl I q (by simp))
    | bl j => cases ry; exact ne_bool (fin_bl I q (congrArg not dec_bl))
    | str j => obtain ⟨t', rfl⟩ := ry; exact PySem.EqMixed.ne_bool_str (fin_bl I q (by simp))
    | _ => exact absurd (show false = true from hs) Bool.false_ne_true
  | int i =>
    obtain ⟨t, rfl⟩ := rx
    cases y with
    | non => cases ry; exact PySem.EqNone.ne_int_none (fin_bl I q (by simp))
    | int j => obtain ⟨t', rfl⟩ := ry; exact ne_int (fin_bl I q (congrArg not dec_int))
    | str j => obtain ⟨t', rfl⟩ := ry; exact PySem.EqMixed.ne_int_str (fin_bl I q (by simp))
    | _ => exact absurd (show false = true from hs) Bool.false_ne_true
  | str i =>
    obtain ⟨t, rfl⟩ := rx
    cases y with
    | non => cases ry; exact PySem.EqNone.ne_str_none (fin_bl I q (by simp))
    | bl j => cases ry; exact PySem.EqMixed.ne_str_bool (fin_bl I q (by simp))
    | int j => obtain ⟨t', rfl⟩ := ry; exact PySem.EqMixed.ne_str_int (fin_bl I q (by simp))
    | str j => obtain ⟨t', rfl⟩ := ry; exact ne_str (fin_bl I q (congrArg not dec_str))
    | _ => exact absurd (show false = true from hs) Bool.false_ne_true
  | byt i =>
    obtain ⟨t, rfl⟩ := rx
    cases y with
    | byt j => obtain ⟨t', rfl⟩ := ry; exact PySem.W.ne_bytes (fin_bl I q (congrArg not dec_byt))
    | _ => exact absurd (show false = true from hs) Bool.false_ne_true
  | _ => cases y <;> exact absurd (show false = true from hs) Bool.false_ne_true
theorem op_lt : OpR X (compareOp .Lt) (rI0 fun i j => .bl (decide (i < j))) := opB0 fun _ _ _ _ _ _ _ q => lt_int q
theorem op_gt : OpR X (compareOp .Gt) (rI0 fun i j => .bl (decide (j < i))) := opB0 fun _ _ _ _ _ _ _ q => gt_int q
theorem op_isN : OpR X (compareOp .Is) (fun x y H Q => y = .non ∧ Q (.bl (decide (x = .non))) H) := by
  intro pins s σ H x y v u Q I rx ry h
  obtain ⟨rfl, q⟩ := h
  cases ry
  refine is_none_gen (fin_bl I q ?_)
  cases x <;> first
    | (cases rx; rfl)
    | (obtain ⟨t, rfl⟩ := rx; rfl)
theorem nomark (b : Expr) {op : CmpOp} (h : op ≠ .In := by decide) (h2 : op ≠ .NotIn := by decide) : behindInMarks op b = false := by
  have e1 : (op == CmpOp.In) = false := by cases op <;> first | rfl | exact absurd rfl h
  have e2 : (op == CmpOp.NotIn) = false := by cases op <;> first | rfl | exact absurd rfl h2
  cases b <;> simp [behindInMarks, e1, e2]
def tTest (t : TE) : TT := fun σ H Q => t σ H fun x H' => ∃ k, x = .bl k ∧ Q k H'
theorem pt_cmpR {op : CmpOp} {r : R2} (ho : OpR X (compareOp op) r) (ha : PE X a ta) (hb : PE X b tb) (hm : behindInMarks op b = false) : PT X (.Compare a [op] [b] pos) (tTest (tOp r ta tb)) := by
  intro pins s σ H Q I h
  refine wpAny_isTrue_Compare1 (thn (ha pins s σ H _ I h) fun v s1 ⟨x, H1, I1, r1, q1⟩ => thn (hb pins s1 σ H1 _ I1 q1) fun u s2 ⟨y, H2, I2, r2, q2⟩ =>
    thn (ho pins s2 σ H2 x y v u _ I2 r1 r2 q2) fun c s3 ⟨z, H3, I3, r3, k, e, q3⟩ => ?_) hm
  subst e
  cases r3
  exact wpAny_truthy_bool ⟨H3, I3, q3⟩
theorem line63 : (sizeLine : Nat) < 2 ^ 63 := by rw [sizeLine_eq]; decide
theorem op_add_str : OpR X (binaryOp .Add) (fun x y H Q => ∃ i j, x = .str i ∧ y = .str j ∧ i.length + j.length ≤ sizeLine ∧ Q (.str (i ++ j)) H) := by
  intro pins s σ H x y v u Q I rx ry h
  obtain ⟨i, j, rfl, rfl, hz, q⟩ := h
  obtain ⟨t, rfl⟩ := rx
  obtain ⟨t', rfl⟩ := ry
  exact add_str (fun t' tk => ⟨.str (i ++ j), H, I.tok _, ⟨_, rfl⟩, q⟩) hz
theorem vals1 {x : V} {us : List Value} (r : Vals [x] us) : ∃ u, us = [u] ∧ RelV x u := by
  cases r with
  | cons r1 r2 => cases r2; exact ⟨_, rfl, r1⟩
theorem vals2 {x y : V} {us : List Value} (r : Vals [x, y] us) : ∃ u w', us = [u, w'] ∧ RelV x u ∧ RelV y w' := by
  cases r with
  | cons r1 r2 =>
    cases r2 with
    | cons r3 r4 => cases r4; exact ⟨_, _, rfl, r1, r3⟩
theorem call_max2 (hc : X.calm = true) : CallR X (.builtin "max") (fun xs H Q => ∃ i j, xs = [.int i, .int j] ∧ Q (.int (if j > i then j else i)) H) := by
  intro pins s σ H xs us Q I r h
  obtain ⟨i, j, rfl, q⟩ := h
  obtain ⟨u, w', rfl, ⟨t, rfl⟩, ⟨t', rfl⟩⟩ := vals2 r
  refine max_two_ints (I.ok.hd hc) fun h' tk k => ⟨_, H, I.kept k, ?_, q⟩
  by_cases hj : j > i
  · rw [if_pos hj, if_pos hj]; exact ⟨_, rfl⟩
  · rw [if_neg hj, if_neg hj]; exact ⟨_, rfl⟩
theorem call_min2 (hc : X.calm = true) : CallR X (.builtin "min") (fun xs H Q => ∃ i j, xs = [.int i, .int j] ∧ Q (.int (if j < i then j else i)) H) := by
  intro pins s σ H xs us Q I r h
  obtain ⟨i, j, rfl, q⟩ := h
  obtain ⟨u, w', rfl, ⟨t, rfl⟩, ⟨t', rfl⟩⟩ := vals2 r
  refine min_two_ints (I.ok.hd hc) fun h' tk k => ⟨_, H, I.kept k, ?_, q⟩
  by_cases hj : j < i
  · rw [if_pos hj, if_pos hj]; exact ⟨_, rfl⟩
  · rw [if_neg hj, if_neg hj]; exact ⟨_, rfl⟩
theorem call_str_int : CallR X (.type "str") (fun xs H Q => ∃ i, xs = [.int i] ∧ i.natAbs.log2 < 1920 ∧ Q (.str (toString i)) H) := by
  intro pins s σ H xs us Q I r h
  obtain ⟨i, rfl, hz, q⟩ := h
  obtain ⟨u, rfl, t, rfl⟩ := vals1 r
  exact PySem.P.str_of_int hz ⟨.str _, H, I.tok _, ⟨_, rfl⟩, q⟩
end
end L2
namespace L2
open PySem PySem.Spec PyProof.Rows
structure ObjM (h : Heap) (x dx C : Addr) (mA : Str → Option Value) : Prop where
  obj : h.get? x = some (PySem.W.instObj C dx)
  ns : h.Ns1 dx mA
  ne : dx ≠ x
theorem lookIn_ns {h : Heap} {dx : Addr} {mA : Str → Option Value} (n : h.Ns1 dx mA) : ∃ od, h.get? dx = some od ∧ ∀ name, PySem.W.lookIn name od = some (mA name) := by
  obtain ⟨o, es, ep, ho, hd, hk, _, hm⟩ := n
  refine ⟨o, ho, fun name => ?_⟩
  have e := hm name
  unfold nsFind findBy at e
  rw [← Array.find?_toList] at e
  unfold PySem.W.lookIn
  rw [hd]
  dsimp only
  split
  · rename_i y q
    rw [q] at e
    exact congrArg some e
  · rename_i q
    rw [q] at e
    have a : es.toList.any (·.refKey) = false := by
      rw [List.any_eq_false]
      intro y hy
      obtain ⟨z, t, hkey⟩ := hk y (Array.mem_toList_iff.mp hy)
      simp [DictEntry.refKey, hkey]
    have a' : ¬ es.toList.any (·.refKey) = true := by rw [a]; exact Bool.false_ne_true
    rw [if_neg a']
    exact congrArg some e
theorem ObjM.look {h : Heap} {x dx C : Addr} {mA : Str → Option Value} (I : ObjM h x dx C mA) : ∃ od, PySem.W.InstAt h x (PySem.W.instObj C dx) C (some od) ∧ ∀ name, PySem.W.lookIn name od = some (mA name) :=
  let ⟨od, ho, hl⟩ := lookIn_ns I.ns
  ⟨od, ⟨I.obj, rfl, rfl, ho⟩, hl⟩
section
variable {prog : Program} {w : World} {A : Around} {E : Value → Shared → Prop} {s : Shared} {K : PySem.W.Frag} {x dx C f : Addr} {mA : Str → Option Value} {name : Str} {v : Value}
theorem get_map {expr : Bool} {Q : Value → Shared → Prop} (X : K.In s.heap) (I : ObjM s.heap x dx C mA) (hg : PySem.W.plainGet K C name = true) (hh : PySem.W.hasDictIn K C = true)
    (ha : PySem.W.findIn K (.ref C) name = some none) (hv : mA name = some v) (hv' : PySem.W.handedIn v = true) (h : Q v { s with toks := s.toks + 1 }) :
    wpAny (model prog w) A (getAttr (.ref x) name expr) Q E s := by
  obtain ⟨od, J, hl⟩ := I.look
  exact PySem.W.get_value X J (PySem.W.plainGet_of hg).1 (PySem.W.findObj_own hh ha rfl (by rw [hl, hv])) hv' h
theorem get_meth {pl : Sem Bool} {Q : Value × List Value → Shared → Prop} (X : K.In s.heap) (I : ObjM s.heap x dx C mA) (hg : PySem.W.plainGet K C name = true)
    (hf : PySem.W.findIn K (.ref C) name = some (some (.ref f))) (ht : PySem.W.isFn K (.ref f) = true) (hv : mA name = none) (h : Q (.ref f, [.ref x]) s) :
    wpAny (model prog w) A (getMethod (.ref x) name pl) Q E s := by
  obtain ⟨od, J, hl⟩ := I.look
  exact PySem.W.method_fn X J (PySem.W.plainGet_of hg).1 (PySem.W.plainGet_of hg).2 hf (beq_iff_eq.mp ht) (by show (PySem.W.lookIn name od).map (·.isSome) = some false; rw [hl, hv]; rfl) h
theorem set_map {ns : List Str} {Q : Unit → Shared → Prop} (X : K.In s.heap) (I : ObjM s.heap x dx C mA)
    (hs : PySem.W.findIn K (.ref C) "__setattr__" = some (some (.builtin "object.__setattr__"))) (hp : PySem.W.plainOver K C = true) (ht : PySem.W.takerIn K C name = some none) (hh : PySem.W.hasDictIn K C = true)
    (hw : PySem.Within mA ns) (hsz : ns.length ≤ sizeLine)
    (h : ∀ h', ObjM h' x dx C (fun y => if y = name then some v else mA y) → Heap.SameBut dx s.heap h' → Q () { s with heap := h', toks := s.toks + 2 }) :
    wpAny (model prog w) A (setAttr (.ref x) name v) Q E s := by
  obtain ⟨od, J, hl⟩ := I.look
  refine PySem.W.set_plain X J hs (PySem.W.osa_open (s := { s with toks := s.toks + 1 }) (r := none) X J hp ht fun b => ?_)
  obtain ⟨cd, hc, hd'⟩ := PySem.W.any_some hh
  have hx : s.heap.get? x = some ⟨.ref C, some dx, .plain, #[]⟩ := I.obj
  refine wpAny_bind (wpAny_pure (wpAny_bind (wpAny_bind (wpAny_loadPart hx (wpAny_bind (PySem.W.Looks.here (s := { s with toks := s.toks + 1 }) (PySem.W.looks_clsIn X hc) ?_))))))
  rw [hd']
  refine wpAny_pure (a := some dx) (wpAny_bind (wpAny_pure (wpAny_bind ?_)))
  refine wpAny_nsSet1 (s := { s with toks := s.toks + 1 }) I.ns fun h' hn2 hs2 => ?_
  obtain ⟨oD, esD, epD, hoD, hdD, hcD⟩ := hn2.count (PySem.Within.cons name v hw)
  refine wpAny_bind (wpAny_lookBehind hoD (by rw [hdD]; exact pastItsLine_dict (Nat.le_trans hcD (by rw [List.length_cons]; omega))) ?_)
  exact wpAny_pure (h _ ⟨(hs2.2 _ (Ne.symm I.ne)).trans I.obj, hn2, I.ne⟩ hs2)
theorem make_map {R : Result → Shared → Prop} {vs : List Value} {kw : List (Str × Value)} (X : K.In s.heap) (hm : PySem.W.makesIn K C = true)
    (hi : PySem.W.findIn K (.ref C) "__init__" = some (some (.ref f))) (hf : PySem.W.typeIn K (.ref f) = some (.type "function"))
    (h : codeAny (model prog w) (A.under (.builtin "type.__call__" ⟨.ref C :: vs, kw⟩)) (.call (.ref f) ⟨.ref (s.heap.objs.size + 1) :: vs, kw⟩) (PySem.W.InitBack (s.heap.objs.size + 1) R)
      { s with heap := (s.heap.push PySem.W.emptyDict).push (PySem.W.instObj C s.heap.objs.size) }) :
    codeAny (model prog w) A (.call (.ref C) ⟨vs, kw⟩) R s := by
  obtain ⟨hh, g, d, t, os⟩ := s
  exact PySem.W.make_core (PySem.W.makes_of X hm) (PySem.W.looks_findIn X hi) (fun self => PySem.W.bind_fn X self hf) (.inl rfl) h
end
def putF (f : Str) (v : V) : List (Str × V) → List (Str × V)
  | [] => [(f, v)]
  | (g, x) :: r => if g = f then (g, v) :: r else (g, x) :: putF f v r
theorem lookup_putF (f g : Str) (v : V) : ∀ fs : List (Str × V), (putF f v fs).lookup g = if g = f then some v else fs.lookup g
  | [] => by
    show List.lookup g [(f, v)] = _
    by_cases h : g = f
    · have hb : (g == f) = true := beq_iff_eq.mpr h
      simp only [List.lookup, hb, if_pos h]
    · have hb : (g == f) = false := beq_eq_false_iff_ne.mpr h
      simp only [List.lookup, hb, if_neg h]
  | (k, x) :: r => by
    have ih := lookup_putF f g v r
    rw [show putF f v ((k, x) :: r) = (if k = f then (k, v) :: r else (k, x) :: putF f v r) from rfl]
    by_cases hk : k = f
    · rw [if_pos hk]
      by_cases h : g = k
      · have hb : (g == k) = true := beq_iff_eq.mpr h
        simp only [List.lookup, hb, if_pos (h.trans hk)]
      · have hb : (g == k) = false := beq_eq_false_iff_ne.mpr h
        simp only [List.lookup, hb, if_neg (fun e : g = f => h (e.trans hk.symm))]
    · rw [if_neg hk]
      by_cases h : g = k
      · have hb : (g == k) = true := beq_iff_eq.mpr h
        simp only [List.lookup, hb, if_neg (fun e : g = f => hk (h.symm.trans e))]
      · have hb : (g == k) = false := beq_eq_false_iff_ne.mpr h
        simp only [List.lookup, hb]
        exact ih
theorem keys_putF (f : Str) (v : V) : ∀ fs : List (Str × V), f ∈ (putF f v fs).map (·.1) ∧ ∀ g, g ∈ fs.map (·.1) → g ∈ (putF f v fs).map (·.1)
  | [] => ⟨by simp [putF], fun g h => by simp at h⟩
  | (k, x) :: r => by
    obtain ⟨i1, i2⟩ := keys_putF f v r
    rw [show putF f v ((k, x) :: r) = (if k = f then (k, v) :: r else (k, x) :: putF f v r) from rfl]
    by_cases hk : k = f
    · rw [if_pos hk]
      subst hk
      exact ⟨by simp, fun g h => by simpa using h⟩
    · rw [if_neg hk]
      refine ⟨?_, fun g h => ?_⟩
      · rw [List.map_cons]
        exact List.mem_cons_of_mem _ i1
      · rw [List.map_cons] at h ⊢
        rcases List.mem_cons.mp h with e | e
        · exact List.mem_cons.mpr (.inl e)
        · exact List.mem_cons_of_mem _ (i2 g e)
theorem length_putF (f : Str) (v : V) : ∀ fs : List (Str × V), (putF f v fs).length ≤ fs.length + 1
  | [] => by simp [putF]
  | (k, x) :: r => by
    have ih := length_putF f v r
    rw [show putF f v ((k, x) :: r) = (if k = f then (k, v) :: r else (k, x) :: putF f v r) from rfl]
    by_cases hk : k = f
    · rw [if_pos hk, List.length_cons, List.length_cons]; omega
    · rw [if_neg hk, List.length_cons, List.length_cons]; omega
theorem RelO.some_of {v : V} {o : Option Value} (r : RelO (some v) o) : ∃ u, o = some u ∧ RelV v u := by
  cases o with
  | none => exact (show False from r).elim
  | some u => exact ⟨u, rfl, r⟩
theorem RelO.none_of {o : Option Value} (r : RelO none o) : o = none := by
  cases o with
  | none => rfl
  | some u => exact (show False from r).elim
theorem handed_of {v : V} {u : Value} (r : RelV v u) : PySem.W.handedIn u = true := by
  cases v with
  | non => cases (show u = Value.none from r); rfl
  | bl b => cases (show u = Value.bool b from r); rfl
  | int i => obtain ⟨t, e⟩ := (show ∃ t, u = Value.int i t from r); cases e; rfl
  | str x => obtain ⟨t, e⟩ := (show ∃ t, u = Value.str x t from r); cases e; rfl
  | byt b => obtain ⟨t, e⟩ := (show ∃ t, u = Value.bytes b t from r); cases e; rfl
  | flt b => obtain ⟨t, e⟩ := (show ∃ t, u = Value.float b t from r); cases e; rfl
  | ref a => cases (show u = Value.ref a from r); rfl
  | ty n => cases (show u = Value.type n from r); rfl
section
variable {P : Program} {w : World} {H H' : Hp} {h h' : Heap} {a C dx : Addr} {fs fs' : List (Str × V)}
theorem ins_get (hok : HOk P w H h) (e : H a = some (.ins C dx fs)) : ∃ mA, ObjM h a dx C mA ∧ (∀ f, RelO (fs.lookup f) (mA f)) ∧ PySem.Within mA (fs.map (·.1)) ∧ fs.length ≤ 1000 ∧ H dx = some (.own a) := by
  obtain ⟨d, z, ne, ob, mA, n, r, q⟩ := (show ObjOk P w H h a (.ins C dx fs) from hok a _ e)
  exact ⟨mA, ⟨ob, n, ne⟩, r, q, z, d⟩
end
structure Cls (K : PySem.W.Frag) (C : Addr) : Prop where
  pg : PySem.W.plainGet K C Str.empty = true
  hd : PySem.W.hasDictIn K C = true
  po : PySem.W.plainOver K C = true
  sa : PySem.W.findIn K (.ref C) "__setattr__" = some (some (.builtin "object.__setattr__"))
theorem Cls.get {K : PySem.W.Frag} {C : Addr} (c : Cls K C) (f : Str) : PySem.W.plainGet K C f = true := c.pg
def NoAttr (K : PySem.W.Frag) (C : Addr) (f : Str) : Prop := PySem.W.findIn K (.ref C) f = some none
theorem NoAttr.taker {K : PySem.W.Frag} {C : Addr} {f : Str} (n : NoAttr K C f) : PySem.W.takerIn K C f = some none := by
  unfold PySem.W.takerIn
  rw [show PySem.W.findIn K (.ref C) f = some none from n]
  rfl
structure Meth (K : PySem.W.Frag) (C : Addr) (m : Str) (f : Addr) : Prop where
  at_ : PySem.W.findIn K (.ref C) m = some (some (.ref f))
  fn : PySem.W.isFn K (.ref f) = true
  kp : PySem.W.keepIn K (.ref f) = true
section
variable {X : Cx} {pins : List (Addr × Obj)} {σ : St} {H : Hp} {s : Shared} {a C dx : Addr} {fs : List (Str × V)} {f : Str} {v : V} {A : Around} {E : Value → Shared → Prop}
theorem getattr_ok {b : Bool} {Q : Value → Shared → Prop} (I : Inv X pins σ H s) (e : H a = some (.ins C dx fs)) (c : Cls X.K C) (n : NoAttr X.K C f) (l : fs.lookup f = some v)
    (h : ∀ u s', Inv X pins σ H s' → RelV v u → Q u s') : wpAny (model X.prog X.w) A (getAttr (.ref a) f b) Q E s := by
  obtain ⟨mA, O, r, _, _, _⟩ := ins_get I.hok e
  obtain ⟨u, hu, ru⟩ := RelO.some_of (v := v) (o := mA f) (by rw [← l]; exact r f)
  exact get_map I.kIn O (c.get f) c.hd n hu (handed_of ru) (h u _ (I.tok _) ru)
theorem getmeth_ok {m : Str} {g : Addr} {pl : Sem Bool} {Q : Value × List Value → Shared → Prop} (I : Inv X pins σ H s) (e : H a = some (.ins C dx fs)) (c : Cls X.K C) (k : Meth X.K C m g) (l : fs.lookup m = none)
    (h : Q (.ref g, [.ref a]) s) : wpAny (model X.prog X.w) A (getMethod (.ref a) m pl) Q E s := by
  obtain ⟨mA, O, r, _, _, _⟩ := ins_get I.hok e
  have hn : mA m = none := RelO.none_of (by rw [← l]; exact r m)
  exact get_meth I.kIn O (c.get m) k.at_ k.fn hn h
theorem setattr_ok {y : V} {u : Value} {Q : Unit → Shared → Prop} (I : Inv X pins σ H s) (e : H a = some (.ins C dx fs)) (c : Cls X.K C) (n : NoAttr X.K C f) (hl : fs.length < 1000) (ry : RelV y u)
    (h : ∀ s', Inv X pins σ (upd H a (.ins C dx (putF f y fs))) s' → Q () s') : wpAny (model X.prog X.w) A (setAttr (.ref a) f u) Q E s := by
  obtain ⟨mA, O, r, wi, _, ho⟩ := ins_get I.hok e
  have hz : (fs.map (·.1)).length ≤ sizeLine := by rw [List.length_map, sizeLine_eq]; omega
  refine set_map I.kIn O c.sa c.po n.taker c.hd wi hz fun h' O' sb => h _ ?_
  have hd : ∃ o, h'.get? dx = some o := let ⟨o, _, _, e', _⟩ := O'.ns; ⟨o, e'⟩
  refine I.write (x := a) (e := dx) (by rw [e]; exact True.intro) (.inr ho) (fun b q hb z => (sb.2 b hb).trans z) hd ?_
  refine ⟨by rw [upd_ne O.ne]; exact ho, ?_, O.ne, O'.obj, _, O'.ns, fun g => ?_, fun g hg => ?_⟩
  · have := length_putF f y fs; omega
  · show RelO ((putF f y fs).lookup g) (if g = f then some u else mA g)
    rw [lookup_putF]
    by_cases q : g = f
    · rw [if_pos q, if_pos q]; exact ry
    · rw [if_neg q, if_neg q]; exact r g
  · by_cases q : g = f
    · rw [q]; exact (keys_putF f y fs).1
    · refine (keys_putF f y fs).2 g (wi g fun z => hg ?_)
      show (if g = f then some u else mA g) = none
      rw [if_neg q]; exact z
theorem Inv.made (I : Inv X pins σ H s) : Inv X pins σ (upd (upd H s.heap.objs.size (.own (s.heap.objs.size + 1))) (s.heap.objs.size + 1) (.ins C s.heap.objs.size []))
    { s with heap := (s.heap.push PySem.W.emptyDict).push (PySem.W.instObj C s.heap.objs.size) } := by
  have e1 : (s.heap.push PySem.W.emptyDict).get? s.heap.objs.size = some PySem.W.emptyDict := Heap.get?_push_size s.heap rfl
  have e2 : ((s.heap.push PySem.W.emptyDict).push (PySem.W.instObj C s.heap.objs.size)).get? (s.heap.objs.size + 1) = some (PySem.W.instObj C s.heap.objs.size) := by
    have := Heap.get?_push_size (s.heap.push PySem.W.emptyDict) (o := PySem.W.instObj C s.heap.objs.size) rfl
    rwa [Heap.size_push] at this
  have e3 : (s.heap.push PySem.W.emptyDict).Ns s.heap.objs.size (fun _ => none) := ⟨PySem.W.emptyDict, #[], _, e1, rfl, (fun e he => absurd he (by simp)), fun _ => rfl⟩
  have I1 := I.laid (a := s.heap.objs.size) (o := .own (s.heap.objs.size + 1)) (h' := s.heap.push PySem.W.emptyDict) (t' := s.toks) (fun b u q => Heap.get?_push_of_some _ q) (Nat.le_refl _) ⟨_, e1⟩
  refine I1.laid (a := s.heap.objs.size + 1) (o := .ins C s.heap.objs.size []) (t' := s.toks) (fun b u q => Heap.get?_push_of_some _ q) (Nat.le_of_eq (Heap.size_push _ _)) ?_
  have ne : s.heap.objs.size ≠ s.heap.objs.size + 1 := Nat.ne_of_lt (Nat.lt_succ_self _)
  refine ⟨by rw [upd_ne ne, upd_same], Nat.zero_le _, ne, e2, fun _ => none, (Heap.Ns1.of_empty e3).at fun o q => Heap.get?_push_of_some _ q, fun _ => True.intro, fun y hy => absurd rfl hy⟩
theorem attr_of {prog : Program} {w : World} {env : Env} {e : Expr} {f : Str} {pos : Pos} {s : Shared} {Q : Value → Shared → Prop} (hb : attributeBase e f env (eval e env) = eval e env)
    (h : wpAny (model prog w) A (eval e env) (fun o s₁ => wpAny (model prog w) A (getAttr o f true) Q E s₁) E s) : wpAny (model prog w) A (eval (.Attribute e f pos) env) Q E s :=
  Attribute_any_ h (by rw [arm_eval_Attribute, hb])
end
def tFld (K : PySem.W.Frag) (ta : TE) (f : Str) : TE := fun σ H Q => ta σ H fun x H1 => ∃ a C dx fs v, x = .ref a ∧ H1 a = some (.ins C dx fs) ∧ Cls K C ∧ NoAttr K C f ∧ fs.lookup f = some v ∧ Q v H1
def sFld (K : PySem.W.Frag) (ta tv : TE) (f : Str) : TS := fun D σ H => tv σ H fun y H1 => ta σ H1 fun x H2 => ∃ a C dx fs, x = .ref a ∧ H2 a = some (.ins C dx fs) ∧ Cls K C ∧ NoAttr K C f ∧ fs.length < 1000 ∧
  D.nx σ (upd H2 a (.ins C dx (putF f y fs)))
section
variable {X : Cx} {o e value : Expr} {f : Str} {pos pos' tpos : Pos} {ta tv : TE}
theorem pe_fld (he : PE X e ta) (hb : attributeBase e f X.env (eval e X.env) = eval e X.env) : PE X (.Attribute e f pos) (tFld X.K ta f) := by
  intro pins s σ H Q I h
  refine attr_of hb (thn (he pins s σ H _ I h) fun u s1 ⟨x, H1, I1, rx, a, C, dx, fs, v, ex, ea, c, n, l, q⟩ => ?_)
  subst ex
  obtain rfl : u = Value.ref a := rx
  exact getattr_ok I1 ea c n l fun u' s2 I2 ru => ⟨v, H1, I2, ru, q⟩
theorem ps_fld (ha : PE X o ta) (hv : PE X value tv) (hs : swapsWith value (some (.Attribute o f pos')) pos.line X.env = pure false) : PS X (.Assign [.Attribute o f pos'] value pos) (sFld X.K ta tv f) := by
  intro pins s σ H D I h
  refine plainObj_wpAny_Assign_Attribute (thn (hv pins s σ H _ I h) fun u s1 ⟨y, H1, I1, ry, q⟩ => thn (ha pins s1 σ H1 _ I1 q) fun ov s2 ⟨x, H2, I2, rx, a, C, dx, fs, ex, ea, c, n, l, q2⟩ => ?_) hs
  subst ex
  obtain rfl : ov = Value.ref a := rx
  exact setattr_ok I2 ea c n l ry fun s3 I3 => ⟨σ, _, I3, q2⟩
end
section
variable {X : Cx} {pins : List (Addr × Obj)} {σ : St} {H : Hp} {s : Shared} {A : Around} {E : Value → Shared → Prop} {Q : Value → Shared → Prop} {c : Value} {b : Bool}
inductive TyOf (K : PySem.W.Frag) (H : Hp) : V → Value → Prop where
  | non : TyOf K H .non (.type "NoneType")
  | bl (x : Bool) : TyOf K H (.bl x) (.type "bool")
  | int (i : Int) : TyOf K H (.int i) (.type "int")
  | str (x : Str) : TyOf K H (.str x) (.type "str")
  | flt (x : UInt64) : TyOf K H (.flt x) (.type "float")
  | lst {a : Addr} {xs : List V} (e : H a = some (.lst xs)) : TyOf K H (.ref a) (.type "list")
  | frz {a : Addr} {o : Obj} {xs : List V} (e : H a = some (.frz o (.lst xs))) : TyOf K H (.ref a) (.type "list")
  | tup {a : Addr} {xs : List V} (e : H a = some (.tup xs)) : TyOf K H (.ref a) (.type "tuple")
  | dK {a : Addr} {kvs : List (Key × V)} (e : H a = some (.dK kvs)) : TyOf K H (.ref a) (.type "dict")
  | dT {a : Addr} {kvs : List (List Key × V)} (e : H a = some (.dT kvs)) : TyOf K H (.ref a) (.type "dict")
  | ins {a C dx : Addr} {fs : List (Str × V)} (e : H a = some (.ins C dx fs)) (cl : Cls K C) (ha : PySem.W.findIn K (.ref C) "__class__" = some (some (.builtin "object.__class__")))
      (hn : PySem.W.specialIn K (.builtin "object.__class__") "__get__" = some (some (.builtin "getset_descriptor.__get__"))) (htk : PySem.W.takesIn K (.builtin "object.__class__") = some true)
      (hm : PySem.W.mroIn K C (.type "object") = some true) : TyOf K H (.ref a) (.ref C)
theorem isinst_ok {x : V} {u t : Value} (I : Inv X pins σ H s) (rx : RelV x u) (ty : TyOf X.K H x t) (e : PySem.W.kitOne X.K t c = some b) (h : ∀ tk, Q (.bool b) { s with toks := tk }) :
    wpAny (model X.prog X.w) A (call (.builtin "isinstance") [u, c]) Q E s := by
  cases ty with
  | non => cases (show u = Value.none from rx); exact PySem.W.kia_one PySem.W.kitx_none I.kIn True.intro e (fun z => nomatch z) h
  | bl y => cases (show u = Value.bool y from rx); exact PySem.W.kia_one PySem.W.kitx_bool I.kIn True.intro e (fun z => nomatch z) h
  | int i => obtain ⟨t, q⟩ := (show ∃ t, u = Value.int i t from rx); cases q; exact PySem.W.kia_one PySem.W.kitx_int I.kIn True.intro e (fun z => nomatch z) h
  | str y => obtain ⟨t, q⟩ := (show ∃ t, u = Value.str y t from rx); cases q; exact PySem.W.kia_one PySem.W.kitx_str I.kIn True.intro e (fun z => nomatch z) h
  | flt y => obtain ⟨t, q⟩ := (show ∃ t, u = Value.float y t from rx); cases q; exact PySem.W.kia_one PySem.W.kitx_float I.kIn True.intro e (fun z => nomatch z) h
  | @lst a xs ea =>
    cases (show u = Value.ref a from rx)
    obtain ⟨_, _, n, _, h1⟩ := (show ObjOk X.prog X.w H s.heap a (.lst xs) from I.hok a _ ea)
    exact PySem.W.kia_one PySem.W.kitx_list I.kIn ⟨_, h1, rfl⟩ e (fun z => nomatch z) h
  | @frz a ob xs ea =>
    cases (show u = Value.ref a from rx)
    obtain ⟨_, _, _, n, _, h1⟩ := (show ObjOk X.prog X.w H s.heap a (.frz ob (.lst xs)) from I.hok a _ ea)
    exact PySem.W.kia_one PySem.W.kitx_list I.kIn ⟨_, h1, rfl⟩ e (fun z => nomatch z) h
  | @tup a xs ea =>
    cases (show u = Value.ref a from rx)
    obtain ⟨_, _, _, p⟩ := (show ObjOk X.prog X.w H s.heap a (.tup xs) from I.hok a _ ea)
    obtain ⟨o, h1, h2, _⟩ := p
    exact PySem.W.kia_one PySem.W.kitx_tuple I.kIn ⟨o, h1, h2⟩ e (fun z => nomatch z) h
  | @dK a kvs ea =>
    cases (show u = Value.ref a from rx)
    obtain ⟨_, _, vs, _, p⟩ := (show ObjOk X.prog X.w H s.heap a (.dK kvs) from I.hok a _ ea)
    obtain ⟨o, es, ep, h1, h2, _⟩ := p
    exact PySem.W.kia_one PySem.W.kitx_dict I.kIn ⟨o, h1, h2.1⟩ e (fun z => nomatch z) h
  | @dT a kvs ea =>
    cases (show u = Value.ref a from rx)
    obtain ⟨_, _, xs, _, o, es, ep, h1, h2, _⟩ := (show ObjOk X.prog X.w H s.heap a (.dT kvs) from I.hok a _ ea)
    exact PySem.W.kia_one PySem.W.kitx_dict I.kIn ⟨o, h1, h2.1⟩ e (fun z => nomatch z) h
  | @ins a C dx fs ea cl ha hn htk hm =>
    cases (show u = Value.ref a from rx)
    obtain ⟨mA, O, _⟩ := ins_get I.hok ea
    obtain ⟨od, J, _⟩ := O.look
    exact PySem.W.kia_one (PySem.W.kitx_own (cl.get _) cl.hd ha hn htk hm) I.kIn J e (fun z => nomatch z) h
end
end L2
namespace L2
open PySem PySem.Spec PyProof.Rows
structure Room (k : Nat) (A : Around) : Prop where
  hd : A.handled = none
  dp : A.depth + 3 * k + 5 < recursionLimit
  un : A.units + 16 * k + 200 < cLine
  gd : A.guards = some []
theorem Room.mono {j k : Nat} {A : Around} (r : Room k A) (h : j ≤ k) : Room j A := ⟨r.hd, by have := r.dp; omega, by have := r.un; omega, r.gd⟩
theorem Room.deeper {k : Nat} {A : Around} (r : Room (k + 1) A) (env : Env) : Room k (A.deeper env) :=
  ⟨r.hd, by have := r.dp; show A.depth + 1 + 3 * k + 5 < _; omega, by have := r.un; show A.units + 3 + 16 * k + 200 < _; omega, r.gd⟩
theorem Room.in1 {k : Nat} {A : Around} (r : Room (k + 1) A) : Room k A.in1 :=
  ⟨r.hd, by have := r.dp; show A.depth + 3 * k + 5 < _; omega, by have := r.un; show A.units + 1 + 16 * k + 200 < _; omega, r.gd⟩
theorem make_depth {A : Around} {C : Addr} {us : List Value} {kw : List (Str × Value)} : (A.under (.builtin "type.__call__" ⟨.ref C :: us, kw⟩)).depth = A.depth + 1 := by
  first | rfl | simp [Around.under, Code.weight, Code.isCreation, Code.isGuard, Code.isCaller, Code.frames, Code.isFrame, guardIds]
theorem make_units {A : Around} {C : Addr} {us : List Value} {kw : List (Str × Value)} : (A.under (.builtin "type.__call__" ⟨.ref C :: us, kw⟩)).units = A.units + 1 := by
  first | rfl | simp [Around.under, Code.cUnits, Code.frames, Code.isFrame]
theorem make_guards {A : Around} {C : Addr} {us : List Value} {kw : List (Str × Value)} : (A.under (.builtin "type.__call__" ⟨.ref C :: us, kw⟩)).guards = A.guards := by
  first | rfl | (cases h : A.guards <;> simp [Around.under, Code.guards, Code.isGuard, guardIds, pushGuards, h])
theorem Room.make {k : Nat} {A : Around} (r : Room (k + 1) A) (C : Addr) (us : List Value) (kw : List (Str × Value)) : Room k (A.under (.builtin "type.__call__" ⟨.ref C :: us, kw⟩)) :=
  ⟨r.hd, by have := r.dp; rw [make_depth]; omega, by have := r.un; rw [make_units]; omega, by rw [make_guards]; exact r.gd⟩
theorem Room.depth {k : Nat} {A : Around} (r : Room k A) : A.depth < recursionLimit := by have := r.dp; omega
theorem Room.units {k : Nat} {A : Around} (r : Room k A) : A.units + 64 < cLine := by have := r.un; omega
def tNil : TA := fun _ H Q => Q [] H
def tCons (ta : TE) (tr : TA) : TA := fun σ H Q => ta σ H fun x H1 => tr σ H1 fun xs H2 => Q (x :: xs) H2
section
variable {X : Cx} {e : Expr} {es : List Expr} {te : TE} {t : TA} {pos : Pos}
theorem pa_nil : PA X [] tNil := fun _ _ _ _ H Q I h => Calls.spliced_nil ⟨[], H, I, .nil, h⟩
theorem pa_cons (ha : PE X e te) (hr : PA X es t) (hs : starEach (e :: es) X.env = (false, eval e X.env) :: starEach es X.env := by rfl) : PA X (e :: es) (tCons te t) := by
  intro pos pins s σ H Q I h
  rw [hs]
  show wpAny _ _ (spliced ((false, eval e X.env) :: backTo pos (starEach es X.env))) _ _ s
  refine Calls.spliced_cons (thn (ha pins s σ H _ I h) fun u s1 ⟨x, H1, I1, r1, q1⟩ => ?_)
  exact thn (hr pos pins s1 σ H1 _ I1 q1) fun us s2 ⟨xs, H2, I2, r2, q2⟩ => ⟨x :: xs, H2, I2, .cons r1 r2, q2⟩
def tTup (t : TA) : TE := fun σ H Q => t σ H fun xs H1 => xs.length ≤ sizeLine ∧ ∀ p, H1 p = none → Q (.ref p) (upd H1 p (.tup xs))
def tLst (t : TA) : TE := fun σ H Q => t σ H fun xs H1 => xs.length ≤ sizeLine ∧ ∀ p, H1 p = none → Q (.ref p) (upd H1 p (.lst xs))
theorem pe_tup {x1} (h : PA X es t) : PE X (.Tuple es x1 pos) (tTup t) := by
  intro pins s σ H Q I hq
  refine wpAny_Tuple_spliced (thn (h pos pins s σ H _ I hq) fun us s1 ⟨xs, H1, I1, r, z, q⟩ => ⟨by rw [← r.length]; exact z, ?_⟩)
  have hf : H1 s1.heap.objs.size = none := I1.hok.fresh (Nat.le_refl _)
  refine ⟨.ref s1.heap.objs.size, upd H1 s1.heap.objs.size (.tup xs), I1.laid (t' := s1.toks) (fun b u e => Heap.get?_push_of_some _ e) (Nat.le_refl _) ?_, rfl, q _ hf⟩
  exact ⟨z, us, r, ⟨_, Heap.get?_push_size _ rfl, rfl, _, rfl⟩⟩
theorem pe_lst (h : PA X es t) : PE X (.List es pos) (tLst t) := by
  intro pins s σ H Q I hq
  refine wpAny_List_spliced (thn (h pos pins s σ H _ I hq) fun us s1 ⟨xs, H1, I1, r, z, q⟩ => ⟨by rw [← r.length]; exact z, ?_⟩)
  have hf : H1 s1.heap.objs.size = none := I1.hok.fresh (Nat.le_refl _)
  refine ⟨.ref s1.heap.objs.size, upd H1 s1.heap.objs.size (.lst xs), I1.laid (t' := s1.toks) (fun b u e => Heap.get?_push_of_some _ e) (Nat.le_refl _) ?_, rfl, q _ hf⟩
  exact ⟨z, us, 0, r, Heap.get?_push_size _ rfl⟩
end
abbrev Sp := List V → Hp → VK → XK → Prop
abbrev CXT := List Env → Hp → Shared → XK → Value → Shared → Prop
structure Env0 (P : Program) (w : World) (K : PySem.W.Frag) (mg : Str → Option Value) (base : Heap) (A : Around) (outer : List Env) (s : Shared) (H : Hp) : Prop where
  frames : A.frames = some outer
  mod : Mod K mg base
  bs : ∀ b o, base.get? b = some o → s.heap.get? b = some o ∧ H b = none
  bsz : base.objs.size ≤ s.heap.objs.size
  funs : s.heap.FunFrames base outer
  frf : ∀ b ∈ frs outer, H b = none
  hok : HOk P w H s.heap
  bare : AllBare s.gens
def CE (outer : List Env) (P : Program) (w : World) (H : Hp) (s : Shared) (Q : VK) (u : Value) (s' : Shared) : Prop :=
  ∃ v H', s'.os = s.os ∧ AllBare s'.gens ∧ Un (frs outer) [] H H' s.heap s'.heap ∧ HOk P w H' s'.heap ∧ RelV v u ∧ Q v H'
def CR (CX : CXT) (outer : List Env) (P : Program) (w : World) (H : Hp) (s : Shared) (Q : VK) (E : XK) (r : Result) (s' : Shared) : Prop :=
  match r with
  | .ok (.ret u) => CE outer P w H s Q u s'
  | .ok _ => False
  | .error e => CX outer H s E e s'
structure FnOk (P : Program) (w : World) (K : PySem.W.Frag) (mg : Str → Option Value) (base : Heap) (CX : CXT) (k : Nat) (f : Addr) (fd : FuncData) (ps : List Str) (sp : Sp) : Prop where
  len : ∀ vs H Q E, sp vs H Q E → vs.length = ps.length
  run : ∀ (A : Around) (outer : List Env) (s : Shared) (H : Hp) (args : Args) (us : List Value) (vs : List V) (Q : VK) (E : XK), Room k A → Env0 P w K mg base A outer s H → BindsTo s fd args (ps.zip us) → Vals vs us → sp vs H Q E →
    codeAny (model P w) A (.call (.ref f) args) (CR CX outer P w H s Q E) s
theorem Env0.make {P : Program} {w : World} {K : PySem.W.Frag} {mg : Str → Option Value} {base : Heap} {A : Around} {outer : List Env} {s : Shared} {H : Hp} (e : Env0 P w K mg base A outer s H) (C : Addr) (us : List Value) (kw : List (Str × Value)) :
    Env0 P w K mg base (A.under (.builtin "type.__call__" ⟨.ref C :: us, kw⟩)) outer s H := ⟨by first | exact e.frames | (simpa [Around.under, Code.envs, Code.isFrame, pushEnvs] using e.frames), e.mod, e.bs, e.bsz, e.funs, e.frf, e.hok, e.bare⟩
theorem Env0.in1 {P : Program} {w : World} {K : PySem.W.Frag} {mg : Str → Option Value} {base : Heap} {A : Around} {outer : List Env} {s : Shared} {H : Hp} (e : Env0 P w K mg base A outer s H) :
    Env0 P w K mg base A.in1 outer s H := ⟨e.frames, e.mod, e.bs, e.bsz, e.funs, e.frf, e.hok, e.bare⟩
section
variable {X : Cx} {pins : List (Addr × Obj)} {σ : St} {H : Hp} {s s' : Shared}
theorem Inv.env0 (I : Inv X pins σ H s) : Env0 X.prog X.w X.K X.mg X.base X.A X.stack s H :=
  ⟨I.ok.frames, I.ok.mod, I.bs, Nat.le_trans I.ok.bsz I.sz, I.stack, I.stkFree, I.hok, I.bare⟩
theorem Inv.after {Q : VK} {u : Value} (I : Inv X pins σ H s) (h : CE X.stack X.prog X.w H s Q u s') : EP X pins σ Q u s' := by
  obtain ⟨v, H', os, bare, un, hok, r, q⟩ := h
  obtain ⟨hh, g, d, t, os'⟩ := s'
  obtain rfl : os' = s.os := os
  exact ⟨v, H', I.call (h' := hh) (g' := g) (d' := d) (t' := t) (ch := []) un hok bare (fun b z => absurd z (by simp)), r, q⟩
end
def tCall (sp : Sp) (dvs : List V) (E : XK) (t : TA) : TE := fun σ H Q => t σ H fun vs H1 => sp (vs ++ dvs) H1 Q E
def tMake (C : Addr) (sp : Sp) (dvs : List V) (E : XK) (t : TA) : TE := fun σ H Q => t σ H fun vs H1 => ∀ x dx, H1 x = none → H1 dx = none → dx ≠ x →
  sp (.ref x :: (vs ++ dvs)) (upd (upd H1 dx (.own x)) x (.ins C dx [])) (fun v H2 => v = .non ∧ Q (.ref x) H2) E
def Binds (K : PySem.W.Frag) (fd : FuncData) (ps : List Str) (ds : List Value) : Prop :=
  ∀ (s : Shared) (us : List Value), K.In s.heap → (us ++ ds).length = ps.length → BindsTo s fd ⟨us, []⟩ (ps.zip (us ++ ds))
theorem Binds.all {K : PySem.W.Frag} {fd : FuncData} {ps : List Str} (h : ∀ us : List Value, us.length = ps.length → bindArgs fd ⟨us, []⟩ = pure (ps.zip us)) : Binds K fd ps [] := fun s us _ hl => by
  rw [List.append_nil] at hl ⊢
  exact .of_eq (h us hl)
def Passes (CX : CXT) (X : Cx) (E : XK) : Prop := ∀ (pins : List (Addr × Obj)) (σ : St) (H : Hp) (s : Shared) (e : Value) (s' : Shared), Inv X pins σ H s → CX X.stack H s E e s' → X.xe e s'
section
variable {X : Cx} {CX : CXT} {k : Nat} {f C : Addr} {fd : FuncData} {ps : List Str} {sp : Sp} {dvs : List V} {ds : List Value} {E : XK} {x m : Str} {p pos apos : Pos} {e o : Expr} {es : List Expr} {ta : TE} {t : TA}
theorem run_fn {pins : List (Addr × Obj)} {σ : St} {H : Hp} {s : Shared} {Q : VK} {us : List Value} {vs : List V} (F : FnOk X.prog X.w X.K X.mg X.base CX k f fd ps sp) (hr : Room k X.A) (hb : Binds X.K fd ps ds) (hd : Vals dvs ds) (hx : Passes CX X E)
    (I : Inv X pins σ H s) (r : Vals vs us) (h : sp (vs ++ dvs) H Q E) : wpAny (model X.prog X.w) X.A (call (.ref f) us) (EP X pins σ Q) X.xe s := by
  have r2 : Vals (vs ++ dvs) (us ++ ds) := r.append hd
  have hl : (us ++ ds).length = ps.length := by rw [← r2.length]; exact F.len _ _ _ _ h
  refine wpAny_call (codeAny_mono (F.run X.A X.stack s H ⟨us, []⟩ (us ++ ds) (vs ++ dvs) Q E hr I.env0 (hb s us I.kIn hl) r2 h) fun r s' hq => ?_)
  cases r with
  | error e => exact hx pins σ H s e s' I hq
  | ok fl =>
    cases fl with
    | ret u => exact I.after hq
    | next => exact False.elim hq
    | brk => exact False.elim hq
    | cont => exact False.elim hq
theorem pe_call (F : FnOk X.prog X.w X.K X.mg X.base CX k f fd ps sp) (hr : Room k X.A) (hg : Gl X x) (hm : X.mg x = some (.ref f)) (hk : PySem.W.keepIn X.K (.ref f) = true) (hb : Binds X.K fd ps ds) (hd : Vals dvs ds) (hx : Passes CX X E)
    (ha : PA X (e :: es) t) (hdb : (x == ("__debug__" : Str)) = false := by decide) (he : starEach (e :: es) X.env = (false, eval e X.env) :: starEach es X.env := by rfl) (hpl : (backTo pos (starEach es X.env)).any (·.1) = false := by rfl) :
    PE X (.Call (.Name x p) (e :: es) [] pos) (tCall sp dvs E t) := by
  intro pins s σ H Q I h
  refine wpAny_Call_Name_kw (ld_glob I hg hm ?_ hdb)
  refine PySem.W.callWith_K (h₀ := X.base) I.ok.mod.kin hk (thn (ha pos pins s σ H _ I h) fun us s1 ⟨vs, H1, I1, r, q⟩ => ⟨I1.kIn, ?_⟩) he hpl
  exact run_fn F hr hb hd hx I1 r q
theorem pe_call0 (F : FnOk X.prog X.w X.K X.mg X.base CX k f fd ps sp) (hr : Room k X.A) (hg : Gl X x) (hm : X.mg x = some (.ref f)) (hk : PySem.W.keepIn X.K (.ref f) = true) (hb : Binds X.K fd ps ds) (hd : Vals dvs ds) (hx : Passes CX X E)
    (hdb : (x == ("__debug__" : Str)) = false := by decide) : PE X (.Call (.Name x p) [] [] pos) (tCall sp dvs E tNil) := by
  intro pins s σ H Q I h
  refine wpAny_Call_Name_kw (ld_glob I hg hm ?_ hdb)
  exact PySem.W.callWith_K0 I.kIn hk (run_fn (us := []) F hr hb hd hx I .nil h)
structure Mk (K : PySem.W.Frag) (C f : Addr) : Prop where
  makes : PySem.W.makesIn K C = true
  init : PySem.W.findIn K (.ref C) "__init__" = some (some (.ref f))
  fn : PySem.W.isFn K (.ref f) = true
  kp : PySem.W.keepIn K (.ref C) = true
theorem run_make {pins : List (Addr × Obj)} {σ : St} {H : Hp} {s : Shared} {Q : VK} {us : List Value} {vs : List V} (M : Mk X.K C f) (F : FnOk X.prog X.w X.K X.mg X.base CX k f fd ps sp) (hr : Room (k + 1) X.A) (hb : Binds X.K fd ps ds) (hd : Vals dvs ds)
    (hx : Passes CX X E) (I : Inv X pins σ H s) (r : Vals vs us)
    (h : ∀ x dx, H x = none → H dx = none → dx ≠ x → sp (.ref x :: (vs ++ dvs)) (upd (upd H dx (.own x)) x (.ins C dx [])) (fun v H2 => v = .non ∧ Q (.ref x) H2) E) :
    wpAny (model X.prog X.w) X.A (call (.ref C) us) (EP X pins σ Q) X.xe s := by
  have hq := h (s.heap.objs.size + 1) s.heap.objs.size (I.hok.fresh (Nat.le_succ _)) (I.hok.fresh (Nat.le_refl _)) (Nat.ne_of_lt (Nat.lt_succ_self _))
  have I2 := Inv.made (C := C) I
  have r2 : Vals (V.ref (s.heap.objs.size + 1) :: (vs ++ dvs)) (Value.ref (s.heap.objs.size + 1) :: (us ++ ds)) := .cons rfl (r.append hd)
  have hl : (Value.ref (s.heap.objs.size + 1) :: us ++ ds).length = ps.length := by
    have e := r2.length
    rw [F.len _ _ _ _ hq] at e
    exact e.symm
  refine wpAny_call (make_map (f := f) I.kIn M.makes M.init (beq_iff_eq.mp M.fn) (codeAny_mono (F.run _ X.stack _ _ ⟨Value.ref (s.heap.objs.size + 1) :: us, []⟩ (Value.ref (s.heap.objs.size + 1) :: (us ++ ds)) _ _ E (hr.make C us [])
    (I2.env0.make C us []) (hb _ (Value.ref (s.heap.objs.size + 1) :: us) I2.kIn hl) r2 hq) fun r s' hq' => ?_))
  cases r with
  | error e => exact hx pins σ _ _ e s' I2 hq'
  | ok fl =>
    cases fl with
    | ret u =>
      obtain ⟨v, H', I3, rv, ev, q3⟩ := I2.after hq'
      subst ev
      exact ⟨rv, ⟨V.ref (s.heap.objs.size + 1), H', I3, rfl, q3⟩⟩
    | next => exact False.elim hq'
    | brk => exact False.elim hq'
    | cont => exact False.elim hq'
theorem pe_make (M : Mk X.K C f) (F : FnOk X.prog X.w X.K X.mg X.base CX k f fd ps sp) (hr : Room (k + 1) X.A) (hg : Gl X x) (hm : X.mg x = some (.ref C)) (hb : Binds X.K fd ps ds) (hd : Vals dvs ds) (hx : Passes CX X E)
    (ha : PA X (e :: es) t) (hdb : (x == ("__debug__" : Str)) = false := by decide) (he : starEach (e :: es) X.env = (false, eval e X.env) :: starEach es X.env := by rfl) (hpl : (backTo pos (starEach es X.env)).any (·.1) = false := by rfl) :
    PE X (.Call (.Name x p) (e :: es) [] pos) (tMake C sp dvs E t) := by
  intro pins s σ H Q I h
  refine wpAny_Call_Name_kw (ld_glob I hg hm ?_ hdb)
  refine PySem.W.callWith_K (h₀ := X.base) I.ok.mod.kin M.kp (thn (ha pos pins s σ H _ I h) fun us s1 ⟨vs, H1, I1, r, q⟩ => ⟨I1.kIn, ?_⟩) he hpl
  exact run_make M F hr hb hd hx I1 r q
end
section
variable {X : Cx} {CX : CXT} {k : Nat} {f C : Addr} {fd : FuncData} {ps ks : List Str} {sp : Sp} {E : XK} {x m : Str} {p pos apos kpos : Pos} {e o : Expr} {es : List Expr} {kws : List Keyword} {te ta : TE} {t tk : TA} {nm : Option Str}
variable {g : List Value → List Value → List Value} {gV : List V → List V → List V}
end
structure FnScope (N P : List Str) (sc : Scope) : Prop where
  kind : sc.kind = .function
  co : sc.isCoroutine = false
  gen : sc.isGenerator = false
  nd : N.Nodup
  pre : N.take P.length = P
  par : ∀ x ∈ P, sc.names.lookup x = some .local ∨ sc.names.lookup x = some .cell
  nofree : ∀ y ∈ sc.names, y.2 ≠ .free
theorem bindL_out {kindOf : Str → Option NameKind} {x : Str} : ∀ {binds : List (Str × Value)} {m : Str → Option Value}, (∀ v, (x, v) ∉ binds) → bindL kindOf binds m x = m x
  | [], _, _ => rfl
  | (n, v) :: r, m, h => by
    unfold bindL
    rw [bindL_out fun w hw => h w (List.mem_cons_of_mem _ hw)]
    split
    · have : x ≠ n := by rintro rfl; exact h v List.mem_cons_self
      simp [this]
    · rfl
theorem bindC_out {kindOf : Str → Option NameKind} {x : Str} : ∀ {binds : List (Str × Value)} {m : Str → Option Value}, (∀ v, (x, v) ∉ binds) → bindC kindOf binds m x = m x
  | [], _, _ => rfl
  | (n, v) :: r, m, h => by
    unfold bindC
    rw [bindC_out fun w hw => h w (List.mem_cons_of_mem _ hw)]
    split
    · rfl
    · have : x ≠ n := by rintro rfl; exact h v List.mem_cons_self
      simp [this]
theorem bindL_get {kindOf : Str → Option NameKind} {x : Str} {v : Value} : ∀ {P : List Str} {vs : List Value} {i : Nat} {m : Str → Option Value}, P.Nodup → P[i]? = some x → vs[i]? = some v → kindOf x = some .local →
    bindL kindOf (P.zip vs) m x = some v
  | [], _, _, _, _, h, _, _ => by simp at h
  | _ :: _, [], _, _, _, _, h, _ => by simp at h
  | p :: P, w :: vs, 0, m, nd, h1, h2, hk => by
    simp at h1 h2; subst h1; subst h2
    show bindL kindOf ((p, w) :: P.zip vs) m p = _
    unfold bindL
    rw [bindL_out fun v hv => (List.nodup_cons.mp nd).1 (List.of_mem_zip hv).1, if_pos hk]
    simp
  | p :: P, w :: vs, i + 1, m, nd, h1, h2, hk => by
    show bindL kindOf ((p, w) :: P.zip vs) m x = _
    unfold bindL
    exact bindL_get (i := i) (List.nodup_cons.mp nd).2 (by simpa using h1) (by simpa using h2) hk
theorem bindC_get {kindOf : Str → Option NameKind} {x : Str} {v : Value} : ∀ {P : List Str} {vs : List Value} {i : Nat} {m : Str → Option Value}, P.Nodup → P[i]? = some x → vs[i]? = some v → kindOf x ≠ some .local →
    bindC kindOf (P.zip vs) m x = some v
  | [], _, _, _, _, h, _, _ => by simp at h
  | _ :: _, [], _, _, _, _, h, _ => by simp at h
  | p :: P, w :: vs, 0, m, nd, h1, h2, hk => by
    simp at h1 h2; subst h1; subst h2
    show bindC kindOf ((p, w) :: P.zip vs) m p = _
    unfold bindC
    rw [bindC_out fun v hv => (List.nodup_cons.mp nd).1 (List.of_mem_zip hv).1, if_neg hk]
    simp
  | p :: P, w :: vs, i + 1, m, nd, h1, h2, hk => by
    show bindC kindOf ((p, w) :: P.zip vs) m x = _
    unfold bindC
    exact bindC_get (i := i) (List.nodup_cons.mp nd).2 (by simpa using h1) (by simpa using h2) hk
def start (N : List Str) (vs : List V) : St := vs.map some ++ List.replicate (N.length - vs.length) none
def cxOf (CX : CXT) (P : Program) (w : World) (K : PySem.W.Frag) (mg : Str → Option Value) (base : Heap) (N : List Str) (qual : Str) (scope : Scope) (f : Addr) (cd : Value) (A : Around) (outer : List Env) (s : Shared) (H : Hp) (E : XK) : Cx where
  prog := P
  w := w
  K := K
  mg := mg
  base := base
  A := A.deeper (envOfC qual scope s.heap.objs.size f cd)
  N := N
  s₀ := s
  H₀ := H
  env := envOfC qual scope s.heap.objs.size f cd
  outer := outer
  stack := envOfC qual scope s.heap.objs.size f cd :: outer
  ex := []
  calm := true
  fn := fun _ => true
  pn := []
  xe := fun e s' => wpAny (model P w) (A.deeper (envOfC qual scope s.heap.objs.size f cd)) (leaving (envOfC qual scope s.heap.objs.size f cd) e) (fun _ s'' => CX outer H s E e s'') (fun e' s'' => CX outer H s E e' s'') s'
theorem cell_has {sc : Scope} {n : Nat} {x : Str} (h : sc.names.lookup x = some .cell) : ∃ c, (cellsFrom n sc.names []).lookup x = some c := by
  have q := PySem.W.cellsFrom_some sc.names n [] (.inl h)
  exact Option.isSome_iff_exists.mp q
theorem inv_start {CX : CXT} {P : Program} {w : World} {K : PySem.W.Frag} {mg : Str → Option Value} {base : Heap} {N ps : List Str} {qual : Str} {scope : Scope} {f : Addr} {cd : Value} {A : Around} {outer : List Env} {s s1 : Shared} {H : Hp} {E : XK} {us : List Value} {vs : List V}
    (S : FnScope N ps scope) (hd : A.handled = none) (e0 : Env0 P w K mg base A outer s H) (hl : vs.length = ps.length) (r : Vals vs us)
    (x : InCallC s s.heap.objs.size (bindL (envOfC qual scope s.heap.objs.size f cd).kindOf (ps.zip us) fun _ => none) (cellsFrom (s.heap.objs.size + 1) scope.names []) (bindC (envOfC qual scope s.heap.objs.size f cd).kindOf (ps.zip us) fun _ => none) s1) :
    Inv (cxOf CX P w K mg base N qual scope f cd A outer s H E) [] (start N vs) H s1 := by
  have hpl : ps.length ≤ N.length := by have := congrArg List.length S.pre; rw [List.length_take] at this; omega
  obtain ⟨h1, tk, rfl, hk⟩ := x.done
  have noA : ∀ b : Addr, b ∉ (cxOf CX P w K mg base N qual scope f cd A outer s H E).ex := fun b z => absurd (show b ∈ ([] : List Addr) from z) (by simp)
  refine ⟨⟨e0.mod, S.kind, rfl, rfl, Nat.le_refl _, fun y z c h1 h2 => ?_, fun y hy => ?_, fun y c _ h => ?_, fun _ => hd, Around.frames_deeper e0.frames, .inr ⟨rfl, rfl⟩, fun b z => absurd z (noA b), e0.bs, e0.bsz, fun b _ _ => noA b, fun b z => absurd z (noA b), e0.funs, e0.frf⟩,
    rfl, e0.bare, Un.kept hk, ⟨_, x.toInCall.ns, fun i y v h1 h2 h3 => ?_⟩, fun y c h => ⟨_, x.cell y c h⟩, e0.hok.fresh (Nat.le_refl _), fun y c h => ?_, fun p hp => absurd (show p ∈ ([] : List (Addr × Obj)) from hp) (by simp), e0.hok.kept hk, ?_⟩
  · exact name_of_addr x.apart (PySem.mem_of_lookup h1) (PySem.mem_of_lookup h2)
  · have hy : scope.names.lookup y = some .cell ∨ scope.names.lookup y = some .free := hy
    rcases hy with hy | hy
    · exact cell_has hy
    · exact absurd rfl (S.nofree _ (PySem.mem_of_lookup hy))
  · exact Nat.le_of_lt (x.above y c (PySem.mem_of_lookup h))
  · have hi : i < vs.length := by
      unfold start at h2
      by_cases hi : i < vs.length
      · exact hi
      · rw [List.getElem?_append_right (by simpa using hi)] at h2
        rw [List.getElem?_replicate] at h2
        split at h2 <;> cases h2
    have ha : vs[i]? = some v := by
      unfold start at h2
      rw [List.getElem?_append_left (by simpa using hi), List.getElem?_map] at h2
      cases e : vs[i]? with
      | none => rw [e] at h2; cases h2
      | some a => rw [e] at h2; cases h2; rfl
    obtain ⟨u, hu, rv⟩ := r.get ha
    have hp : ps[i]? = some y := by
      rw [← S.pre, List.getElem?_take_of_lt (by omega)]; exact h1
    have ndP : ps.Nodup := by rw [← S.pre]; exact S.nd.sublist (List.take_sublist _ _)
    refine ⟨u, rv, ?_⟩
    rcases S.par y (List.mem_of_getElem? hp) with k | k
    · exact .inl ⟨k, bindL_get ndP hp hu k⟩
    · obtain ⟨c, e⟩ := cell_has (n := s.heap.objs.size + 1) k
      refine .inr ⟨.inl k, c, e, ?_⟩
      have q := x.cell y c e
      rw [bindC_get ndP hp hu (by show scope.names.lookup y ≠ _; rw [k]; decide)] at q
      exact q
  · exact e0.hok.fresh (Nat.le_of_lt (x.above y c (PySem.mem_of_lookup h)))
  · unfold start
    show _ = N.length
    rw [List.length_append, List.length_map, List.length_replicate]
    omega
theorem fn_of {CX : CXT} {P : Program} {w : World} {K : PySem.W.Frag} {mg : Str → Option Value} {base : Heap} {k : Nat} {f : Addr} {name qual : Str} {params : Arguments} {body : List Stmt} {scope : Scope} {dV kV doc pm cdv ct oc : Value} {an od : Option Addr}
    {osl : Array (Option Value)} {N ps : List Str} {sp : Sp} (lk : K.lookup f = some ⟨oc, od, .func (PySem.W.fnOf name qual params body scope dV kV doc pm an cdv ct), osl⟩) (hcd : PySem.W.codeIn K cdv qual = true) (S : FnScope N ps scope)
    (len : ∀ vs H Q E, sp vs H Q E → vs.length = ps.length)
    (hbody : ∀ (A : Around) (outer : List Env) (s : Shared) (H : Hp) (vs : List V) (Q : VK) (E : XK), Room k (A.deeper (envOfC qual scope s.heap.objs.size f cdv)) → sp vs H Q E →
      ∃ t, PSs (cxOf CX P w K mg base N qual scope f cdv A outer s H E) body t ∧ t { nx := fun _ H' => Q .non H', rt := Q } (start N vs) H) :
    FnOk P w K mg base CX (k + 1) f (PySem.W.fnOf name qual params body scope dV kV doc pm an cdv ct) ps sp := by
  refine ⟨len, fun A outer s H args us vs Q E hr e0 hb r hsp => ?_⟩
  have hl := len _ _ _ _ hsp
  have KX : K.In s.heap := e0.mod.kin.keeps fun b o e => (e0.bs b o e).1
  have lim : s.heap.NoLimit := e0.mod.nolimit.keeps fun b o e => (e0.bs b o e).1
  have hkind : ∀ y ∈ ps.zip us, scope.names.lookup y.1 = some .local ∨ (scope.names.lookup y.1 = some .cell ∧ ((cellsFrom (s.heap.objs.size + 1) scope.names []).lookup y.1).isSome = true) := fun ⟨n, v⟩ hy => by
    rcases S.par n (List.of_mem_zip hy).1 with q | q
    · exact .inl q
    · exact .inr ⟨q, PySem.W.cellsFrom_some _ _ _ (.inl q)⟩
  refine codeAny_call_function hr.depth (KX _ _ lk) rfl S.co S.gen rfl (PySem.W.codeRec_of KX hcd) (hb _ _ _ _ ?_)
  refine wpAny_newFunctionEnv_cells S.kind hkind fun env he s1 x => ?_
  subst he
  refine ⟨lim.keeps x.toInCall.keep, codeAny_func ?_⟩
  obtain ⟨t, ht, hq⟩ := hbody A outer s H vs Q E (hr.deeper _) hsp
  have I : Inv (cxOf CX P w K mg base N qual scope f cdv A outer s H E) [] (start N vs) H s1 := inv_start S hr.hd e0 hl r x
  refine wpAny_mono (ht [] s1 (start N vs) H _ I hq) (fun fl s' hs => ?_) fun e s' hs => hs
  have fin : ∀ {σ' : St} {H' : Hp} {v : V} {u : Value}, Inv (cxOf CX P w K mg base N qual scope f cdv A outer s H E) [] σ' H' s' → RelV v u → Q v H' → CE outer P w H s Q u s' :=
    fun {σ' H' v u} J rv q => ⟨v, H', J.os, J.bare, J.base, J.hok, rv, q⟩
  cases fl with
  | ret u =>
    obtain ⟨v, σ', H', J, rv, q⟩ := hs
    exact fin J rv q
  | next =>
    obtain ⟨σ', H', J, q⟩ := hs
    exact fin (v := V.non) (u := Value.none) J rfl q
  | brk =>
    obtain ⟨_, _, _, q⟩ := hs
    exact False.elim q
  | cont =>
    obtain ⟨_, _, _, q⟩ := hs
    exact False.elim q
end L2
namespace L2
open PySem PySem.Spec PyProof.Rows
section
variable {X : Cx} {x : Str} {p pos : Pos} {e : Expr} {es : List Expr} {t : TA} {id T : String} {r : List V → Hp → VK → Prop}
def tCB (r : List V → Hp → VK → Prop) (t : TA) : TE := fun σ H Q => t σ H fun vs H1 => r vs H1 Q
theorem pe_callB (hc : CallR X (.builtin id) r) (hg : Gl X x) (hm : X.mg x = none) (hv : bootBuiltins x = some (.builtin id)) (ha : PA X (e :: es) t) (hn : x ≠ "__name__" := by decide) (hdb : (x == ("__debug__" : Str)) = false := by decide)
    (he : starEach (e :: es) X.env = (false, eval e X.env) :: starEach es X.env := by rfl) (hpl : (backTo pos (starEach es X.env)).any (·.1) = false := by rfl) : PE X (.Call (.Name x p) (e :: es) [] pos) (tCB r t) := by
  intro pins s σ H Q I h
  refine wpAny_Call_Name_kw (ld_blt I hg hm hv ?_ hn hdb)
  exact PyProof.Rows.callWith_builtin1 (thn (ha pos pins s σ H _ I h) fun us s1 ⟨vs, H1, I1, r1, q1⟩ => hc pins s1 σ H1 vs us Q I1 r1 q1) he hpl
theorem pe_callTy (hc : CallR X (.type T) r) (hg : Gl X x) (hm : X.mg x = none) (hv : bootBuiltins x = some (.type T)) (ha : PA X (e :: es) t) (hn : x ≠ "__name__" := by decide) (hdb : (x == ("__debug__" : Str)) = false := by decide)
    (he : starEach (e :: es) X.env = (false, eval e X.env) :: starEach es X.env := by rfl) (hpl : (backTo pos (starEach es X.env)).any (·.1) = false := by rfl) : PE X (.Call (.Name x p) (e :: es) [] pos) (tCB r t) := by
  intro pins s σ H Q I h
  refine wpAny_Call_Name_kw (ld_blt I hg hm hv ?_ hn hdb)
  exact PyProof.Rows.callWith_type1 (thn (ha pos pins s σ H _ I h) fun us s1 ⟨vs, H1, I1, r1, q1⟩ => hc pins s1 σ H1 vs us Q I1 r1 q1) he hpl
end
end L2
namespace HT
open PySem PyProof.Rows
section
open PySem.SeqAt
open PySem.AutoSeq1 (wpAny_loadPart')
open PySem.MeetsSeq PySem.MeetsSeq2 PySem.MeetsSeq3
end
section
variable {prog : Program} {w : World} {A : Around} {E : Value → Shared → Prop} {s : Shared}
theorem cat_tup {t b : Addr} {vs ws : List Value} {Q : Value → Shared → Prop} (ht : IsTup s.heap t vs.toArray) (hb : IsTup s.heap b ws.toArray) (hv : vs ≠ [])
    (h1 : ws = [] → Q (.ref t) s) (h2 : ws ≠ [] → Q (.ref s.heap.objs.size) { s with heap := s.heap.push { cls := .type "tuple", data := .seq (vs ++ ws).toArray } })
    (hsz : vs.length + ws.length ≤ sizeLine) : wpAny (model prog w) A (binaryOp .Add (.ref t) (.ref b)) Q E s := by
  obtain ⟨⟨cls, dd, data, sl⟩, ho, hc, n, hd⟩ := id ht
  obtain ⟨⟨cls2, dd2, data2, sl2⟩, ho2, hc2, n2, hd2⟩ := id hb
  simp only at hc hd hc2 hd2
  subst hc hd hc2 hd2
  have e : vs.toArray ++ ws.toArray = (vs ++ ws).toArray := by simp
  by_cases hw : ws = []
  · exact concat_meets ⟨_, ho, rfl⟩ ⟨_, ho2, rfl⟩ noFill_tuple_add seq_tuple_add PySem.F.slot_tuple_add PySem.F.entry_tuple_add (PySem.F.args_tuple_add_2 _ _)
      (tuple_addW1 t b vs.toArray ws.toArray n n2 dd dd2 sl sl2 (by simpa using hv) (by simp [hw])) ⟨ho, ho2, h1 hw⟩
  · refine concat_meets ⟨_, ho, rfl⟩ ⟨_, ho2, rfl⟩ noFill_tuple_add seq_tuple_add PySem.F.slot_tuple_add PySem.F.entry_tuple_add (PySem.F.args_tuple_add_2 _ _)
      (tuple_addW2 t b vs.toArray ws.toArray n n2 dd dd2 sl sl2 (by simpa using hv) (by simpa using hw) (by rw [List.size_toArray, List.size_toArray]; exact hsz)) ⟨ho, ho2, ?_⟩
    rw [e]
    exact h2 hw
def sIx (n d : Nat) : Option Int → Nat
  | none => d
  | some v => if v < 0 then (v + (n : Int)).toNat else min v.toNat n
end
end HT
namespace L2
open PySem PySem.Spec PyProof.Rows
section
variable {X : Cx} {e : Expr} {te : TE} {lo hi : Option Expr} {tl th : TO} {pos p2 : Pos}
def SlR (X : Cx) (r : V → Option Int → Option Int → Hp → VK → Prop) : Prop :=
  ∀ (pins : List (Addr × Obj)) (s : Shared) (σ : St) (H : Hp) (x : V) (v vl vu : Value) (lo hi : Option Int) (sl : Addr) (Q : VK), Inv X pins σ H s → RelV x v → s.heap.IsSliceOf sl vl vu .none → IsPart vl lo → IsPart vu hi → r x lo hi H Q →
    ∃ T id, typeLookup (.type T) "__getitem__" = pure (some (.builtin id)) ∧ s.TypeIs v T ∧ wpAny (model X.prog X.w) X.A (getItem v (.ref sl)) (EP X pins σ Q) X.xe s
def cutV (xs : List V) (lo hi : Option Int) : List V := (xs.drop (HT.sIx xs.length 0 lo)).take (HT.sIx xs.length xs.length hi - HT.sIx xs.length 0 lo)
theorem cutV_length (xs : List V) (lo hi : Option Int) : (cutV xs lo hi).length ≤ xs.length := by
  unfold cutV
  rw [List.length_take, List.length_drop]
  omega
def rCatT (K : PySem.W.Frag) : R2 := fun x y H Q => ∃ a b xs ys, x = .ref a ∧ y = .ref b ∧ SqT K H a xs ∧ SqT K H b ys ∧ xs ≠ [] ∧ xs.length + ys.length ≤ sizeLine ∧
  (ys = [] → Q (.ref a) H) ∧ (ys ≠ [] → ∀ p, H p = none → Q (.ref p) (upd H p (.tup (xs ++ ys))))
theorem Vals.nil_iff {xs : List V} {us : List Value} (r : Vals xs us) : us = [] ↔ xs = [] := by
  cases r with
  | nil => simp
  | cons _ _ => simp
theorem op_catT : OpR X (binaryOp .Add) (rCatT X.K) := by
  intro pins s σ H x y v u Q I rx ry h
  obtain ⟨a, b, xs, ys, rfl, rfl, ha, hb, hx, hz, q1, q2⟩ := h
  cases rx
  cases ry
  obtain ⟨its, r1, p1, _⟩ := I.tuple ha
  obtain ⟨its2, r2, p2, _⟩ := I.tuple hb
  refine HT.cat_tup p1 p2 (fun z => hx (r1.nil_iff.mp z)) (fun z => ⟨.ref a, H, I, rfl, q1 (r2.nil_iff.mp z)⟩) (fun z => ?_) (by rw [← r1.length, ← r2.length]; exact hz)
  refine ⟨.ref s.heap.objs.size, _, I.laid (t' := s.toks) (o := .tup (xs ++ ys)) (fun b ob q => Heap.get?_push_of_some _ q) (Nat.le_refl _) ?_, rfl, q2 (fun w => z (r2.nil_iff.mpr w)) _ (I.hok.fresh (Nat.le_refl _))⟩
  exact ⟨by rw [List.length_append]; exact hz, _, r1.append r2, IsTup.new _ _⟩
end
end L2
namespace L2
open PySem PySem.Spec PyProof.Rows
def ixN (n : Nat) (i : Int) : Option Nat := if 0 ≤ i then (if i < n then some i.toNat else none) else if -(n : Int) ≤ i then some (i + n).toNat else none
def atI {α : Type} (xs : List α) (i : Int) : Option α := (ixN xs.length i).bind fun j => xs[j]?
theorem ixN_seq {n : Nat} {i : Int} {j : Nat} (h : ixN n i = some j) : seqIndex? i n = some j ∧ j < n ∧ -(n : Int) ≤ i ∧ i < n := by
  unfold ixN at h
  by_cases h0 : 0 ≤ i
  · rw [if_pos h0] at h
    by_cases h1 : i < n
    · rw [if_pos h1] at h
      have e : i.toNat = j := Option.some.inj h
      exact ⟨by rw [seqIndex_of h0 h1, e], by omega, by omega, h1⟩
    · rw [if_neg h1] at h; cases h
  · rw [if_neg h0] at h
    by_cases h1 : -(n : Int) ≤ i
    · rw [if_pos h1] at h
      have e : (i + n).toNat = j := Option.some.inj h
      exact ⟨by rw [seqIndex_neg (by omega) h1, e], by omega, h1, by omega⟩
    · rw [if_neg h1] at h; cases h
theorem atI_get {α : Type} {xs : List α} {i : Int} {v : α} (h : atI xs i = some v) : ∃ j, seqIndex? i xs.length = some j ∧ xs[j]? = some v ∧ j < xs.length ∧ -(xs.length : Int) ≤ i ∧ i < xs.length := by
  unfold atI at h
  cases e : ixN xs.length i with
  | none => rw [e] at h; cases h
  | some j =>
    rw [e] at h
    obtain ⟨h1, h2, h3, h4⟩ := ixN_seq e
    exact ⟨j, h1, h, h2, h3, h4⟩
theorem atI_nat {α : Type} {xs : List α} {j : Nat} {v : α} (h : xs[j]? = some v) : atI xs (j : Int) = some v := by
  have hj : j < xs.length := (List.getElem?_eq_some_iff.mp h).1
  have e : ixN xs.length (j : Int) = some j := by
    unfold ixN
    rw [if_pos (by omega), if_pos (by omega)]; simp
  unfold atI; rw [e]; exact h
def PlainIx (b : Expr) : Prop := ∀ o i, subscripted b false o i = operate [o, i] (getItem o i)
def IxR (X : Cx) (r : R2) : Prop :=
  ∀ (value slice : Expr) (pins : List (Addr × Obj)) (s : Shared) (σ : St) (H : Hp) (x y : V) (v u : Value) (Q : VK), Inv X pins σ H s → RelV x v → RelV y u → r x y H Q →
    subscripted slice false v u = operate [v, u] (getItem v u) → wpAny (model X.prog X.w) X.A (subscriptTail value slice v u) (EP X pins σ Q) X.xe s
def MtR (X : Cx) (id : String) (r : V → List V → Hp → VK → Prop) : Prop :=
  ∀ (pins : List (Addr × Obj)) (s : Shared) (σ : St) (H : Hp) (x : V) (xs : List V) (v : Value) (us : List Value) (Q : VK), Inv X pins σ H s → RelV x v → Vals xs us → r x xs H Q →
    wpAny (model X.prog X.w) X.A (call (.builtin id) (v :: us)) (EP X pins σ Q) X.xe s
section
variable {X : Cx} {a b : Expr} {ta tb : TE} {pos : Pos}
theorem pe_ix {r : R2} (hr : IxR X r) (ha : PE X a ta) (hb : PE X b tb) (hs : PlainIx b) : PE X (.Subscript a b pos) (tOp r ta tb) := by
  intro pins s σ H Q I h
  exact Subscript_ (binT ha hb I h fun v u s2 x y H2 I2 rx ry q => hr a b pins s2 σ H2 x y v u Q I2 rx ry q (hs _ _))
def rIxL (K : PySem.W.Frag) : R2 := fun x y H Q => ∃ p xs i v, x = .ref p ∧ y = .int i ∧ SqL K H p xs ∧ atI xs i = some v ∧ Q v H
def rIxT (K : PySem.W.Frag) : R2 := fun x y H Q => ∃ p xs i v, x = .ref p ∧ y = .int i ∧ SqT K H p xs ∧ atI xs i = some v ∧ Q v H
def rIxS : R2 := fun x y H Q => ∃ z i c, x = .str z ∧ y = .int i ∧ z.length ≤ sizeLine ∧ atI z.cps.toList i = some c ∧ Q (.str ⟨#[c]⟩) H
theorem ix_list : IxR X (rIxL X.K) := by
  intro value slice pins s σ H x y v u Q I rx ry h hs
  obtain ⟨p, xs, i, z, rfl, rfl, hq, he, q⟩ := h
  cases rx
  obtain ⟨t, rfl⟩ := ry
  obtain ⟨its, r, pl, hz⟩ := I.list hq
  obtain ⟨j, h1, h2, h3, h4, h5⟩ := atI_get he
  obtain ⟨w, ew, rw'⟩ := r.get h2
  have hl := r.length
  have hn := line63
  have fin : EP X pins σ Q w s := ⟨z, H, I, rw', q⟩
  by_cases h0 : 0 ≤ i
  · have hj : i.toNat = j := by
      rw [seqIndex_of h0 h5] at h1
      exact Option.some.inj h1
    exact item_listR pl.isList h0 (by omega) (by rw [hj]; simpa using ew) fin hs
  · have hj : (i + (its.toArray.size : Int)).toNat = j := by
      rw [seqIndex_neg (by omega) h4] at h1
      rw [List.size_toArray, ← hl]
      exact Option.some.inj h1
    exact subscriptTail_builtinR (x := w) pl.isList.typeIs slot_list_getitem.lookup
      (wpAny_getItem_list_neg (Q := fun r s' => r = w ∧ EP X pins σ Q r s') pl.isList (by omega) (by rw [List.size_toArray] <;> omega) (by omega) (by rw [hj]; simpa using ew) ⟨rfl, fin⟩) hs
theorem ix_tup : IxR X (rIxT X.K) := by
  intro value slice pins s σ H x y v u Q I rx ry h hs
  obtain ⟨p, xs, i, z, rfl, rfl, hq, he, q⟩ := h
  cases rx
  obtain ⟨t, rfl⟩ := ry
  obtain ⟨its, r, pl, hz⟩ := I.tuple hq
  obtain ⟨j, h1, h2, h3, h4, h5⟩ := atI_get he
  obtain ⟨w, ew, rw'⟩ := r.get h2
  have hl := r.length
  have hn := line63
  have fin : EP X pins σ Q w s := ⟨z, H, I, rw', q⟩
  exact subscriptTail_builtinR (x := w) pl.typeIs slot_tuple_getitem.lookup
    (getItem_tuple (j := j) (Q := fun r s' => r = w ∧ EP X pins σ Q r s') pl (by omega) (by omega) (by rw [List.size_toArray, ← hl]; exact h1) (by simpa using ew) ⟨rfl, fin⟩) hs
theorem ix_str : IxR X rIxS := by
  intro value slice pins s σ H x y v u Q I rx ry h hs
  obtain ⟨z, i, c, rfl, rfl, hz, he, q⟩ := h
  obtain ⟨t, rfl⟩ := rx
  obtain ⟨t', rfl⟩ := ry
  obtain ⟨j, h1, h2, h3, h4, h5⟩ := atI_get he
  have hl : z.cps.toList.length = z.length := by simp [Str.length]
  rw [hl] at h1 h4 h5
  have hn := line63
  exact tail_any (typeIs_str s z t) slot_str_getitem.lookup (getItem_str (c := c) (by
    have e1 : decide (i < -(2 ^ 63 : Int)) = false := decide_eq_false (by omega)
    have e2 : decide (i ≥ 2 ^ 63) = false := decide_eq_false (by omega)
    rw [e1, e2, Bool.or_false]) (by rw [h1]; simpa using h2) ⟨.str ⟨#[c]⟩, H, I.tok _, ⟨_, rfl⟩, q⟩) hs
theorem mapSeq_set (its : List Value) (n j : Nat) (u : Value) : Obj.mapSeq (·.setIfInBounds j u) { cls := .type "list", data := .seq its.toArray n } = { cls := .type "list", data := .seq (its.set j u).toArray n } := by
  simp [Obj.mapSeq]
theorem Inv.lst {pins : List (Addr × Obj)} {σ : St} {H : Hp} {s : Shared} {p : Addr} {xs : List V} (I : Inv X pins σ H s) (h : H p = some (.lst xs)) :
    ∃ (its : List Value) (n : Nat), Vals xs its ∧ s.heap.get? p = some { cls := .type "list", data := .seq its.toArray n } ∧ xs.length ≤ sizeLine := by
  obtain ⟨z, its, n, r, e⟩ := I.hok p _ h
  exact ⟨its, n, r, e, z⟩
theorem Inv.lstUpd {pins : List (Addr × Obj)} {σ : St} {H : Hp} {s : Shared} {p : Addr} {xs ys : List V} {its its' : List Value} {n n' : Nat} {f : Obj → Obj} (I : Inv X pins σ H s) (h : H p = some (.lst xs))
    (ho : s.heap.get? p = some { cls := .type "list", data := .seq its.toArray n }) (hf : f { cls := .type "list", data := .seq its.toArray n } = { cls := .type "list", data := .seq its'.toArray n' }) (r : Vals ys its') (hz : ys.length ≤ sizeLine) (t : Nat) :
    Inv X pins σ (upd H p (.lst ys)) { s with heap := s.heap.update p f, toks := t } := by
  have e : (s.heap.update p f).get? p = some { cls := .type "list", data := .seq its'.toArray n' } := by
    rw [Heap.get?_update_self f ho (by rw [hf] <;> rfl), hf]
  refine I.write (x := p) (e := p) (by rw [h]; trivial) (.inl rfl) (fun b u hb q => (Heap.get?_update_other _ _ (Ne.symm hb)).trans q) ⟨_, e⟩ ?_
  exact ⟨hz, its', n', r, e⟩
def rSetL : V → V → V → Hp → (Hp → Prop) → Prop := fun o i v H Q => ∃ p xs k j, o = .ref p ∧ i = .int k ∧ H p = some (.lst xs) ∧ ixN xs.length k = some j ∧ Q (upd H p (.lst (xs.set j v)))
theorem set_list : PSet X rSetL := by
  intro pins s σ H o i v ov iv u Q I ro ri rv h
  obtain ⟨p, xs, k, j, rfl, rfl, hp, hj, q⟩ := h
  cases ro
  obtain ⟨t, rfl⟩ := ri
  obtain ⟨its, n, r, ho, hz⟩ := I.lst hp
  obtain ⟨h1, h2, h3, h4⟩ := ixN_seq hj
  have hl := r.length
  have hn := line63
  have I' : Inv X pins σ (upd H p (.lst (xs.set j v))) { s with heap := s.heap.update p (Obj.mapSeq (·.setIfInBounds j u)) } :=
    I.lstUpd hp ho (mapSeq_set its n j u) (r.set rv j) (by rw [List.length_set]; exact hz) s.toks
  by_cases h0 : 0 ≤ k
  · have hk : k.toNat = j := by
      rw [seqIndex_of h0 h4] at h1
      exact Option.some.inj h1
    exact PySem.W.ki_setAt ho h0 (by omega) (by rw [List.size_toArray, ← hl]; exact h4) (by rw [hk]; exact ⟨_, I', q⟩)
  · have hk : (k + (its.toArray.size : Int)).toNat = j := by
      rw [seqIndex_neg (by omega) h3] at h1
      rw [List.size_toArray, ← hl]
      exact Option.some.inj h1
    exact PySem.W.ki_setBack ho (by omega) (by rw [List.size_toArray, ← hl]; exact h3) (by omega) (by rw [hk]; exact ⟨_, I', q⟩)
theorem slice_bounds (lo hi : Option Int) (n : Nat) : (sliceBounds lo hi none n).1 = ((HT.sIx n 0 lo : Nat) : Int) ∧ (sliceBounds lo hi none n).2.1 = ((HT.sIx n n hi : Nat) : Int) ∧ (sliceBounds lo hi none n).2.2 = 1 := by
  refine ⟨?_, ?_, rfl⟩
  · cases lo with
    | none => simp [sliceBounds, HT.sIx]
    | some i =>
      simp only [sliceBounds, HT.sIx, Option.getD_none, show (1 : Int) > 0 by decide, if_true]
      by_cases h : i < 0
      · simp only [h, if_true] <;> omega
      · simp only [h, if_false] <;> omega
  · cases hi with
    | none => simp [sliceBounds, HT.sIx]
    | some i =>
      simp only [sliceBounds, HT.sIx, Option.getD_none, show (1 : Int) > 0 by decide, if_true]
      by_cases h : i < 0
      · simp only [h, if_true] <;> omega
      · simp only [h, if_false] <;> omega
theorem slicePick_cut (its : List Value) (lo hi : Option Int) : slicePick its.toArray lo hi none = ((its.drop (HT.sIx its.length 0 lo)).take (HT.sIx its.length its.length hi - HT.sIx its.length 0 lo)).toArray := by
  obtain ⟨h1, h2, h3⟩ := slice_bounds lo hi its.toArray.size
  unfold slicePick
  rw [h1, h2, h3]
  simp only [sliceRange_one, pick_run, List.size_toArray] <;> rfl
def rSlL (K : PySem.W.Frag) : V → Option Int → Option Int → Hp → VK → Prop := fun x lo hi H Q => ∃ a xs, x = .ref a ∧ SqL K H a xs ∧ ∀ p, H p = none → Q (.ref p) (upd H p (.lst (cutV xs lo hi)))
theorem sl_list : SlR X (rSlL X.K) := by
  intro pins s σ H x v vl vu lo hi sl Q I rx hs pl pu h
  obtain ⟨a, xs, rfl, hx, q⟩ := h
  cases rx
  obtain ⟨its, r, ht, hz⟩ := I.list hx
  have hlen := r.length
  refine ⟨"list", _, slot_list_getitem.lookup, ht.isList.typeIs, ?_⟩
  refine wpAny_getItem_list_slice ht.isList hs pl pu .none (by simp) ?_ (by rw [List.size_toArray] <;> omega)
  rw [slicePick_cut, ← hlen]
  refine ⟨.ref s.heap.objs.size, _, I.laid (t' := s.toks) (o := .lst (cutV xs lo hi)) (fun b ob q => Heap.get?_push_of_some _ q) (Nat.le_refl _) ?_, rfl, q _ (I.hok.fresh (Nat.le_refl _))⟩
  exact ⟨Nat.le_trans (cutV_length xs lo hi) hz, _, 0, (r.drop (HT.sIx xs.length 0 lo)).take (HT.sIx xs.length xs.length hi - HT.sIx xs.length 0 lo), Heap.get?_push_size _ rfl⟩
def flatV : V → Bool
  | .non => true
  | .bl _ => true
  | .int _ => true
  | .str _ => true
  | _ => false
def eqV : V → V → Bool
  | .non, .non => true
  | .bl a, .bl b => a == b
  | .bl a, .int b => (if a then 1 else 0) == b
  | .int a, .bl b => a == (if b then 1 else 0)
  | .int a, .int b => a == b
  | .str a, .str b => a == b
  | _, _ => false
theorem eqAt_V {A : Around} {s : Shared} {y x : V} {u v : Value} (ry : RelV y u) (rx : RelV x v) (fy : flatV y = true) (fx : flatV x = true) : SeqAt.EqAt A s u v (eqV y x) := by
  cases y with
  | non =>
    cases ry
    cases x with
    | non => cases rx; exact SeqAt.EqAt.same _
    | bl b => cases rx; exact SeqAt.EqAt.none_bool b
    | int b => obtain ⟨t, rfl⟩ := rx; exact SeqAt.EqAt.none_int b t
    | str b => obtain ⟨t, rfl⟩ := rx; exact SeqAt.EqAt.none_str b t
    | _ => exact absurd (show false = true from fx) Bool.false_ne_true
  | bl a =>
    cases ry
    cases x with
    | non => cases rx; exact SeqAt.EqAt.bool_none a
    | bl b => cases rx; exact SeqAt.EqAt.bool_bool a b
    | int b => obtain ⟨t, rfl⟩ := rx; exact SeqAt.EqAt.bool_int a b t
    | str b => obtain ⟨t, rfl⟩ := rx; exact SeqAt.EqAt.bool_str a b t
    | _ => exact absurd (show false = true from fx) Bool.false_ne_true
  | int a =>
    obtain ⟨t', rfl⟩ := ry
    cases x with
    | non => cases rx; exact SeqAt.EqAt.int_none a t'
    | bl b => cases rx; exact SeqAt.EqAt.int_bool a t' b
    | int b => obtain ⟨t, rfl⟩ := rx; exact SeqAt.EqAt.int_int a t' b t
    | str b => obtain ⟨t, rfl⟩ := rx; exact SeqAt.EqAt.int_str a t' b t
    | _ => exact absurd (show false = true from fx) Bool.false_ne_true
  | str a =>
    obtain ⟨t', rfl⟩ := ry
    cases x with
    | non => cases rx; exact SeqAt.EqAt.str_none a t'
    | bl b => cases rx; exact SeqAt.EqAt.str_bool a t' b
    | int b => obtain ⟨t, rfl⟩ := rx; exact SeqAt.EqAt.str_int a t' b t
    | str b => obtain ⟨t, rfl⟩ := rx; exact SeqAt.EqAt.str_str a t' b t
    | _ => exact absurd (show false = true from fx) Bool.false_ne_true
  | _ => exact absurd (show false = true from fy) Bool.false_ne_true
def eqU (x : V) (u : Value) : Bool := match u with
  | .none => eqV .non x
  | .bool b => eqV (.bl b) x
  | .int i _ => eqV (.int i) x
  | .str z _ => eqV (.str z) x
  | _ => false
theorem eqU_of {x y : V} {u : Value} (r : RelV y u) (f : flatV y = true) : eqU x u = eqV y x := by
  cases y with
  | non => cases r; rfl
  | bl b => cases r; rfl
  | int i => obtain ⟨t, rfl⟩ := r; rfl
  | str z => obtain ⟨t, rfl⟩ := r; rfl
  | _ => exact absurd (show false = true from f) Bool.false_ne_true
theorem any_eqU {x : V} : ∀ {xs : List V} {us : List Value}, Vals xs us → xs.all flatV = true → us.any (eqU x) = xs.any fun y => eqV y x
  | _, _, .nil, _ => rfl
  | y :: xs, u :: us, .cons r t, f => by
    rw [List.all_cons, Bool.and_eq_true] at f
    rw [List.any_cons, List.any_cons, eqU_of r f.1, any_eqU t f.2]
theorem mem_eqAt {A : Around} {s : Shared} {x : V} {v : Value} (rx : RelV x v) (fx : flatV x = true) : ∀ {xs : List V} {us : List Value}, Vals xs us → xs.all flatV = true → ∀ u ∈ us, SeqAt.EqAt A s u v (eqU x u)
  | _, _, .nil, _ => fun u hu => by cases hu
  | y :: xs, u :: us, .cons r t, f => fun u' hu => by
    rw [List.all_cons, Bool.and_eq_true] at f
    rcases List.mem_cons.mp hu with rfl | hu
    · rw [eqU_of r f.1]; exact eqAt_V r rx f.1 fx
    · exact mem_eqAt rx fx t f.2 u' hu
def inV (x : V) (xs : List V) : Bool := xs.any fun y => eqV y x
def rIn (K : PySem.W.Frag) (neg : Bool) : R2 := fun x y H Q => ∃ p xs, y = .ref p ∧ (SqL K H p xs ∨ SqT K H p xs) ∧ flatV x = true ∧ xs.all flatV = true ∧ Q (.bl (if neg then !inV x xs else inV x xs)) H
theorem op_in_seq : OpR X (compareOp .In) (rIn X.K false) := by
  intro pins s σ H x y v u Q I rx ry h
  obtain ⟨p, xs, rfl, hq, fx, fs, q⟩ := h
  cases ry
  rcases hq with hq | hq
  · obtain ⟨its, r, pl, hz⟩ := I.list hq
    refine SeqAt.in_listAt (eqU x) pl.isList (fun w hw => mem_eqAt rx fx r fs w (by simpa using hw)) ⟨.bl _, H, I, rfl, ?_⟩
    rw [show its.toArray.any (eqU x) = its.any (eqU x) by simp, any_eqU r fs]
    exact q
  · obtain ⟨its, r, pl, hz⟩ := I.tuple hq
    refine SeqAt.in_tupleAt (eqU x) pl (fun w hw => mem_eqAt rx fx r fs w (by simpa using hw)) ⟨.bl _, H, I, rfl, ?_⟩
    rw [show its.toArray.any (eqU x) = its.any (eqU x) by simp, any_eqU r fs]
    exact q
theorem call_len_seq : CallR X (.builtin "len") (fun xs H Q => ∃ p ys, xs = [.ref p] ∧ (SqL X.K H p ys ∨ SqT X.K H p ys) ∧ Q (.int ys.length) H) := by
  intro pins s σ H xs us Q I r h
  obtain ⟨p, ys, rfl, hq, q⟩ := h
  obtain ⟨u, rfl, rx⟩ := vals1 r
  cases rx
  have hn := line63
  rcases hq with hq | hq
  · obtain ⟨its, r', pl, hz⟩ := I.list hq
    have hlen := r'.length
    exact Calls.call_len_list pl.isList (by simp only [List.size_toArray] <;> omega) ⟨.int ys.length, H, I.tok _, ⟨s.toks + 1, by rw [List.size_toArray, hlen]⟩, q⟩
  · obtain ⟨its, r', pl, hz⟩ := I.tuple hq
    have hlen := r'.length
    exact len_tuple pl (by simp only [List.size_toArray] <;> omega) ⟨.int ys.length, H, I.tok _, ⟨s.toks + 1, by rw [List.size_toArray, hlen]⟩, q⟩
theorem call_tuple_of : CallR X (.type "tuple") (fun xs H Q => ∃ p ys, xs = [.ref p] ∧ ((SqL X.K H p ys ∧ ∀ l, H l = none → Q (.ref l) (upd H l (.tup ys))) ∨ (SqT X.K H p ys ∧ Q (.ref p) H))) := by
  intro pins s σ H xs us Q I r h
  obtain ⟨p, ys, rfl, h⟩ := h
  obtain ⟨u, rfl, rx⟩ := vals1 r
  cases rx
  rcases h with ⟨hq, q⟩ | ⟨hq, q⟩
  · obtain ⟨its, r', pl, hz⟩ := I.list hq
    have hlen := r'.length
    refine call_tuple_list pl.isList (fun h' kp => ?_) (by simp only [List.size_toArray] <;> omega)
    have I1 : Inv X pins σ H { s with heap := h' } := I.kept (t' := s.toks) kp
    have I2 : Inv X pins σ (upd H h'.objs.size (.tup ys)) { s with heap := h'.push { cls := .type "tuple", data := .seq its.toArray } } :=
      I1.laid (t' := s.toks) (fun b o e => Heap.get?_push_of_some _ e) (Nat.le_refl _) (show ObjOk X.prog X.w _ _ _ (.tup ys) from ⟨hz, its, r', IsTup.new _ _⟩)
    exact ⟨.ref h'.objs.size, _, I2, rfl, q _ (I1.hok.fresh (Nat.le_refl _))⟩
  · obtain ⟨its, r', pl, hz⟩ := I.tuple hq
    exact call_tuple_same pl ⟨.ref p, H, I, rfl, q⟩
def tyV (K : PySem.W.Frag) (T : String) (x : V) (H : Hp) : Prop := match x with
  | .str _ => T = "str"
  | .int _ => T = "int"
  | .ref p => (T = "list" ∧ ∃ xs, SqL K H p xs) ∨ (T = "tuple" ∧ ∃ o, K.lookup p = some o ∧ o.cls = .type "tuple" ∧ o.dict = none) ∨
      (T = "dict" ∧ ((∃ kvs, H p = some (.dK kvs)) ∨ ∃ kvs, H p = some (.dT kvs))) ∨ (T = "set" ∧ ∃ S n, H p = some (.set S n))
  | _ => False
theorem tyV_is {pins : List (Addr × Obj)} {σ : St} {H : Hp} {s : Shared} {T : String} {x : V} {v : Value} (I : Inv X pins σ H s) (r : RelV x v) (ty : tyV X.K T x H) :
    s.TypeIs v T ∧ ∀ a, v = .ref a → ∃ ob, s.heap.get? a = some ob ∧ ob.dict = none := by
  cases x with
  | str z =>
    obtain ⟨t, rfl⟩ := r
    cases (show T = "str" from ty)
    exact ⟨typeIs_str s z t, fun _ e => nomatch e⟩
  | int i =>
    obtain ⟨t, rfl⟩ := r
    cases (show T = "int" from ty)
    exact ⟨typeIs_int s i t, fun _ e => nomatch e⟩
  | ref p =>
    cases r
    rcases ty with ⟨rfl, xs, hq⟩ | ⟨rfl, o, hk, hc, hd⟩ | ⟨rfl, hk⟩ | ⟨rfl, S, n, hk⟩
    · obtain ⟨its, _, pl, _⟩ := I.list hq
      refine ⟨pl.isList.typeIs, fun a e => ?_⟩
      cases e
      obtain ⟨o, n, e, c, hd, _⟩ := pl
      exact ⟨o, e, hd⟩
    · refine ⟨⟨o, I.kIn p o hk, hc⟩, fun a e => ?_⟩
      cases e
      exact ⟨o, I.kIn _ o hk, hd⟩
    · have z : ∃ o, s.heap.get? p = some o ∧ o.ExactDict := by
        rcases hk with ⟨kvs, hk⟩ | ⟨kvs, hk⟩
        · obtain ⟨_, _, _, _, o, _, _, e, ex, _⟩ := I.hok p _ hk
          exact ⟨o, e, ex⟩
        · obtain ⟨_, _, _, _, o, _, _, e, ex, _⟩ := I.hok p _ hk
          exact ⟨o, e, ex⟩
      obtain ⟨o, e, ex⟩ := z
      refine ⟨⟨o, e, ex.1⟩, fun a e2 => ?_⟩
      cases e2
      exact ⟨o, e, ex.2.1⟩
    · obtain ⟨o, _, _, _, e, ex, _⟩ := I.hok p _ hk
      refine ⟨⟨o, e, ex.1⟩, fun a e2 => ?_⟩
      cases e2
      exact ⟨o, e, ex.2.1⟩
  | _ => exact False.elim ty
def tBM0 (K : PySem.W.Frag) (T : String) (r : V → List V → Hp → VK → Prop) (to : TE) : TE := fun σ H Q => to σ H fun x H1 => tyV K T x H1 ∧ r x [] H1 Q
def tBM (K : PySem.W.Frag) (T : String) (r : V → List V → Hp → VK → Prop) (to : TE) (t : TA) : TE := fun σ H Q => to σ H fun x H1 => tyV K T x H1 ∧ t σ H1 fun xs H2 => r x xs H2 Q
variable {o e : Expr} {es : List Expr} {to : TE} {t : TA} {name : Str} {apos cpos : Pos} {T id : String} {r : V → List V → Hp → VK → Prop}
theorem pe_bm0 (pa : PlainAttrs T) (slot : Slot T name id) (hty : typeOf (.builtin id) = pure (.type "method_descriptor")) (hm : MtR X id r) (ho : PE X o to)
    (hbase : attributeBase o name X.env (eval o X.env) = eval o X.env := by rfl) (hline : (apos.endLine == cpos.line) = true := by rfl) : PE X (.Call (.Attribute o name apos) [] [] cpos) (tBM0 X.K T r to) := by
  intro pins s σ H Q I h
  refine wpAny_Call_method0_late hbase hline (thn (ho pins s σ H _ I h) fun v s1 ⟨x, H1, I1, r1, ty, q1⟩ => ?_)
  obtain ⟨h1, h2⟩ := tyV_is I1 r1 ty
  exact ⟨T, id, pa, slot, hty, h1, h2, Calls.callWith_builtin rfl (PySem.evalArgs_none (hm pins s1 σ H1 x [] v [] Q I1 r1 .nil q1))⟩
theorem pe_bm (pa : PlainAttrs T) (slot : Slot T name id) (hty : typeOf (.builtin id) = pure (.type "method_descriptor")) (hm : MtR X id r) (ho : PE X o to) (ha : PA X (e :: es) t)
    (hbase : attributeBase o name X.env (eval o X.env) = eval o X.env := by rfl)
    (hfew : ((backTo cpos (starEach (e :: es) X.env)).all (fun x => !x.1) && (backToKw cpos (keywordEach [] X.env)).all (fun x => x.1.isSome)
      && decide ((e :: es).length + ([] : List Keyword).length + (if ([] : List Keyword).isEmpty then 0 else 1) < 30)) = true := by rfl)
    (hline : (apos.endLine == cpos.line) = true := by rfl) (hs : starEach (e :: es) X.env = (false, eval e X.env) :: starEach es X.env := by rfl) (hplain : (backTo cpos (starEach es X.env)).any (·.1) = false := by rfl) :
    PE X (.Call (.Attribute o name apos) (e :: es) [] cpos) (tBM X.K T r to t) := by
  intro pins s σ H Q I h
  refine wpAny_Call_method_late hbase hfew hline rfl (thn (ho pins s σ H _ I h) fun v s1 ⟨x, H1, I1, r1, ty, q1⟩ => ?_)
  obtain ⟨h1, h2⟩ := tyV_is I1 r1 ty
  refine ⟨T, id, pa, slot, hty, h1, h2, ?_⟩
  have hA := ha cpos pins s1 σ H1 _ I1 q1
  rw [hs] at hA ⊢
  refine Calls.callWith_builtin (by show (false || (backTo cpos (starEach es X.env)).any (·.1)) = false; rw [hplain] <;> rfl) (Calls.evalArgs_plain ?_)
  exact thn hA fun us s2 ⟨vs, H2, I2, r2, q2⟩ => hm pins s2 σ H2 x vs v us Q I2 r1 r2 q2
/- xs.append(e), list.index on a module's tuple .. are MtR facts of 06m -/
end
end L2
namespace L2
open PySem PySem.Spec PyProof.Rows
def MtM (X : Cx) (id : String) (r : V → List V → Hp → VK → Prop) : Prop :=
  ∀ (pins : List (Addr × Obj)) (s : Shared) (σ : St) (H : Hp) (x : V) (xs : List V) (v : Value) (us : List Value) (Q : VK), Inv X pins σ H s → RelV x v → Vals xs us → r x xs H Q →
    wpAny (model X.prog X.w) X.A (call (.builtin id) (v :: us)) (EP X pins σ Q) X.xe s
theorem Vals.one : ∀ {x : V} {us : List Value}, Vals [x] us → ∃ u, us = [u] ∧ RelV x u
  | _, _, .cons r .nil => ⟨_, rfl, r⟩
theorem Vals.two : ∀ {x y : V} {us : List Value}, Vals [x, y] us → ∃ u v, us = [u, v] ∧ RelV x u ∧ RelV y v
  | _, _, _, .cons r (.cons q .nil) => ⟨_, _, rfl, r, q⟩
section
variable {X : Cx} {pins : List (Addr × Obj)} {σ : St} {H : Hp} {s : Shared} {l b : Addr} {xs ys zs : List V}
theorem Inv.lset {its its' : List Value} {n : Nat} {f : Array Value → Array Value} {t' : Nat} (I : Inv X pins σ H s) (hH : H l = some (.lst xs))
    (e : s.heap.get? l = some { cls := .type "list", data := .seq its.toArray n }) (hf : f its.toArray = its'.toArray) (hv : Vals ys its') (hz : ys.length ≤ sizeLine) :
    Inv X pins σ (upd H l (.lst ys)) { s with heap := s.heap.update l (Obj.mapSeq f), toks := t' } := by
  have q := PySem.IsL.update e f
  rw [hf] at q
  refine I.write (x := l) (e := l) (by rw [hH]; exact trivial) (.inl rfl) (fun b' u hb hu => (Heap.get?_update_other s.heap (Obj.mapSeq f) (Ne.symm hb)).trans hu) ⟨_, q⟩ ?_
  exact ⟨hz, its', _, hv, q⟩
theorem Inv.lnew {its : List Value} {t' : Nat} (I : Inv X pins σ H s) (hv : Vals ys its) (hz : ys.length ≤ sizeLine) :
    Inv X pins σ (upd H s.heap.objs.size (.lst ys)) { s with heap := s.heap.push { cls := .type "list", data := .seq its.toArray }, toks := t' } :=
  I.laid (fun _ _ q => Heap.get?_push_of_some _ q) (Nat.le_refl _) ⟨hz, its, 0, hv, Heap.get?_push_size _ rfl⟩
theorem Inv.fresh (I : Inv X pins σ H s) : H s.heap.objs.size = none := I.hok.fresh (Nat.le_refl _)
theorem Inv.lstM (I : Inv X pins σ H s) (hH : H l = some (.lst xs)) : xs.length ≤ sizeLine ∧ ∃ (its : List Value) (n : Nat), Vals xs its ∧ xs.length = its.length ∧ s.heap.get? l = some { cls := .type "list", data := .seq its.toArray n } := by
  obtain ⟨z, its, n, r, e⟩ := I.hok l _ hH
  exact ⟨z, its, n, r, r.length, e⟩
end
section
variable {X : Cx}
def rAppend : V → List V → Hp → VK → Prop := fun x vs H Q => ∃ l xs y, x = .ref l ∧ vs = [y] ∧ H l = some (.lst xs) ∧ xs.length < sizeLine ∧ Q .non (upd H l (.lst (xs ++ [y])))
theorem mt_append : MtM X "list.append" rAppend := by
  intro pins s σ H x vs v us Q I rx rv h
  obtain ⟨l, xs, y, rfl, rfl, hH, hz, q⟩ := h
  cases rx
  obtain ⟨u, rfl, ru⟩ := rv.one
  obtain ⟨z, its, n, r, hl, e⟩ := I.lstM hH
  refine call_meets F.slot_list_append ⟨_, e, rfl⟩ F.entry_list_append (F.args_list_append_2 _ _) (PySem.list_append l its.toArray n u (by rw [List.size_toArray]; omega)) ⟨e, ?_⟩
  refine ⟨.non, _, I.lset (its' := its ++ [u]) hH e (by simp) (r.append (.cons ru .nil)) ?_, rfl, q⟩
  rw [List.length_append, List.length_singleton]
  omega
end
section
variable {prog : Program} {w : World} {A : Around} {E : Value → Shared → Prop} {s : Shared}
set_option maxRecDepth 100000 in
end
section
variable {X : Cx}
end
end L2
namespace Att
open PySem PySem.W PySem.Calls PyProof.Rows
theorem ints_of_wellAll {P : Params} {h : Heap} : ∀ (ns : List Int) (vs : List Value), WellAll P h vs (ns.map WData.int) → IntsAre vs ns := by
  intro ns
  induction ns with
  | nil =>
    intro vs w
    rw [List.map_nil] at w
    cases w
    exact .nil
  | cons n ns ih =>
    intro vs w
    rw [List.map_cons] at w
    cases w with
    | cons a b =>
      cases a
      exact .cons _ _ (ih _ b)
theorem script_of {l : OpenLaw} {n : Nat} (hn : l.most = some n) {P : Params} {h : Heap} {args : List WData} {vals : List Value}
    (hpre : l.row.toRowW.claim.pre args = true) (hwl : WellAll P h vals args) :
    ∃ a vs ns, vals = [Value.ref a] ∧ args = [WData.list (ns.map WData.int)] ∧ h.get? a = some { cls := .type "list", data := .seq vs.toArray } ∧ IntsAre vs ns ∧ ns.length ≤ n := by
  have hsh : WShape.hasAll [] args [.list .int] = true := (pre_splitW hpre).1
  have hc : l.pre.holds [] { args := args } = true := (pre_splitW hpre).2
  obtain ⟨d, r, rfl, h1, h2⟩ := hasAllW_cons hsh
  obtain rfl := hasAllW_nil h2
  obtain ⟨xs, rfl, h3⟩ := hasW_list h1
  obtain ⟨ns, rfl⟩ := items_int h3
  have hlen : ns.length ≤ n := by
    unfold OpenLaw.pre at hc
    have h4 : (WTm.not (.lt (.lit (.int (n : Int))) (.len (.arg 0)))).holds [] { args := [.list (ns.map .int)] } = true := by
      have h4 := (holds_andW hc).1
      rw [hn] at h4
      exact h4
    have h5 := condW_of h4 (w_not (w_lt w_lit (w_len_list (w_arg rfl))))
    rw [List.length_map] at h5
    refine Nat.le_of_not_lt fun q => ?_
    have q' : (n : Int) < ((ns.length : Nat) : Int) := by omega
    first
      | (rw [decide_eq_true q'] at h5; exact absurd h5 (by decide))
      | (simp at h5; omega)
  cases hwl with
  | cons w1 w2 =>
    cases w2
    cases w1 with
    | list ho hall => exact ⟨_, _, ns, rfl, rfl, ho, ints_of_wellAll ns _ hall, hlen⟩
theorem post_true (l : OpenLaw) (args : List WData) : l.row.toRowW.claim.post args (.bool true) args = true :=
  postW_of (r := l.row.toRowW) (X := (true == true))
    (show WShape.has [] (.bool true) .bool = true by first | rfl | decide | simp [WShape.has, WShape.arms, WShape.armsAll])
    (show (WTm.eq .res (.lit (.bool true))).value [] { args := args, res := some (.bool true), after := args } = some (.bool (true == true)) from w_eq_bool (w_res rfl) w_lit) rfl
theorem attach_call {l : OpenLaw} {n : Nat} {q : Program} {loose : List Str} {XP : (Str → Option Value) → Heap → Prop} {YP : World → Heap → Prop} {d : DefRec}
    (hn : l.most = some n) (hdf : d.params.defaults = [])
    (call : ∀ (w : World) (s₀ s₁ : Shared) (mg mb : Str → Option Value) (fa : Addr) (o : Obj) (pm cd doc : Value) (a : Addr) (vs : List Value) (ns : List Int),
      Ground q loose [] XP w s₀ mg mb s₁.heap → YP w s₁.heap →
      s₁.heap.get? fa = some o → o.data = .func (docDef d.name d.params d.body d.scope pm cd doc) → s₁.heap.CodeRec cd d.name → mg d.name = some (.ref fa) →
      s₁.heap.get? a = some { cls := .type "list", data := .seq vs.toArray } → IntsAre vs ns → ns.length ≤ n → s₁.gens = #[] →
      codeAny (model l.prog w) callerA (.call (.ref fa) ⟨[.ref a], []⟩) (fun r s' => r = .ok (.ret (.bool true)) ∧ OldK s₁.heap s'.heap ∧ s'.os = s₁.os ∧ AllBare s'.gens) s₁) :
    WalkO q loose XP YP l.row.toRowW d [] (fun f vs => PySem.call f vs) := by
  intro w s₀ s₁ mg mb G Y fa o pm cd doc dV kV ho hd hcd hD hmg hg args vals as hpre hlay hrd hwl hlo
  obtain rfl : dV = .none := Dflts.none hD hdf
  obtain rfl : kV = .none := Dflts.noKw hD
  obtain ⟨a, vs, ns, rfl, rfl, hobj, hints, hlen⟩ := script_of hn hpre hwl
  refine enter_call (codeAny_mono (call w s₀ s₁ mg mb fa o pm cd doc a vs ns G Y ho (fd_plain hd) hcd hmg hobj hints hlen hg) fun r s' hq => ?_)
  obtain ⟨rfl, h2, h3, h4⟩ := hq
  exact ⟨.inl ⟨.bool true, .bool true, [], rfl, fun _ => rfl, .bool true, post_true l _, fun _ => ⟨List.Pairwise.nil, fun _ hm => (nomatch hm)⟩⟩, h2, h3, h4⟩
section
variable {prog : Program} {w : World} {A : Around} {E : Value → Shared → Prop} {s : Shared} {K : Frag}
end
end Att
namespace L2
open PySem PySem.Spec PyProof.Rows
theorem vals_ints : ∀ {vs : List Value} {ns : List Int}, IntsAre vs ns → Vals (ns.map V.int) vs
  | _, _, .nil => .nil
  | _, _, .cons n t h => .cons ⟨t, rfl⟩ (vals_ints h)
end L2
namespace L2
open PySem PySem.Spec PyProof.Rows
end L2
/- THE LAST THEOREM (shape; LID, My.* are yours):
   My.Adr: a structure of the addresses that your layer names (classes, functions); My.Txt K t: a structure (Prop) of the equations over K;
   My.txt_mk : {K} {implicit addresses ..} (e1 : nsIn K mainGlobals "law" = some (some (.ref f))) (e2 : K.lookup f = some ⟨oc, od, .func (fnOf "law" "law" params body scope dV kV doc pm an cdv ct), sl⟩) (e3 : codeIn K cdv "law" = true) .. : ∃ t, My.Txt K t
set_option maxRecDepth 100000 in
set_option maxHeartbeats 0 in
theorem PySem.Challenge.cw_LID_holds : PySem.Challenge.rw_LID.Holds := by
  w_on; o_law; k_head; (case hw => w_witness2)
  k_fill
  refine L2.walk_of (l := PySem.Challenge.rw_LID) (n := 63) (k := 40) (x := "script") (CX := fun w => ..) (sp := fun _ => My.sp_law) rfl (by decide) rfl ⟨rfl, by decide, by decide⟩ (fun w h Y => PySem.W.kIn_of Y) ?F ?S ?C
  case F =>
    intro w mg fa h KX G hmg
    have T : ∃ t, My.Txt (L2.KOf KX) t := by
      dsimp only [L2.KOf]                          -- K must stand as «<heap const> w.params» for k_is
      refine' My.txt_mk ?e1 ?e2 ?e3 ..
      (case e1 => PySem.W.k_is)                    -- in the order: a name -> its address -> its object -> its parts
      (case e2 => PySem.W.k_is)
      ..
    obtain ⟨t, T⟩ := T
    have e0 := hmg.symm.trans (PySem.W.mg_of KX G T.law)
    cases e0                                       -- fa is the law's own address
    exact ⟨_, fun s u => .of_eq rfl, fun base kb nb => My.law_fn T kb nb⟩     -- if «.of_eq rfl» comes too early: refine' ⟨_, ?b, fun base kb nb => My.law_fn T kb nb⟩; exact fun s u => .of_eq rfl
  case S => exact fun w H a ns hl hO hS => ..
  case C => exact ..
(the tactic k_is has no namespace: write k_is) -/
namespace L2
open PySem PySem.Spec PyProof.Rows
def inClass (s : Stmt) (j : Nat) : Stmt := match s with
  | .ClassDef _ _ _ body _ _ _ _ _ _ _ => body.getD j (.Pass ⟨0, 0, 0, 0⟩)
  | _ => .Pass ⟨0, 0, 0, 0⟩
def defArgs (s : Stmt) : Arguments := match s with
  | .FunctionDef _ a _ _ _ _ _ _ _ _ => a
  | _ => { posonlyargs := [], args := [], vararg := none, kwonlyargs := [], kw_defaults := [], kwarg := none, defaults := [] }
def defBody (s : Stmt) : List Stmt := match s with
  | .FunctionDef _ _ b _ _ _ _ _ _ _ => b
  | _ => []
def defScope (s : Stmt) : Scope := match s with
  | .FunctionDef _ _ _ _ _ _ sc _ _ _ => sc
  | _ => { kind := .function, names := [], isGenerator := false, isCoroutine := false }
abbrev CX0 : CXT := fun _ _ _ _ _ _ => False
abbrev E0 : XK := fun _ _ _ => False
theorem pass0 {X : Cx} : Passes CX0 X E0 := fun _ _ _ _ _ _ _ h => h.elim
structure Fun (K : PySem.W.Frag) (x qual : Str) (st : Stmt) (f : Addr) (fd : FuncData) : Prop where
  ex : ∃ (oc : Value) (od : Option Addr) (kV doc pm : Value) (an : Option Addr) (cdv ct : Value) (osl : Array (Option Value)),
    fd = PySem.W.fnOf x qual (defArgs st) (defBody st) (defScope st) .none kV doc pm an cdv ct ∧ K.lookup f = some ⟨oc, od, .func fd, osl⟩ ∧ PySem.W.codeIn K cdv qual = true
  kp : PySem.W.keepIn K (.ref f) = true
section
variable {P : Program} {w : World} {K : PySem.W.Frag} {mg : Str → Option Value} {base : Heap}
theorem Fun.ok {x qual : Str} {st : Stmt} {f : Addr} {fd : FuncData} {N ps : List Str} {k : Nat} {sp : Sp} (F : Fun K x qual st f fd) (S : FnScope N ps (defScope st)) (len : ∀ vs H Q E, sp vs H Q E → vs.length = ps.length)
    (hbody : ∀ (cdv : Value) (A : Around) (outer : List Env) (s : Shared) (H : Hp) (vs : List V) (Q : VK) (E : XK), Room k (A.deeper (envOfC qual (defScope st) s.heap.objs.size f cdv)) → sp vs H Q E →
      ∃ t, PSs (cxOf CX0 P w K mg base N qual (defScope st) f cdv A outer s H E).nox (defBody st) t ∧ t { nx := fun _ H' => Q .non H', rt := Q } (start N vs) H) : FnOk P w K mg base CX0 (k + 1) f fd ps sp := by
  obtain ⟨oc, od, kV, doc, pm, an, cdv, ct, osl, rfl, lk, hcd⟩ := F.ex
  refine fn_of lk hcd S len fun A outer s H vs Q E hr hsp => ?_
  obtain ⟨t, h, q⟩ := hbody cdv A outer s H vs Q E hr hsp
  exact ⟨t, h.nox, q⟩
theorem Fun.binds {x qual : Str} {st : Stmt} {f : Addr} {fd : FuncData} {ps : List Str} (F : Fun K x qual st f fd)
    (h : ∀ (kV doc pm : Value) (an : Option Addr) (cdv ct : Value) (us : List Value), us.length = ps.length → bindArgs (PySem.W.fnOf x qual (defArgs st) (defBody st) (defScope st) .none kV doc pm an cdv ct) ⟨us, []⟩ = pure (ps.zip us)) : Binds K fd ps [] := by
  obtain ⟨oc, od, kV, doc, pm, an, cdv, ct, osl, rfl, lk, hcd⟩ := F.ex
  exact .all (h kV doc pm an cdv ct)
theorem fun_mk {x qual : Str} {st : Stmt} {f : Addr} {oc : Value} {od an : Option Addr} {osl : Array (Option Value)} {kV doc pm cdv ct : Value} (l : K.lookup f = some ⟨oc, od, .func (PySem.W.fnOf x qual (defArgs st) (defBody st) (defScope st) .none kV doc pm an cdv ct), osl⟩)
    (c : PySem.W.codeIn K cdv qual = true) (k : PySem.W.keepIn K (.ref f) = true) : Fun K x qual st f (PySem.W.fnOf x qual (defArgs st) (defBody st) (defScope st) .none kV doc pm an cdv ct) := ⟨⟨oc, od, kV, doc, pm, an, cdv, ct, osl, rfl, l, c⟩, k⟩
end
theorem small1000 {n : Nat} (h : n ≤ 1000) : n < sizeLine := Nat.lt_of_le_of_lt h (by decide)
section
variable {X : Cx}
theorem pv (i : Nat) {x : Str} {pos : Pos} (hN : X.N[i]? = some x := by rfl) (hv : Vis X.env.scope x := by first | exact Or.inl rfl | exact Or.inr (Or.inl rfl) | exact Or.inr (Or.inr rfl)) (hd : (x == ("__debug__" : Str)) = false := by decide)
    (hcd : (x == ("__classdict__" : Str)) = false := by decide) : PE X (.Name x pos) (tVar i) := pe_var hN hv hd hcd
end
def Same (H H' : Hp) : Prop := ∀ b o, H b = some o → H' b = some o
theorem Same.refl (H : Hp) : Same H H := fun _ _ h => h
theorem Same.trans {H H1 H2 : Hp} (a : Same H H1) (b : Same H1 H2) : Same H H2 := fun c o h => b c o (a c o h)
theorem Same.seq {K : PySem.W.Frag} {H H' : Hp} {a : Addr} {xs : List V} (e : Same H H') (h : SqL K H a xs) : SqL K H' a xs := by
  rcases h with (h | ⟨o, h⟩) | h
  · exact .inl (.inl (e _ _ h))
  · exact .inl (.inr ⟨o, e _ _ h⟩)
  · exact .inr h
end L2
section
namespace SvM
theorem xor_and_add : ∀ (n a b : Nat), a + b ≤ n → (a ^^^ b) + 2 * (a &&& b) = a + b := by
  intro n
  induction n with
  | zero =>
    intro a b h
    have ha : a = 0 := by omega
    have hb : b = 0 := by omega
    subst ha hb
    rfl
  | succ n ih =>
    intro a b h
    by_cases hz : a + b = 0
    · have ha : a = 0 := by omega
      have hb : b = 0 := by omega
      subst ha hb
      rfl
    have i := ih (a / 2) (b / 2) (by omega)
    have x1 : (a ^^^ b) / 2 = a / 2 ^^^ b / 2 := Nat.xor_div_two
    have x2 : (a &&& b) / 2 = a / 2 &&& b / 2 := Nat.and_div_two
    have p1 : ((a ^^^ b) % 2 = 1) ↔ ¬ ((a % 2 = 1) ↔ (b % 2 = 1)) := Nat.xor_mod_two_eq_one
    have p2 : ((a &&& b) % 2 = 1) ↔ (a % 2 = 1) ∧ (b % 2 = 1) := Nat.and_mod_two_eq_one
    rw [← x1, ← x2] at i
    generalize a ^^^ b = x at *
    generalize a &&& b = y at *
    have hx : x % 2 = 0 ∨ x % 2 = 1 := by omega
    have hy : y % 2 = 0 ∨ y % 2 = 1 := by omega
    have ha : a % 2 = 0 ∨ a % 2 = 1 := by omega
    have hb : b % 2 = 0 ∨ b % 2 = 1 := by omega
    rcases ha with ha | ha <;> rcases hb with hb | hb <;> simp [ha, hb] at p1 p2 <;> omega
theorem xor_zero_eq {a b : Nat} (h : a ^^^ b = 0) : a = b := by
  have e : (a ^^^ b) ^^^ b = 0 ^^^ b := by rw [h]
  rw [Nat.xor_assoc, Nat.xor_self, Nat.xor_zero, Nat.zero_xor] at e
  exact e
theorem xor_top {a b p : Nat} (h1 : a / 2 ^ (p + 1) = b / 2 ^ (p + 1)) (h2 : a / 2 ^ p ≠ b / 2 ^ p) : 2 ^ p ≤ a ^^^ b ∧ a ^^^ b < 2 ^ (p + 1) := by
  constructor
  · apply Nat.le_of_not_lt
    intro h
    have e : (a ^^^ b) / 2 ^ p = 0 := Nat.div_eq_of_lt h
    rw [Nat.xor_div_two_pow] at e
    exact h2 (xor_zero_eq e)
  · have e : (a ^^^ b) / 2 ^ (p + 1) = 0 := by rw [Nat.xor_div_two_pow, h1, Nat.xor_self]
    rcases (Nat.div_eq_zero_iff).mp e with e | e
    · exact absurd e (Nat.ne_of_gt (Nat.two_pow_pos _))
    · exact e
end SvM
open PySem
namespace SvM
def sz (b : Int) : Int := 2 ^ (32 - b).toNat
theorem two_pow_pos (k : Nat) : (0 : Int) < 2 ^ k := by
  have h : (0 : Nat) < 2 ^ k := Nat.two_pow_pos k
  have e : ((2 ^ k : Nat) : Int) = (2 : Int) ^ k := by norm_cast
  omega
theorem two_pow_cast (k : Nat) : ((2 ^ k : Nat) : Int) = (2 : Int) ^ k := by norm_cast
theorem two_pow_succ (k : Nat) : (2 : Int) ^ (k + 1) = 2 * 2 ^ k := by rw [Int.pow_succ, Int.mul_comm]
theorem sz_pos (b : Int) : 0 < sz b := two_pow_pos _
theorem free_bits {b : Int} (h0 : 0 ≤ b) (h1 : b ≤ 32) : (4294967295 : Int) / 2 ^ b.toNat = sz b - 1 := by
  have all : ∀ k, k ≤ 32 → (4294967295 : Int) / 2 ^ k = 2 ^ (32 - k) - 1 := by decide +kernel
  have q := all b.toNat (by omega)
  rw [q]
  have e : 32 - b.toNat = (32 - b).toNat := by omega
  rw [e]
  rfl
theorem mask (x : Int) (k : Nat) (hx : 0 ≤ x) : Builtin.bitAnd x (2 ^ k - 1) = x % 2 ^ k := by
  have hp := two_pow_pos k
  rw [PyProof.Rows.bitAnd_pp hx (by omega)]
  have e : ((2 : Int) ^ k - 1).toNat = 2 ^ k - 1 := by
    have c := two_pow_cast k
    have np : 0 < 2 ^ k := Nat.two_pow_pos k
    omega
  rw [e, Nat.and_two_pow_sub_one_eq_mod]
  have c := two_pow_cast k
  rw [← c]
  have x' : (x.toNat : Int) = x := by omega
  rw [Int.natCast_emod, x']
theorem or_mask {a b : Int} (ha : 0 ≤ a) : Builtin.bitOr a (sz b - 1) = a / sz b * sz b + sz b - 1 := by
  have m : Builtin.bitAnd a (sz b - 1) = a % sz b := mask a _ ha
  rw [PyProof.Rows.bitOr_and, m]
  have d := Int.mul_ediv_add_emod a (sz b)
  rw [Int.mul_comm (a / sz b)]
  omega
theorem xor_pp {x y : Int} (hx : 0 ≤ x) (hy : 0 ≤ y) : Builtin.bitXor x y = ((x.toNat ^^^ y.toNat : Nat) : Int) := by
  rw [PyProof.Rows.bitXor_and, PyProof.Rows.bitAnd_pp hx hy]
  have q := xor_and_add _ x.toNat y.toNat (Nat.le_refl _)
  generalize x.toNat ^^^ y.toNat = u at *
  generalize x.toNat &&& y.toNat = v at *
  omega
theorem bits_of_range {x : Int} {p : Nat} (h1 : 2 ^ p ≤ x.natAbs) (h2 : x.natAbs < 2 ^ (p + 1)) : Builtin.Int.intBits x = p + 1 := by
  have a : Builtin.Int.intBits x ≤ p + 1 := PySem.intBits_le_iff.mpr h2
  have b : ¬ Builtin.Int.intBits x ≤ p := fun h => by
    have := PySem.intBits_le_iff.mp h
    omega
  omega
theorem bits_le {x : Int} {p : Nat} (h2 : x.natAbs < 2 ^ p) : Builtin.Int.intBits x ≤ p := PySem.intBits_le_iff.mpr h2
end SvM
open PySem
namespace SvM
theorem div_of {q d e : Int} (h0 : 0 ≤ e) (h1 : e < d) : (q * d + e) / d = q := by
  have hd : 0 < d := by omega
  rw [Int.add_comm, Int.add_mul_ediv_right _ _ (by omega), Int.ediv_eq_zero_of_lt h0 h1]
  omega
theorem div_toNat {a : Int} (h : 0 ≤ a) (k : Nat) : ((a.toNat / 2 ^ k : Nat) : Int) = a / 2 ^ k := by
  rw [Int.natCast_ediv, two_pow_cast]
  have e : (a.toNat : Int) = a := by omega
  rw [e]
theorem xor_bits {a b : Int} {p : Nat} (ha : 0 ≤ a) (hb : 0 ≤ b) (h1 : a / 2 ^ (p + 1) = b / 2 ^ (p + 1)) (h2 : a / 2 ^ p ≠ b / 2 ^ p) : Builtin.Int.intBits (Builtin.bitXor a b) = p + 1 := by
  have n1 : a.toNat / 2 ^ (p + 1) = b.toNat / 2 ^ (p + 1) := by
    have e1 := div_toNat ha (p + 1)
    have e2 := div_toNat hb (p + 1)
    omega
  have n2 : a.toNat / 2 ^ p ≠ b.toNat / 2 ^ p := by
    have e1 := div_toNat ha p
    have e2 := div_toNat hb p
    omega
  obtain ⟨l, g⟩ := xor_top n1 n2
  rw [xor_pp ha hb]
  exact bits_of_range (by rw [Int.natAbs_natCast]; exact l) (by rw [Int.natAbs_natCast]; exact g)
theorem xor_bits_self (a : Int) : Builtin.Int.intBits (Builtin.bitXor a a) = 0 := by rw [PyProof.Rows.bitXor_self]; rfl
theorem xor_bits_le {a b : Int} (ha : 0 ≤ a) (hb : 0 ≤ b) (ha' : a < 4294967296) (hb' : b < 4294967296) : Builtin.Int.intBits (Builtin.bitXor a b) ≤ 32 := by
  rw [xor_pp ha hb]
  refine bits_le ?_
  rw [Int.natAbs_natCast]
  exact Nat.xor_lt_two_pow (by omega) (by omega)
def turned (a : Int) (p : Nat) (r : Int) : Int := a / (2 * 2 ^ p) * 2 * 2 ^ p + (1 - a / 2 ^ p % 2) * 2 ^ p + r % 2 ^ p
theorem ends_bits {lo hi : Int} {k : Nat} (h0 : 0 ≤ lo) (hm : lo % 2 ^ k = 0) (he : hi - lo + 1 = 2 ^ k) : Builtin.Int.intBits (Builtin.bitXor lo hi) = k := by
  cases k with
  | zero =>
    have e : hi = lo := by rw [Int.pow_zero] at he; omega
    subst e
    exact xor_bits_self _
  | succ p =>
    have sp := two_pow_pos p
    have dm := Int.mul_ediv_add_emod lo (2 ^ (p + 1))
    refine xor_bits h0 (by have := two_pow_pos (p + 1); omega) ?_ ?_
    · rw [two_pow_succ] at *
      generalize (2 : Int) ^ p = s at *
      generalize hq : lo / (2 * s) = q at *
      have e : hi = q * (2 * s) + (2 * s - 1) := by rw [Int.mul_comm q]; omega
      rw [e, div_of (by omega) (by omega)]
    · rw [two_pow_succ] at *
      generalize (2 : Int) ^ p = s at *
      generalize hq : lo / (2 * s) = q at *
      have e : hi = (2 * q + 1) * s + (s - 1) := by rw [Int.add_mul, Int.one_mul, Int.mul_comm 2 q, Int.mul_assoc, Int.mul_comm q]; omega
      have e' : lo = (2 * q) * s + 0 := by rw [Int.mul_comm 2 q, Int.mul_assoc, Int.mul_comm q]; omega
      rw [e, div_of (by omega) (by omega)]
      have d2 : lo / s = 2 * q := by rw [e', div_of (by omega) (by omega)]
      rw [d2]
      omega
end SvM
end
set_option maxHeartbeats 4000000
namespace Sv
open PySem PySem.Spec PyProof.Rows L2
section
variable {X : Cx}
def CDivW (_ j : Int) : Prop := 0 < j ∧ j < 18446744073709551616
theorem op_divW : OpR X (binaryOp .FloorDiv) (rI CDivW fun i j => .int (i / j)) := opI fun i j _ _ _ _ _ hc q => by
  have p1 : (0 : Int) < j := hc.1
  have p2 : j < 18446744073709551616 := hc.2
  have lg : j.natAbs.log2 < 9000 := by
    have a : j.natAbs ≠ 0 := by omega
    have b : j.natAbs < 2 ^ 64 := by omega
    have c := (Nat.log2_lt a).mpr b
    omega
  refine floordiv_int (by omega) ?_ (.inl (PyProof.noPylong_of_log2 lg))
  rw [Int.fdiv_eq_ediv_of_nonneg i (by omega)]
  exact q
def Its (lo c : Int) (n : Nat) : It := ⟨fun i _ => i < n, fun i H x H' => H' = H ∧ x = .int (lo + (i : Int) * c), fun i _ => n ≤ i⟩
theorem turn_step {P : Program} {w : World} {K : PySem.W.Frag} {tg : Expr} (it : Addr) (lo c : Int) (n : Nat) :
    Turn P w K tg (Its lo c n) [it] it (fun i h => IsRangeIter h it (lo + (i : Nat) * c) ((n : Int) - (i : Nat)) c) where
  mem := List.mem_singleton.mpr rfl
  obj := fun i h st b hb => by
    obtain rfl : b = it := List.mem_singleton.mp hb
    refine ⟨_, st, fun v z => ?_⟩
    have z' : Data.fields _ = Data.cell v := z
    cases z'
  keep := fun i h h' st k => k it (List.mem_singleton.mpr rfl) _ st
  item := by
    intro X eP ew eK hc i pins s σ H E I hf st hg
    subst eP ew eK
    obtain ⟨f0, f1, f2, f3, f4, f5⟩ := hf it (List.mem_singleton.mpr rfl)
    refine (Walks.range (prog := X.prog) (w := X.w) (I.ok.hd hc) it lo c n).item i s _ _ hg st fun v h' tk hv st' kk => ?_
    obtain ⟨t, rfl⟩ := hv
    have J : Inv X pins σ H { s with heap := h', toks := tk } := I.turned (fun b o hb e => kk b o (fun z => hb (List.mem_singleton.mp z)) e) f0 f1 f3 f4 f5
    exact ⟨_, rfl, go_of (s := { s with heap := h', toks := tk }) (n := "range_iterator") st' rfl rfl (by decide)
      ⟨.int (lo + (i : Int) * c), H, J, ⟨t, rfl⟩, ⟨rfl, rfl⟩, st', fun b hb => (hf b hb).1⟩⟩
  done := by
    intro X eP ew eK hc i pins s σ H E I hf st hg
    subst eP ew eK
    obtain ⟨f0, f1, f2, f3, f4, f5⟩ := hf it (List.mem_singleton.mpr rfl)
    have le : n ≤ i := hg
    exact wpAny_pyNext_range_end (I.ok.hd hc) st (by omega) fun h' eb => ⟨rfl, I.turned (t' := s.toks) (fun b o hb e => eb b o hb e) f0 f1 f3 f4 f5⟩
  self := fun _ _ _ _ _ st h => wpAny_pyIter_rangeiter st h
theorem for_step {lo c : Int} {n : Nat} {g : TG} {tb : TS} {D : Ends} {σ : L2.St} {H : Hp} (Pv : Nat → L2.St → Hp → Prop) (h0 : Pv 0 σ H)
    (hs : ∀ i σ H, i < n → Pv i σ H → g (.int (lo + (i : Int) * c)) σ H fun σ2 H2 => tb { D with nx := Pv (i + 1), ct := Pv (i + 1), bk := D.nx } σ2 H2) (hd : ∀ σ H, Pv n σ H → D.nx σ H) :
    ∃ W : Nat → Nat → L2.St → Hp → Prop, (∃ m, W 0 m σ H) ∧ ∀ i m σ H, W i m σ H →
      ((Its lo c n).stop i H ∧ D.nx σ H) ∨ ((Its lo c n).go i H ∧ ∃ N : L2.St → Hp → Prop, (∀ σ' H', N σ' H' → ∃ m', m' < m ∧ W (i + 1) m' σ' H') ∧ ∀ x H', (Its lo c n).yld i H x H' → g x σ H' fun σ2 H2 => tb { D with nx := N, ct := N, bk := D.nx } σ2 H2) := by
  refine ⟨fun i m σ H => m = n - i ∧ i ≤ n ∧ Pv i σ H, ⟨n, rfl, Nat.zero_le _, h0⟩, fun i m σ H hw => ?_⟩
  obtain ⟨rfl, hi, p⟩ := hw
  by_cases lt : i < n
  · refine .inr ⟨lt, Pv (i + 1), fun σ' H' p' => ⟨n - (i + 1), by omega, rfl, lt, p'⟩, fun x H' y => ?_⟩
    obtain ⟨e, y⟩ := y
    subst e y
    exact hs i σ _ lt p
  · obtain rfl : i = n := by omega
    exact .inl ⟨Nat.le_refl _, hd σ H p⟩
def rIsi (K : PySem.W.Frag) : List V → Hp → VK → Prop := fun xs H Q => ∃ x T t b, xs = [x, .ty T] ∧ TyOf K H x t ∧ PySem.W.kitOne K t (.type T) = some b ∧ Q (.bl b) H
theorem call_isi : CallR X (.builtin "isinstance") (rIsi X.K) := by
  intro pins s σ H xs us Q I r h
  obtain ⟨x, T, t, b, rfl, ty, e, q⟩ := h
  obtain ⟨u, v, rfl, ru, rv⟩ := Vals.two r
  obtain rfl : v = Value.type T := rv
  exact isinst_ok I ru ty e fun tk => ⟨.bl b, H, I.tok tk, rfl, q⟩
theorem kit_same (K : PySem.W.Frag) (T : String) : PySem.W.kitOne K (.type T) (.type T) = some true := by
  unfold PySem.W.kitOne
  rw [if_pos (beq_self_eq_true _)]
mutual
inductive Dt (H : Hp) : V → PyData → Prop where
  | non : Dt H .non .none
  | bl (b : Bool) : Dt H (.bl b) (.bool b)
  | int (i : Int) : Dt H (.int i) (.int i)
  | str (x : Str) : Dt H (.str x) (.str x)
  | tup {a : Addr} {xs : List V} {ds : List PyData} (e : Rd H a (.tup xs)) (r : Dts H xs ds) : Dt H (.ref a) (.tuple ds)
  | lst {a : Addr} {xs : List V} {ds : List PyData} (e : Rd H a (.lst xs)) (r : Dts H xs ds) : Dt H (.ref a) (.list ds)
inductive Dts (H : Hp) : List V → List PyData → Prop where
  | nil : Dts H [] []
  | cons {x : V} {d : PyData} {xs : List V} {ds : List PyData} (h : Dt H x d) (t : Dts H xs ds) : Dts H (x :: xs) (d :: ds)
end
mutual
theorem Dt.reads {pins : List (Addr × Obj)} {σ : L2.St} {H : Hp} {s : Shared} (I : Inv X pins σ H s) : ∀ {x : V} {d : PyData} {u : Value}, Dt H x d → RelV x u → ∃ as, Reads s.heap u d as
  | _, _, _, .non, r => by cases r; exact ⟨_, .none⟩
  | _, _, _, .bl b, r => by cases r; exact ⟨_, .bool b⟩
  | _, _, _, .int i, r => by obtain ⟨t, rfl⟩ := r; exact ⟨_, .int i t⟩
  | _, _, _, .str x, r => by obtain ⟨t, rfl⟩ := r; exact ⟨_, .str x t⟩
  | _, _, _, .tup e q, r => by
    cases r
    obtain ⟨_, its, rv, o, h1, h2, n, h3⟩ := e.ok I.hok
    obtain ⟨as, ra⟩ := Dts.reads I q rv
    exact ⟨_, .tuple h1 h2 h3 (by simpa using ra)⟩
  | _, _, _, .lst e q, r => by
    cases r
    obtain ⟨_, its, n, rv, h1⟩ := e.ok I.hok
    obtain ⟨as, ra⟩ := Dts.reads I q rv
    exact ⟨_, .list h1 rfl rfl (by simpa using ra)⟩
theorem Dts.reads {pins : List (Addr × Obj)} {σ : L2.St} {H : Hp} {s : Shared} (I : Inv X pins σ H s) : ∀ {xs : List V} {ds : List PyData} {us : List Value}, Dts H xs ds → Vals xs us → ∃ as, ReadsAll s.heap us ds as
  | _, _, _, .nil, r => by cases r; exact ⟨_, .nil⟩
  | _, _, _, .cons h t, r => by
    cases r with
    | cons r1 r2 =>
      obtain ⟨a1, q1⟩ := Dt.reads I h r1
      obtain ⟨a2, q2⟩ := Dts.reads I t r2
      exact ⟨_, .cons q1 q2⟩
end
def rEqD (neg : Bool) : R2 := fun x y H Q => ∃ d e, Dt H x d ∧ Dt H y e ∧ SeqAt.shaped d = true ∧ SeqAt.shaped e = true ∧ Q (.bl (if neg then !PyData.eqv d e else PyData.eqv d e)) H
theorem op_eqD (hu : X.A.units + 64 < cLine) : OpR X (compareOp .Eq) (rEqD false) := by
  intro pins s σ H x y v u Q I rx ry h
  obtain ⟨d, e, hd, he, sd, se, q⟩ := h
  obtain ⟨as, ra⟩ := hd.reads I rx
  obtain ⟨bs, rb⟩ := he.reads I ry
  exact SeqAt.eqOverData X.prog X.w X.A _ s v u d e as bs _ ra rb (SeqAt.canLay_of_shaped sd) (SeqAt.canLay_of_shaped se) (SeqAt.room_of_shaped sd hu) ⟨.bl _, H, I, rfl, q⟩
theorem op_neD (hu : X.A.units + 64 < cLine) : OpR X (compareOp .NotEq) (rEqD true) := by
  intro pins s σ H x y v u Q I rx ry h
  obtain ⟨d, e, hd, he, sd, se, q⟩ := h
  obtain ⟨as, ra⟩ := hd.reads I rx
  obtain ⟨bs, rb⟩ := he.reads I ry
  exact SeqAt.neOverData X.prog X.w X.A _ s v u d e as bs _ ra rb (SeqAt.canLay_of_shaped sd) (SeqAt.canLay_of_shaped se) (SeqAt.room_of_shaped sd hu) ⟨.bl _, H, I, rfl, q⟩
def rBits : V → List V → Hp → VK → Prop := fun x vs H Q => ∃ i, x = .int i ∧ vs = [] ∧ Q (.int (Builtin.Int.intBits i)) H
theorem mt_bits : MtR X "int.bit_length" rBits := by
  intro pins s σ H x xs v us Q I rx rs h
  obtain ⟨i, rfl, rfl, q⟩ := h
  obtain ⟨t, rfl⟩ := rx
  cases rs
  exact call_int_bit_length ⟨.int (Builtin.Int.intBits i), H, I.tok _, ⟨_, rfl⟩, q⟩
end
end Sv
namespace Sv
open PySem PySem.Spec PyProof.Rows L2
def BrS (b : Bool) (f g : L2.St → Hp → Prop) (σ : L2.St) (H : Hp) : Prop := if b = true then f σ H else g σ H
def BrA (b : Bool) (u : TT) (σ : L2.St) (H : Hp) (Q : Bool → Hp → Prop) : Prop := if b = true then u σ H Q else Q false H
def BrO (b : Bool) (u : TT) (σ : L2.St) (H : Hp) (Q : Bool → Hp → Prop) : Prop := if b = true then Q true H else u σ H Q
section
variable {f g : L2.St → Hp → Prop} {σ : L2.St} {H : Hp} {u : TT} {ue : TE} {Q : Bool → Hp → Prop} {Qv : VK} {b : Bool}
theorem brS_t : BrS true f g σ H = f σ H := rfl
theorem brS_f : BrS false f g σ H = g σ H := rfl
theorem brA_t : BrA true u σ H Q = u σ H Q := rfl
theorem brA_f : BrA false u σ H Q = Q false H := rfl
theorem brO_t : BrO true u σ H Q = Q true H := rfl
theorem brO_f : BrO false u σ H Q = u σ H Q := rfl
theorem BrS.go (h1 : b = true → f σ H) (h2 : b = false → g σ H) : BrS b f g σ H := by
  cases b with
  | true => exact h1 rfl
  | false => exact h2 rfl
theorem BrS.dec {c : Prop} [Decidable c] (h1 : c → f σ H) (h2 : ¬ c → g σ H) : BrS (decide c) f g σ H :=
  BrS.go (fun e => h1 (of_decide_eq_true e)) fun e => h2 (of_decide_eq_false e)
theorem BrA.dec {c : Prop} [Decidable c] (h1 : c → u σ H Q) (h2 : ¬ c → Q false H) : BrA (decide c) u σ H Q := by
  by_cases z : c
  · rw [decide_eq_true z]; exact h1 z
  · rw [decide_eq_false z]; exact h2 z
theorem BrO.dec {c : Prop} [Decidable c] (h1 : c → Q true H) (h2 : ¬ c → u σ H Q) : BrO (decide c) u σ H Q := by
  by_cases z : c
  · rw [decide_eq_true z]; exact h1 z
  · rw [decide_eq_false z]; exact h2 z
end
def ForR (J : It) (g : TG) (tb : TS) (D : Ends) (σ : L2.St) (H : Hp) : Prop := ∃ W : Nat → Nat → L2.St → Hp → Prop, (∃ m, W 0 m σ H) ∧ ∀ i m σ H, W i m σ H →
  (J.stop i H ∧ D.nx σ H) ∨ (J.go i H ∧ ∃ N : L2.St → Hp → Prop, (∀ σ' H', N σ' H' → ∃ m', m' < m ∧ W (i + 1) m' σ' H') ∧ ∀ x H', J.yld i H x H' → g x σ H' fun σ2 H2 => tb { D with nx := N, ct := N, bk := D.nx } σ2 H2)
theorem ForR.range {lo : Int} {n : Nat} {g : TG} {tb : TS} {D : Ends} {σ : L2.St} {H : Hp} (Pv : Nat → L2.St → Hp → Prop) (h0 : Pv 0 σ H)
    (hs : ∀ i σ H, i < n → Pv i σ H → g (.int (lo + i)) σ H fun σ2 H2 => tb { D with nx := Pv (i + 1), ct := Pv (i + 1), bk := D.nx } σ2 H2) (hd : ∀ σ H, Pv n σ H → D.nx σ H) : ForR (Itr lo n) g tb D σ H :=
  for_range Pv h0 hs hd
theorem ForR.step {lo c : Int} {n : Nat} {g : TG} {tb : TS} {D : Ends} {σ : L2.St} {H : Hp} (Pv : Nat → L2.St → Hp → Prop) (h0 : Pv 0 σ H)
    (hs : ∀ i σ H, i < n → Pv i σ H → g (.int (lo + (i : Int) * c)) σ H fun σ2 H2 => tb { D with nx := Pv (i + 1), ct := Pv (i + 1), bk := D.nx } σ2 H2) (hd : ∀ σ H, Pv n σ H → D.nx σ H) : ForR (Its lo c n) g tb D σ H :=
  for_step Pv h0 hs hd
theorem ForR.list {K : PySem.W.Frag} {a : Addr} {xs : List V} {g : TG} {tb : TS} {D : Ends} {σ : L2.St} {H : Hp} (Pv : Nat → L2.St → Hp → Prop) (h0 : Pv 0 σ H) (hl : ∀ i σ H, i ≤ xs.length → Pv i σ H → SqL K H a xs)
    (hs : ∀ i x σ H, xs[i]? = some x → Pv i σ H → g x σ H fun σ2 H2 => tb { D with nx := Pv (i + 1), ct := Pv (i + 1), bk := D.nx } σ2 H2) (hd : ∀ σ H, Pv xs.length σ H → D.nx σ H) : ForR (Itl K a) g tb D σ H :=
  for_list Pv h0 hl hs hd
section
variable {t u : TS} {D : Ends} {σ : L2.St} {H : Hp} {te ta tb tc : TE} {Q : VK} {tr : TA} {c tt tu : TT} {Qb : Bool → Hp → Prop} {Ql : List V → Hp → Prop} {G : TG} {v x : V} {r r' : R2} {wi : TI}
theorem seq_ : tSeq t u D σ H = t { D with nx := u D } σ H := rfl
theorem next_ : tNext D σ H = D.nx σ H := rfl
theorem ret_ : tRet te D σ H = te σ H D.rt := rfl
theorem drop_ : tDrop te D σ H = te σ H fun _ H1 => D.nx σ H1 := rfl
theorem ifS_ : tIfS c t u D σ H = c σ H fun b H1 => BrS b (t D) (u D) σ H1 := rfl
theorem asg_ : tAsg te G D σ H = te σ H fun x H1 => G x σ H1 D.nx := rfl
theorem gname_ {i : Nat} {R : L2.St → Hp → Prop} : gName i v σ H R = R (σ.set i (some v)) H := rfl
theorem var_ {i : Nat} : tVar i σ H Q = ∃ v, σ[i]? = some (some v) ∧ Q v H := rfl
theorem ex_ {α : Type} {x : α} {P : α → Prop} : (∃ v, some (some x) = some (some v) ∧ P v) = P x := by
  apply propext
  constructor
  · intro h
    obtain ⟨v, e, p⟩ := h
    cases e
    exact p
  · exact fun p => ⟨x, rfl, p⟩
theorem exb_ {b : Bool} {P : Bool → Prop} : (∃ k, V.bl b = V.bl k ∧ P k) = P b := by
  apply propext
  constructor
  · intro h
    obtain ⟨v, e, p⟩ := h
    cases e
    exact p
  · exact fun p => ⟨b, rfl, p⟩
theorem c_ : tC v σ H Q = Q v H := rfl
theorem op_ : tOp r ta tb σ H Q = ta σ H fun x H1 => tb σ H1 fun y H2 => r x y H2 Q := rfl
theorem test_ : tTest te σ H Qb = te σ H fun x H1 => ∃ k, x = .bl k ∧ Qb k H1 := rfl
theorem tB_ : tB te σ H Qb = te σ H fun x H1 => ∃ k, x = .bl k ∧ Qb k H1 := rfl
theorem and_ : tAnd tt tu σ H Qb = tt σ H fun b H1 => BrA b tu σ H1 Qb := rfl
theorem or_ : tOr tt tu σ H Qb = tt σ H fun b H1 => BrO b tu σ H1 Qb := rfl
theorem not_ : tNot tt σ H Qb = tt σ H fun b H1 => Qb (!b) H1 := rfl
theorem rI0_ {g : Int → Int → V} {i j : Int} : rI0 g (.int i) (.int j) H Q = Q (g i j) H := by
  apply propext
  constructor
  · intro h
    obtain ⟨a, b, e1, e2, q⟩ := h
    cases e1; cases e2
    exact q
  · exact fun q => ⟨i, j, rfl, rfl, q⟩
theorem rI_ {C : Int → Int → Prop} {g : Int → Int → V} {i j : Int} : rI C g (.int i) (.int j) H Q = (C i j ∧ Q (g i j) H) := by
  apply propext
  constructor
  · intro h
    obtain ⟨a, b, e1, e2, q⟩ := h
    cases e1; cases e2
    exact q
  · exact fun q => ⟨i, j, rfl, rfl, q⟩
theorem rEqI_ {i j : Int} : rEq (.int i) (.int j) H Q = Q (.bl (decide (i = j))) H := by
  have e : decide (V.int i = V.int j) = decide (i = j) := by rw [dec_int, Bool.beq_eq_decide_eq]
  unfold rEq
  rw [e]
  exact propext ⟨fun h => h.2, fun h => ⟨rfl, h⟩⟩
theorem rNeI_ {i j : Int} : rNe (.int i) (.int j) H Q = Q (.bl (!decide (i = j))) H := by
  have e : decide (V.int i = V.int j) = decide (i = j) := by rw [dec_int, Bool.beq_eq_decide_eq]
  unfold rNe
  rw [e]
  exact propext ⟨fun h => h.2, fun h => ⟨rfl, h⟩⟩
theorem rEqS_ {i j : Str} : rEq (.str i) (.str j) H Q = Q (.bl (decide (i = j))) H := by
  have e : decide (V.str i = V.str j) = decide (i = j) := by rw [dec_str, Bool.beq_eq_decide_eq]
  unfold rEq
  rw [e]
  exact propext ⟨fun h => h.2, fun h => ⟨rfl, h⟩⟩
theorem rNeS_ {i j : Str} : rNe (.str i) (.str j) H Q = Q (.bl (!decide (i = j))) H := by
  have e : decide (V.str i = V.str j) = decide (i = j) := by rw [dec_str, Bool.beq_eq_decide_eq]
  unfold rNe
  rw [e]
  exact propext ⟨fun h => h.2, fun h => ⟨rfl, h⟩⟩
theorem nil_ : tNil σ H Ql = Ql [] H := rfl
theorem cons_ : tCons te tr σ H Ql = te σ H fun x H1 => tr σ H1 fun xs H2 => Ql (x :: xs) H2 := rfl
def TupR (xs : List V) (H : Hp) (Q : VK) : Prop := xs.length ≤ sizeLine ∧ ∀ p, H p = none → Q (.ref p) (upd H p (.tup xs))
def LstR (xs : List V) (H : Hp) (Q : VK) : Prop := xs.length ≤ sizeLine ∧ ∀ p, H p = none → Q (.ref p) (upd H p (.lst xs))
theorem tup_ : tTup tr σ H Q = tr σ H fun xs H1 => TupR xs H1 Q := rfl
theorem lst_ : tLst tr σ H Q = tr σ H fun xs H1 => LstR xs H1 Q := rfl
theorem TupR.go {xs : List V} (h : xs.length ≤ 1000) (q : ∀ p, H p = none → Q (.ref p) (upd H p (.tup xs))) : TupR xs H Q := ⟨Nat.le_of_lt (small1000 h), q⟩
theorem LstR.go {xs : List V} (h : xs.length ≤ 1000) (q : ∀ p, H p = none → Q (.ref p) (upd H p (.lst xs))) : LstR xs H Q := ⟨Nat.le_of_lt (small1000 h), q⟩
theorem call_ {sp : Sp} {E : XK} : tCall sp [] E tr σ H Q = tr σ H fun vs H1 => sp vs H1 Q E := by
  unfold tCall
  simp only [List.append_nil]
theorem cb_ {f : List V → Hp → VK → Prop} : tCB f tr σ H Q = tr σ H fun vs H1 => f vs H1 Q := rfl
theorem for_ : tFor wi G t D σ H = wi σ H fun J H1 => ForR J G t D σ H1 := rfl
def RngR (vs : List V) (H : Hp) (R : It → Hp → Prop) : Prop := ∃ j : Int, vs = [.int j] ∧ -(2 ^ 62) ≤ j ∧ j < 2 ^ 62 ∧ R (Itr 0 j.toNat) H
theorem rng1_ {R : It → Hp → Prop} : iRng1 tr σ H R = tr σ H fun vs H1 => RngR vs H1 R := rfl
theorem RngR.go {j : Int} {R : It → Hp → Prop} (h1 : -(2 ^ 62) ≤ j) (h2 : j < 2 ^ 62) (q : R (Itr 0 j.toNat) H) : RngR [.int j] H R := ⟨j, rfl, h1, h2, q⟩
def LenR (K : PySem.W.Frag) : List V → Hp → VK → Prop := fun xs H Q => ∃ p ys, xs = [.ref p] ∧ (SqL K H p ys ∨ SqT K H p ys) ∧ Q (.int ys.length) H
theorem call_lenR {X : Cx} : CallR X (.builtin "len") (LenR X.K) := call_len_seq
theorem LenR.lst {K : PySem.W.Frag} {a : Addr} {ys : List V} (h : SqL K H a ys) (q : Q (.int ys.length) H) : LenR K [.ref a] H Q := ⟨a, ys, rfl, .inl h, q⟩
def MaxR : List V → Hp → VK → Prop := fun xs H Q => ∃ i j, xs = [.int i, .int j] ∧ Q (.int (if j > i then j else i)) H
def MinR : List V → Hp → VK → Prop := fun xs H Q => ∃ i j, xs = [.int i, .int j] ∧ Q (.int (if j < i then j else i)) H
theorem call_maxR {X : Cx} (hc : X.calm = true) : CallR X (.builtin "max") MaxR := call_max2 hc
theorem call_minR {X : Cx} (hc : X.calm = true) : CallR X (.builtin "min") MinR := call_min2 hc
theorem max_ {i j : Int} : MaxR [.int i, .int j] H Q = Q (.int (max i j)) H := by
  have e : (if j > i then j else i) = max i j := by split <;> omega
  apply propext
  constructor
  · intro h
    obtain ⟨a, b, e1, q⟩ := h
    cases e1
    rw [e] at q
    exact q
  · intro q
    refine ⟨i, j, rfl, ?_⟩
    rw [e]
    exact q
theorem min_ {i j : Int} : MinR [.int i, .int j] H Q = Q (.int (min i j)) H := by
  have e : (if j < i then j else i) = min i j := by split <;> omega
  apply propext
  constructor
  · intro h
    obtain ⟨a, b, e1, q⟩ := h
    cases e1
    rw [e] at q
    exact q
  · intro q
    refine ⟨i, j, rfl, ?_⟩
    rw [e]
    exact q
theorem ixT_go {K : PySem.W.Frag} {a : Addr} {xs : List V} {i : Nat} (h : SqT K H a xs) (e : xs[i]? = some v) (q : Q v H) : rIxT K (.ref a) (.int (i : Int)) H Q := ⟨a, xs, _, v, rfl, rfl, h, atI_nat e, q⟩
theorem ixL_go {K : PySem.W.Frag} {a : Addr} {xs : List V} {i : Nat} (h : SqL K H a xs) (e : xs[i]? = some v) (q : Q v H) : rIxL K (.ref a) (.int (i : Int)) H Q := ⟨a, xs, _, v, rfl, rfl, h, atI_nat e, q⟩
theorem bm0_ {K : PySem.W.Frag} {T : String} {f : V → List V → Hp → VK → Prop} : tBM0 K T f te σ H Q = te σ H fun x H1 => tyV K T x H1 ∧ f x [] H1 Q := rfl
theorem bm_ {K : PySem.W.Frag} {T : String} {f : V → List V → Hp → VK → Prop} : tBM K T f te tr σ H Q = te σ H fun x H1 => tyV K T x H1 ∧ tr σ H1 fun xs H2 => f x xs H2 Q := rfl
theorem tyInt_ {K : PySem.W.Frag} {i : Int} : tyV K "int" (.int i) H = True := propext ⟨fun _ => True.intro, fun _ => rfl⟩
theorem tyStr_ {K : PySem.W.Frag} {z : Str} : tyV K "str" (.str z) H = True := propext ⟨fun _ => True.intro, fun _ => rfl⟩
theorem bits_ {i : Int} : rBits (.int i) [] H Q = Q (.int (Builtin.Int.intBits i)) H := by
  apply propext
  constructor
  · intro h
    obtain ⟨a, e1, _, q⟩ := h
    cases e1
    exact q
  · exact fun q => ⟨i, rfl, rfl, q⟩
end
theorem isi_str {K : PySem.W.Frag} {H : Hp} {Q : VK} {z : Str} (q : Q (.bl true) H) : rIsi K [.str z, .ty "str"] H Q := ⟨_, _, _, _, rfl, .str z, kit_same K "str", q⟩
theorem cxK {CX : CXT} {P : Program} {w : World} {K : PySem.W.Frag} {mg : Str → Option Value} {base : Heap} {N : List Str} {qual : Str} {sc : Scope} {f : Addr} {cd : Value} {A : Around} {outer : List Env} {s : Shared} {H : Hp} {E : XK} :
    (cxOf CX P w K mg base N qual sc f cd A outer s H E).nox.K = K := rfl
theorem same_new {H : Hp} {p : Addr} (h : H p = none) (o : HO) : Same H (upd H p o) := fun b u q => by
  rw [upd_ne (ne_of_none q h)]
  exact q
end Sv
namespace Sv
open PySem L2
theorem eq_pair {a b c d : Int} : PyData.eqv (.tuple [.int a, .int b]) (.tuple [.int c, .int d]) = decide (a = c ∧ b = d) := by
  rw [Bool.eq_iff_iff]
  simp [PyData.eqv, PyData.eqvAll]
end Sv
namespace Sv
open PySem L2
theorem gtup2 {K : PySem.W.Frag} {a : Addr} {x y : V} {i j : Nat} {σ : L2.St} {H : Hp} {R : L2.St → Hp → Prop} (h : SqT K H a [x, y]) (q : R ((σ.set i (some x)).set j (some y)) H) :
    gTup K 2 (gCons (gName i) (gCons (gName j) gNil)) (.ref a) σ H R := ⟨a, _, rfl, h, rfl, _, _, rfl, _, _, rfl, rfl, q⟩
theorem app_go {l : Addr} {xs : List V} {y : V} {H : Hp} {Q : VK} (h : H l = some (.lst xs)) (z : xs.length ≤ 1000) (q : Q .non (upd H l (.lst (xs ++ [y])))) : rAppend (.ref l) [y] H Q :=
  ⟨l, xs, y, rfl, rfl, h, small1000 z, q⟩
theorem ty_lst {K : PySem.W.Frag} {l : Addr} {xs : List V} {H : Hp} (h : H l = some (.lst xs)) : tyV K "list" (.ref l) H := .inl ⟨rfl, xs, SqL.of h⟩
end Sv
namespace Sv
open PySem L2
def IlR (K : PySem.W.Frag) (x : V) (H : Hp) (R : It → Hp → Prop) : Prop := ∃ a, x = .ref a ∧ (∃ xs, SqL K H a xs) ∧ R (Itl K a) H
theorem ilist_ {K : PySem.W.Frag} {te : TE} {σ : L2.St} {H : Hp} {R : It → Hp → Prop} : iList K te σ H R = te σ H fun x H1 => IlR K x H1 R := rfl
theorem IlR.go {K : PySem.W.Frag} {a : Addr} {xs : List V} {H : Hp} {R : It → Hp → Prop} (h : SqL K H a xs) (q : R (Itl K a) H) : IlR K (.ref a) H R := ⟨a, rfl, ⟨xs, h⟩, q⟩
end Sv
namespace Sv
open PySem L2
theorem cxK2 {CX : CXT} {P : Program} {w : World} {K : PySem.W.Frag} {mg : Str → Option Value} {base : Heap} {N : List Str} {qual : Str} {sc : Scope} {f : Addr} {cd : Value} {A : Around} {outer : List Env} {s : Shared} {H : Hp} {E : XK} :
    (cxOf CX P w K mg base N qual sc f cd A outer s H E).K = K := rfl
end Sv
namespace Sv
open PySem PySem.Spec PyProof.Rows L2
theorem bo_len : bootBuiltins "len" = some (.builtin "len") := by decide +kernel
theorem bo_max : bootBuiltins "max" = some (.builtin "max") := by decide +kernel
theorem bo_min : bootBuiltins "min" = some (.builtin "min") := by decide +kernel
theorem bo_isinstance : bootBuiltins "isinstance" = some (.builtin "isinstance") := by decide +kernel
theorem bo_str : bootBuiltins "str" = some (.type "str") := by decide +kernel
theorem bo_tuple : bootBuiltins "tuple" = some (.type "tuple") := by decide +kernel
structure Fn (P : Program) (w : World) (K : PySem.W.Frag) (mg : Str → Option Value) (base : Heap) (x : Str) (k : Nat) (ps : List Str) (sp : Sp) : Prop where
  ex : ∃ (f : Addr) (fd : FuncData), FnOk P w K mg base CX0 k f fd ps sp ∧ mg x = some (.ref f) ∧ PySem.W.keepIn K (.ref f) = true ∧ Binds K fd ps []
section
variable {X : Cx} {x : Str} {k j : Nat} {ps : List Str} {sp : Sp} {e : Expr} {es : List Expr} {t : TA} {p pos : Pos}
theorem pe_fn (F : Fn X.prog X.w X.K X.mg X.base x k ps sp) (hr : Room j X.A) (hk : k ≤ j) (hg : Gl X x) (ha : PA X (e :: es) t) (hdb : (x == ("__debug__" : Str)) = false := by decide)
    (he : starEach (e :: es) X.env = (false, eval e X.env) :: starEach es X.env := by rfl) (hpl : (backTo pos (starEach es X.env)).any (·.1) = false := by rfl) : PE X (.Call (.Name x p) (e :: es) [] pos) (tCall sp [] E0 t) := by
  obtain ⟨f, fd, G, m, kp, b⟩ := F.ex
  exact pe_call G (hr.mono hk) hg m kp b .nil pass0 ha hdb he hpl
theorem pe_fn0 (F : Fn X.prog X.w X.K X.mg X.base x k ps sp) (hr : Room j X.A) (hk : k ≤ j) (hg : Gl X x) (hdb : (x == ("__debug__" : Str)) = false := by decide) : PE X (.Call (.Name x p) [] [] pos) (tCall sp [] E0 tNil) := by
  obtain ⟨f, fd, G, m, kp, b⟩ := F.ex
  exact pe_call0 G (hr.mono hk) hg m kp b .nil pass0 hdb
end
structure Def (K : PySem.W.Frag) (mg : Str → Option Value) (x : Str) (st : Stmt) : Prop where
  ex : ∃ (f : Addr) (fd : FuncData), Fun K x x st f fd ∧ mg x = some (.ref f)
theorem mk_def {K : PySem.W.Frag} {h : Heap} {mg : Str → Option Value} {x : Str} {st : Stmt} {f : Addr} {oc kV dc pm cd ct : Value} {od an : Option Addr} {sl : Array (Option Value)} (X : K.In h) (G : h.Ns mainGlobals mg)
    (a : PySem.W.nsIn K mainGlobals x = some (some (.ref f))) (l : K.lookup f = some ⟨oc, od, .func (PySem.W.fnOf x x (defArgs st) (defBody st) (defScope st) .none kV dc pm an cd ct), sl⟩)
    (c : PySem.W.codeIn K cd x = true) (k : PySem.W.keepIn K (.ref f) = true) : Def K mg x st := ⟨⟨f, _, fun_mk l c k, PySem.W.mg_of X G a⟩⟩
theorem Def.fn {P : Program} {w : World} {K : PySem.W.Frag} {mg : Str → Option Value} {base : Heap} {x : Str} {st : Stmt} {k : Nat} {ps : List Str} {sp : Sp} (D : Def K mg x st)
    (b : ∀ (kV doc pm : Value) (an : Option Addr) (cdv ct : Value) (us : List Value), us.length = ps.length → bindArgs (PySem.W.fnOf x x (defArgs st) (defBody st) (defScope st) .none kV doc pm an cdv ct) ⟨us, []⟩ = pure (ps.zip us))
    (ok : ∀ (f : Addr) (fd : FuncData), Fun K x x st f fd → FnOk P w K mg base CX0 k f fd ps sp) : Fn P w K mg base x k ps sp := by
  obtain ⟨f, fd, F, m⟩ := D.ex
  exact ⟨⟨f, fd, ok f fd F, m, F.kp, F.binds b⟩⟩
def cell (ns : List Int) (k : Int) : Int := ns.getD k.toNat 0
def spCell (K : PySem.W.Frag) : Sp := fun vs H Q _ => ∃ (a : Addr) (ns : List Int) (k : Int), vs = [.ref a, .int k] ∧ SqL K H a (ns.map V.int) ∧ 0 ≤ k ∧ Q (.int (cell ns k)) H
theorem spCell.go {K : PySem.W.Frag} {H : Hp} {Q : VK} {E : XK} {a : Addr} {ns : List Int} {k : Int} (h : SqL K H a (ns.map V.int)) (h0 : 0 ≤ k) (q : Q (.int (cell ns k)) H) : spCell K [.ref a, .int k] H Q E := ⟨a, ns, k, rfl, h, h0, q⟩
end Sv
namespace Sv
theorem us1 {α : Type} {us : List α} (h : us.length = 1) : ∃ a, us = [a] := by
  cases us with
  | nil => cases h
  | cons a us => cases us with
    | nil => exact ⟨a, rfl⟩
    | cons b us => cases h
theorem us2 {α : Type} {us : List α} (h : us.length = 2) : ∃ a b, us = [a, b] := by
  cases us with
  | nil => cases h
  | cons a us =>
    obtain ⟨b, rfl⟩ := us1 (Nat.succ.inj h)
    exact ⟨a, b, rfl⟩
theorem us3 {α : Type} {us : List α} (h : us.length = 3) : ∃ a b c, us = [a, b, c] := by
  cases us with
  | nil => cases h
  | cons a us =>
    obtain ⟨b, c, rfl⟩ := us2 (Nat.succ.inj h)
    exact ⟨a, b, c, rfl⟩
theorem us4 {α : Type} {us : List α} (h : us.length = 4) : ∃ a b c d, us = [a, b, c, d] := by
  cases us with
  | nil => cases h
  | cons a us =>
    obtain ⟨b, c, d, rfl⟩ := us3 (Nat.succ.inj h)
    exact ⟨a, b, c, d, rfl⟩
end Sv
namespace Sv
open PySem PySem.Spec PyProof.Rows L2
def VarQ (o : Option (Option V)) (H : Hp) (Q : VK) : Prop := match o with
  | some (some v) => Q v H
  | _ => False
theorem VarQ.ex {o : Option (Option V)} {H : Hp} {Q : VK} (h : VarQ o H Q) : ∃ v, o = some (some v) ∧ Q v H := by
  match o, h with
  | some (some v), h => exact ⟨v, rfl, h⟩
def jI0 (g : Int → Int → V) : R2 := fun x y H Q => match x, y with
  | .int i, .int j => Q (g i j) H
  | _, _ => False
def jI (C : Int → Int → Prop) (g : Int → Int → V) : R2 := fun x y H Q => match x, y with
  | .int i, .int j => C i j ∧ Q (g i j) H
  | _, _ => False
theorem jI0.ex {g : Int → Int → V} {x y : V} {H : Hp} {Q : VK} (h : jI0 g x y H Q) : rI0 g x y H Q := by
  match x, y, h with
  | .int i, .int j, h => exact ⟨i, j, rfl, rfl, h⟩
theorem jI.ex {C : Int → Int → Prop} {g : Int → Int → V} {x y : V} {H : Hp} {Q : VK} (h : jI C g x y H Q) : rI C g x y H Q := by
  match x, y, h with
  | .int i, .int j, h => exact ⟨i, j, rfl, rfl, h.1, h.2⟩
section
variable {X : Cx}
theorem OpR.j {f : Value → Value → Sem Value} {C : Int → Int → Prop} {g : Int → Int → V} (o : OpR X f (rI C g)) : OpR X f (jI C g) := fun pins s σ H x y v u Q I r1 r2 h => o pins s σ H x y v u Q I r1 r2 h.ex
variable {x : Str} {k j : Nat} {ps : List Str} {sp : Sp} {e : Expr} {es : List Expr} {t : TA} {p pos : Pos}
end
end Sv
namespace Sv
open PySem PySem.Spec PyProof.Rows L2
theorem forIn_foldl {α β : Type} {f : α → β → Sem (ForInStep β)} (g : β → α → β) : ∀ (l : List α) (c : β), (∀ x ∈ l, ∀ c, f x c = pure (.yield (g c x))) → forIn l c f = pure (l.foldl g c)
  | [], _, _ => rfl
  | x :: l, c, h => by
    rw [List.forIn_cons, h x List.mem_cons_self, pure_bind]
    exact forIn_foldl g l (g c x) fun y hy => h y (List.mem_cons_of_mem _ hy)
def clStep (env : Env) (b : List (Str × Addr)) (x : Str × NameKind) : List (Str × Addr) := if x.2 == .free then (x.1, (env.cells.lookup x.1).getD 0) :: b else b
def clOf (env : Env) (sc : Scope) : List (Str × Addr) := sc.names.foldl (clStep env) []
theorem closure_eq {env : Env} {sc : Scope} (hf : ∀ x ∈ sc.names, x.2 = .free → ∃ c, env.cells.lookup x.1 = some c) : closureFor sc env = pure (clOf env sc) := by
  simp only [closureFor]
  rw [forIn_foldl (clStep env) sc.names [] (fun x hx c => by
    obtain ⟨n, k⟩ := x
    cases hk : k == NameKind.free with
    | true =>
      obtain ⟨a, ha⟩ := hf (n, k) hx (by simpa using hk)
      have ha' : env.cells.lookup n = some a := ha
      simp only [clStep, hk, if_true, cellOf, ha', Option.getD_some, pure_bind]
    | false => simp only [clStep, hk, Bool.false_eq_true, if_false])]
  rfl
theorem cl_all {env : Env} : ∀ (names : List (Str × NameKind)) (acc : List (Str × Addr)), (∀ x ∈ names, x.2 = .free → ∃ c, env.cells.lookup x.1 = some c) → (∀ p ∈ acc, env.cells.lookup p.1 = some p.2) →
    ∀ p ∈ names.foldl (clStep env) acc, env.cells.lookup p.1 = some p.2
  | [], _, _, ha, p, hp => ha p hp
  | (n, k) :: r, acc, hf, ha, p, hp => by
    refine cl_all r (clStep env acc (n, k)) (fun x hx => hf x (List.mem_cons_of_mem _ hx)) (fun q hq => ?_) p hp
    unfold clStep at hq
    split at hq
    · rename_i hk
      rcases List.mem_cons.mp hq with e | hq
      · obtain ⟨c, hc⟩ := hf (n, k) List.mem_cons_self (by simpa using hk)
        have hc' : env.cells.lookup n = some c := hc
        rw [e]
        show env.cells.lookup n = some ((env.cells.lookup n).getD 0)
        rw [hc']
        rfl
      · exact ha q hq
    · exact ha q hq
theorem cl_sub {env : Env} : ∀ (names : List (Str × NameKind)) (acc : List (Str × Addr)) (p : Str × Addr), p ∈ acc → p ∈ names.foldl (clStep env) acc
  | [], _, _, h => h
  | (n, k) :: r, acc, p, h => by
    refine cl_sub r (clStep env acc (n, k)) p ?_
    unfold clStep
    split
    · exact List.mem_cons_of_mem _ h
    · exact h
theorem cl_mem {env : Env} : ∀ (names : List (Str × NameKind)) (acc : List (Str × Addr)) (x : Str), (x, NameKind.free) ∈ names → ∃ c, (x, c) ∈ names.foldl (clStep env) acc
  | [], _, _, h => nomatch h
  | (n, k) :: r, acc, x, h => by
    rcases List.mem_cons.mp h with e | h
    · have e1 : x = n := congrArg Prod.fst e
      have e2 : k = .free := (congrArg Prod.snd e).symm
      refine ⟨(env.cells.lookup n).getD 0, cl_sub r (clStep env acc (n, k)) _ ?_⟩
      simp [clStep, e1, e2]
    · exact cl_mem r (clStep env acc (n, k)) x h
theorem lookup_some {β : Type} : ∀ {l : List (Str × β)} {x : Str} {c : β}, (x, c) ∈ l → ∃ c', l.lookup x = some c'
  | [], _, _, h => nomatch h
  | (y, d) :: r, x, c, h => by
    rw [List.lookup_cons]
    cases e : x == y with
    | true => exact ⟨d, rfl⟩
    | false =>
      rcases List.mem_cons.mp h with q | q
      · cases q
        simp at e
      · exact lookup_some q
theorem relabel_back {env : Env} : ∀ {names : List (Str × NameKind)} {x : Str} {k' : NameKind},
    (names.map fun (n, k) => if (k == NameKind.free && env.scope.kind == .function && env.kindOf n == some .cell) then (n, NameKind.cell) else (n, k)).lookup x = some k' →
      names.lookup x = some k' ∨ (names.lookup x = some .free ∧ k' = .cell)
  | [], _, _, h => by simp at h
  | (n, k) :: r, x, k', h => by
    have ih := @relabel_back env r x k'
    rw [List.map_cons] at h
    dsimp only at h
    by_cases hc : (k == NameKind.free && env.scope.kind == .function && env.kindOf n == some .cell) = true
    · rw [if_pos hc] at h
      have hk : k = .free := by
        rw [Bool.and_eq_true, Bool.and_eq_true] at hc
        simpa using hc.1.1
      cases e : x == n with
      | true =>
        simp only [List.lookup_cons, e] at h ⊢
        rw [hk]
        exact .inr ⟨rfl, (Option.some.inj h).symm⟩
      | false =>
        simp only [List.lookup_cons, e] at h ⊢
        exact ih h
    · rw [if_neg hc] at h
      cases e : x == n with
      | true =>
        simp only [List.lookup_cons, e] at h ⊢
        exact .inl h
      | false =>
        simp only [List.lookup_cons, e] at h ⊢
        exact ih h
theorem relabel_free {env : Env} : ∀ {names : List (Str × NameKind)} {x : Str}, names.lookup x = some .free →
    (names.map fun (n, k) => if (k == NameKind.free && env.scope.kind == .function && env.kindOf n == some .cell) then (n, NameKind.cell) else (n, k)).lookup x = some .cell ∨
    (names.map fun (n, k) => if (k == NameKind.free && env.scope.kind == .function && env.kindOf n == some .cell) then (n, NameKind.cell) else (n, k)).lookup x = some .free
  | [], _, h => by simp at h
  | (n, k) :: r, x, h => by
    have ih := @relabel_free env r x
    rw [List.map_cons]
    dsimp only
    by_cases hc : (k == NameKind.free && env.scope.kind == .function && env.kindOf n == some .cell) = true
    · rw [if_pos hc]
      cases e : x == n with
      | true =>
        simp only [List.lookup_cons, e]
        exact .inl trivial
      | false =>
        simp only [List.lookup_cons, e] at h ⊢
        exact ih h
    · rw [if_neg hc]
      cases e : x == n with
      | true =>
        simp only [List.lookup_cons, e] at h ⊢
        exact .inr h
      | false =>
        simp only [List.lookup_cons, e] at h ⊢
        exact ih h
def cxC (X : Cx) (sc : Scope) (T : List Str) (cap : List Nat) (fp : List Addr) (s : Shared) (H : Hp) : Cx where
  prog := X.prog
  w := X.w
  K := X.K
  mg := X.mg
  base := X.base
  A := X.A
  N := T ++ cap.map fun i => X.N.getD i Str.empty
  s₀ := s
  H₀ := H
  env := compEnvC sc (clOf X.env sc) s.heap.objs.size X.env
  outer := X.stack
  stack := X.stack
  ex := fp
  fn := fun _ => false
  calm := X.calm
  pn := []
  xe := fun _ _ => False
structure COk (X : Cx) (sc : Scope) (cap : List Nat) : Prop where
  kind : sc.kind = .function
  nocell : ∀ y ∈ sc.names, y.2 ≠ .cell
  loc : ∀ y ∈ sc.names, y.2 = .local → sc.names.lookup y.1 = some .local
  free : ∀ y ∈ sc.names, y.2 = .free → X.env.kindOf y.1 = some .cell ∨ X.env.kindOf y.1 = some .free
  cap : ∀ i ∈ cap, ∃ x, X.N[i]? = some x ∧ sc.names.lookup x = some .free
def cChk (sc out : Scope) (N : List Str) (cap : List Nat) : Bool :=
  sc.kind == .function && (sc.names.all fun y => y.2 != .cell && (y.2 != .local || sc.names.lookup y.1 == some .local) && (y.2 != .free || (out.names.lookup y.1 == some .cell || out.names.lookup y.1 == some .free))) &&
    cap.all fun i => match N[i]? with | some x => sc.names.lookup x == some .free | none => false
theorem COk.of {X : Cx} {sc out : Scope} {N : List Str} {cap : List Nat} (ho : X.env.scope = out) (hN : X.N = N) (h : cChk sc out N cap = true) : COk X sc cap := by
  unfold cChk at h
  rw [Bool.and_eq_true, Bool.and_eq_true, List.all_eq_true, List.all_eq_true] at h
  obtain ⟨⟨h1, h2⟩, h3⟩ := h
  have h2' : ∀ y ∈ sc.names, y.2 ≠ .cell ∧ (y.2 = .local → sc.names.lookup y.1 = some .local) ∧ (y.2 = .free → out.names.lookup y.1 = some .cell ∨ out.names.lookup y.1 = some .free) := fun y hy => by
    have q := h2 y hy
    rw [Bool.and_eq_true, Bool.and_eq_true] at q
    obtain ⟨⟨q1, q2⟩, q3⟩ := q
    refine ⟨by simpa using q1, fun e => ?_, fun e => ?_⟩
    · rw [e] at q2
      simpa using q2
    · rw [e] at q3
      simpa using q3
  refine ⟨by simpa using h1, fun y hy => (h2' y hy).1, fun y hy => (h2' y hy).2.1, fun y hy e => ?_, fun i hi => ?_⟩
  · have q := (h2' y hy).2.2 e
    rw [← ho] at q
    exact q
  · have q := h3 i hi
    rw [hN]
    cases e : N[i]? with
    | none =>
      rw [e] at q
      cases q
    | some x =>
      rw [e] at q
      exact ⟨x, rfl, by simpa using q⟩
section
variable {X : Cx} {sc : Scope} {T : List Str} {cap : List Nat} {fp : List Addr} {pins : List (Addr × Obj)} {σ : L2.St} {H : Hp} {s : Shared} {h₁ : Heap} {t' : Nat} {m : Str → Option Value}
theorem COk.cells (O : COk X sc cap) (ok : X.Ok) : ∀ x ∈ sc.names, x.2 = .free → ∃ c, X.env.cells.lookup x.1 = some c := fun x hx e => ok.has x.1 (O.free x hx e)
theorem COk.cl (O : COk X sc cap) (ok : X.Ok) {x : Str} {c : Addr} (h : (clOf X.env sc).lookup x = some c) : X.env.cells.lookup x = some c :=
  cl_all sc.names [] (O.cells ok) (fun p hp => nomatch hp) (x, c) (PySem.mem_of_lookup h)
theorem COk.has (O : COk X sc cap) {x : Str} (h : sc.names.lookup x = some .free) : ∃ c, (clOf X.env sc).lookup x = some c := by
  obtain ⟨c, hc⟩ := cl_mem (env := X.env) sc.names [] x (PySem.mem_of_lookup h)
  exact lookup_some hc
theorem inv_comp (O : COk X sc cap) (I : Inv X pins σ H s) (hf : ∀ b ∈ fp, FpOk X pins H b) (hfo : ∀ b ∈ fp, ∃ o, s.heap.get? b = some o) (hn : h₁.Ns s.heap.objs.size m) (keep : ∀ b o, s.heap.get? b = some o → h₁.get? b = some o) :
    Inv (cxC X sc T cap fp s H) [] (List.replicate T.length none ++ cap.map fun i => σ.getD i none) H { s with heap := h₁, toks := t' } := by
  have cle : ∀ x c, (clOf X.env sc).lookup x = some c → X.env.cells.lookup x = some c := fun x c h => O.cl I.ok h
  have fr : ∀ x, (cxC X sc T cap fp s H).env.kindOf x = some .cell ∨ (cxC X sc T cap fp s H).env.kindOf x = some .free → sc.names.lookup x = some .free := fun x h => by
    rcases h with h | h
    · rcases relabel_back (env := X.env) (names := sc.names) (x := x) h with q | q
      · exact absurd rfl (O.nocell _ (PySem.mem_of_lookup q))
      · exact q.1
    · rcases relabel_back (env := X.env) (names := sc.names) (x := x) h with q | q
      · exact q
      · exact q.1
  refine ⟨⟨I.ok.mod, O.kind, I.ok.glob, I.ok.blt, Nat.le_refl _, fun x y c h1 h2 => I.ok.inj x y c (cle x c h1) (cle y c h2), fun x h => O.has (fr x h), fun x c h => absurd h Bool.false_ne_true, I.ok.hd, I.ok.frames, .inl rfl,
    fun b hb => ?_, I.bs, Nat.le_trans I.ok.bsz I.sz, fun b o e hb => ?_, fun b hb h => ?_, I.stack, I.stkFree⟩, rfl, I.bare, Un.kept keep, ⟨m, hn, fun i x v e1 e2 e3 => ?_⟩, fun x c e => ?_, I.hok.fresh (Nat.le_refl _), fun x c e => I.freeC x c (cle x c e),
    fun p hp => absurd hp (by simp [cxC]), I.hok.kept keep, ?_⟩
  · obtain ⟨o, ho⟩ := hfo b hb
    exact ⟨Nat.ne_of_lt (Heap.lt_size ho), fun x c e => (hf b hb).2.2.2.2.1 x c (cle x c e)⟩
  · rcases (hf b hb).2.2.2.1 with z | z
    · exact I.ok.noex b o e z
    · exact absurd (Nat.lt_of_lt_of_le (Heap.lt_size e) (Nat.le_trans I.ok.bsz z)) (Nat.lt_irrefl _)
  · rcases List.mem_cons.mp (I.stkSub b h) with z | z
    · exact (hf b hb).2.1 z
    · exact (hf b hb).2.2.1 z
  · have e1' : (T ++ cap.map fun i => X.N.getD i Str.empty)[i]? = some x := e1
    by_cases hi : i < T.length
    · rw [List.getElem?_append_left (by simpa using hi), List.getElem?_replicate] at e2
      split at e2 <;> cases e2
    · rw [List.getElem?_append_right (by simpa using hi), List.length_replicate, List.getElem?_map] at e2
      rw [List.getElem?_append_right (by simpa using hi), List.getElem?_map] at e1'
      cases q : cap[i - T.length]? with
      | none => rw [q] at e2; cases e2
      | some j =>
        rw [q] at e1' e2
        obtain ⟨x', hx', hfr⟩ := O.cap j (List.mem_of_getElem? q)
        have ex : x' = x := by
          have z : X.N.getD j Str.empty = x := Option.some.inj e1'
          rw [List.getD_eq_getElem?_getD, hx'] at z
          exact z
        subst ex
        have ev : σ[j]? = some (some v) := by
          have z : σ.getD j none = some v := Option.some.inj e2
          rw [List.getD_eq_getElem?_getD] at z
          cases q2 : σ[j]? with
          | none => rw [q2] at z; cases z
          | some y => rw [q2] at z; exact congrArg some z
        have vis := O.free (x', .free) (PySem.mem_of_lookup hfr) rfl
        obtain ⟨m0, hn0, hl0⟩ := I.loc
        obtain ⟨u, r, l⟩ := hl0 j x' v hx' ev (.inr vis)
        refine ⟨u, r, .inr ⟨relabel_free (env := X.env) hfr, ?_⟩⟩
        obtain ⟨c', hc'⟩ := O.has hfr
        rcases l with ⟨kk, _⟩ | ⟨_, c, ec, z⟩
        · rcases vis with z | z
          · rw [show X.env.kindOf x' = some .local from kk] at z; cases z
          · rw [show X.env.kindOf x' = some .local from kk] at z; cases z
        · have e := cle x' c' hc'
          rw [ec] at e
          cases e
          obtain ⟨o, ho, hd⟩ := z
          exact ⟨_, hc', o, keep _ o ho, hd⟩
  · obtain ⟨v, o, ho, hd⟩ := I.cell x c (cle x c e)
    exact ⟨v, o, keep c o ho, hd⟩
  · show _ = (T ++ cap.map fun i => X.N.getD i Str.empty).length
    simp
end
section
variable {prog : Program} {w : World} {A : Around} {R : Result → Shared → Prop} {s : Shared}
theorem compLoop_any {elt target iter : Expr} {ifs : List Expr} {scope : Scope} {pos : Pos} {it acc : Value} {env : Env} (I : Nat → Shared → Prop)
    (turn : ∀ n s, I n s → wpAny (model prog w) A (pyNext it) (fun r s₁ => match r with
      | none => R (.ok .next) s₁
      | some v => wpAny (model prog w) A (letOwnedTupleGo target it v) (fun _ s₀ => wpAny (model prog w) A (assign target env v) (fun _ s₂ =>
          wpAny (model prog w) A (forIn ifs true fun c r => if r = true then do let ok ← isTrue c env (eval c env); pure (ForInStep.yield ok) else pure (ForInStep.yield r)) (fun ok s₃ =>
            if ok = true then wpAny (model prog w) A (eval elt env) (fun x s₄ => wpAny (model prog w) A (call (.builtin "list.append") [acc, x]) (fun _ s₅ => ∃ m, m < n ∧ I m s₅) (fun _ _ => False) s₄) (fun _ _ => False) s₃
            else ∃ m, m < n ∧ I m s₃) (fun _ _ => False) s₂) (fun _ _ => False) s₀) (fun _ _ => False) s₁) (fun _ _ => False) s)
    (n : Nat) (h : I n s) : codeAny (model prog w) A (.compLoop (.ListComp elt [⟨target, iter, ifs, 0⟩] scope pos) 0 it acc env) R s := by
  refine codeAny_loop rfl I (fun n s hI => ?_) n h
  show wpAny _ A ((compTurn (.ListComp elt [⟨target, iter, ifs, 0⟩] scope pos) 0 it acc env).onRaise (fun x => do noteFrame x env; theTreesLotGoes x)) _ _ s
  refine wpAny_noted ?_
  rw [compTurn_list]
  have nf : ∀ {E : Value → Shared → Prop} (x : Value) (s : Shared), (fun _ _ => False : Value → Shared → Prop) x s → E x s := fun _ _ z => z.elim
  refine wpAny_bind (wpAny_standAt (wpAny_bind (wpAny_mono (turn n s hI) (fun r s₁ h₁ => ?_) nf)))
  cases r with
  | none => exact wpAny_pure h₁
  | some v =>
    refine wpAny_bind (wpAny_mono h₁ (fun _ s₀ h₀ => wpAny_bind (wpAny_mono h₀ (fun _ s₂ h₂ => wpAny_bind (wpAny_mono h₂ (fun ok s₃ h₃ => ?_) nf)) nf)) nf)
    cases ok with
    | false => exact wpAny_pure ⟨rfl, h₃⟩
    | true => exact wpAny_bind (wpAny_bind (wpAny_mono h₃ (fun x s₄ h₄ => wpAny_bind (wpAny_mono h₄ (fun _ s₅ h₅ => wpAny_pure (wpAny_pure ⟨rfl, h₅⟩)) nf)) nf))
end
def PIfs (X : Cx) (ifs : List Expr) (tc : TT) : Prop := ∀ (pins : List (Addr × Obj)) (s : Shared) (σ : L2.St) (H : Hp) (Q : Bool → Hp → Prop), Inv X pins σ H s → tc σ H Q →
  wpAny (model X.prog X.w) X.A (forIn ifs true fun c r => if r = true then do let ok ← isTrue c X.env (eval c X.env); pure (ForInStep.yield ok) else pure (ForInStep.yield r)) (TP X pins σ Q) X.xe s
def tYes : TT := fun _ H Q => Q true H
theorem pifs_nil {X : Cx} : PIfs X [] tYes := fun _ _ _ H _ I h => wpAny_tests_nil ⟨H, I, h⟩
def CompR (D : Addr) (J : It) (g : TG) (tc : TT) (te : TE) (σ : L2.St) (H : Hp) (Q : VK) : Prop :=
  ∃ W : Nat → Nat → L2.St → Hp → Prop, (∃ m, W 0 m σ H) ∧ ∀ i m σ H, W i m σ H →
    (J.stop i H ∧ Q (.ref D) H) ∨ (J.go i H ∧ ∃ N : L2.St → Hp → Prop, (∀ σ' H', N σ' H' → ∃ m', m' < m ∧ W (i + 1) m' σ' H') ∧
      ∀ x H', J.yld i H x H' → g x σ H' fun σ2 H2 => tc σ2 H2 fun b H3 => if b = true then te σ2 H3 fun y H4 => ∃ ys, H4 D = some (.lst ys) ∧ ys.length < sizeLine ∧ N σ2 (upd H4 D (.lst (ys ++ [y]))) else N σ2 H3)
def CmpR (nT : Nat) (cap : List Nat) (g : TG) (tc : TT) (te : TE) (J : It) (σ : L2.St) (H : Hp) (Q : VK) : Prop :=
  ∀ D, H D = none → CompR D J g tc te (List.replicate nT none ++ cap.map fun i => σ.getD i none) (upd H D (.lst [])) Q
def tComp (wi : TI) (nT : Nat) (cap : List Nat) (g : TG) (tc : TT) (te : TE) : TE := fun σ H Q => wi σ H fun J H1 => CmpR nT cap g tc te J σ H1 Q
section
variable {X : Cx} {sc : Scope} {T : List Str} {cap : List Nat} {tg elt iter : Expr} {ifs : List Expr} {pos : Pos} {g : TG} {tc : TT} {te : TE} {wi : TI}
theorem comp_core {pins : List (Addr × Obj)} {s₂ : Shared} {σ : L2.St} {H2 : Hp} {it : Addr} {fp : List Addr} {tn : Nat → Heap → Prop} {J : It} {Q : VK} {RR : Value → Addr → Result → Shared → Prop} {E : Value → Shared → Prop}
    (hc : X.calm = true) (O : COk X sc cap) (hg : ∀ fp s H, PG (cxC X sc T cap fp s H) tg g) (hifs : ∀ fp s H, PIfs (cxC X sc T cap fp s H) ifs tc) (helt : ∀ fp s H, PE (cxC X sc T cap fp s H) elt te)
    (I2 : Inv X pins σ H2 s₂) (Tn : Turn X.prog X.w X.K tg J fp it tn) (st2 : tn 0 s₂.heap) (f2 : ∀ b ∈ fp, FpOk X pins H2 b) (h : CmpR T.length cap g tc te J σ H2 Q)
    (hRR : ∀ D C s' H', Inv X pins σ H' s' → FpOk X pins H' C → (∃ m, s'.heap.Ns C m) → Q (.ref D) H' → RR (.ref D) C (.ok .next) s') :
    wpAny (model X.prog X.w) X.A (newList []) (fun acc s₃ => wpAny (model X.prog X.w) X.A (newFunctionEnv sc X.env.globals (clOf X.env sc) [] X.env.qual none .none (some X.env)) (fun cenv s₄ =>
      codeAny (model X.prog X.w) X.A (.compStart (.ListComp elt [⟨tg, iter, ifs, 0⟩] sc pos) 0 (.ref it) acc { cenv with scope := relabel sc X.env }) (RR acc cenv.locals) s₄) E s₃) E s₂ := by
  have I3 := I2.lnew (its := []) (ys := []) (t' := s₂.toks) .nil (Nat.zero_le _)
  have hD : H2 s₂.heap.objs.size = none := I2.fresh
  obtain ⟨W, ⟨m0, w0⟩, turn⟩ := h _ hD
  refine wpAny_newObj_type (wpAny_newFunctionEnv O.nocell (by intro y hy; simp at hy) (fun h₁ hns₁ hsb₁ => ?_) O.kind)
  dsimp only at hns₁ hsb₁ ⊢
  generalize hs3 : ({ s₂ with heap := s₂.heap.push { cls := .type "list", data := .seq ([] : List Value).toArray }, toks := s₂.toks } : Shared) = s3 at I3
  have eh : s₂.heap.push { cls := .type "list", dict := none, data := .seq ([] : List Value).toArray } = s3.heap := by rw [← hs3]
  have e3 : s3.os = s₂.os := by rw [← hs3]
  have keep2 : ∀ b o, s₂.heap.get? b = some o → s3.heap.get? b = some o := fun b o e => by rw [← eh]; exact Heap.get?_push_of_some _ e
  have keep : ∀ b o, s3.heap.get? b = some o → h₁.get? b = some o := fun b o e => by
    rw [eh] at hsb₁
    rw [hsb₁.2 b (Nat.ne_of_lt (Heap.lt_size e))]
    exact Heap.get?_push_of_some _ e
  have f3 : ∀ b ∈ fp, FpOk X pins (upd H2 s₂.heap.objs.size (.lst [])) b := fun b hb => by
    refine ⟨?_, (f2 b hb).2⟩
    obtain ⟨o, ho, _⟩ := Tn.obj 0 _ st2 b hb
    rw [upd_ne (Nat.ne_of_lt (Heap.lt_size ho))]
    exact (f2 b hb).1
  have fo3 : ∀ b ∈ fp, ∃ o, s3.heap.get? b = some o := fun b hb => by
    obtain ⟨o, ho, _⟩ := Tn.obj 0 _ st2 b hb
    exact ⟨o, keep2 b o ho⟩
  have hns : h₁.Ns s3.heap.objs.size (fun x => ([] : List (Str × Value)).reverse.lookup x) := by rw [← eh]; exact hns₁
  have I4 := fun t' => inv_comp (T := T) (fp := fp) (t' := t') O I3 f3 fo3 hns keep
  have st4 : tn 0 h₁ := Tn.keep 0 _ _ st2 fun b _ o e => keep b o (keep2 b o e)
  generalize hX : cxC X sc T cap fp s3 (upd H2 s₂.heap.objs.size (.lst [])) = X' at I4
  have ex : X'.ex = fp := by rw [← hX]; rfl
  have stat : ∀ {H' : Hp}, (∀ b ∈ fp, H' b = none) → ∀ b ∈ fp, FpOk X' [] H' b := fun hn b hb => by
    have ok := (I4 0).ok
    have q := ok.exf b (by rw [ex]; exact hb)
    refine ⟨hn b hb, q.1, ok.exfs b (by rw [ex]; exact hb), .inl (by rw [ex]; exact hb), q.2, fun p hp => ?_⟩
    subst hX
    exact absurd hp (by simp [cxC])
  have nf : ∀ {E : Value → Shared → Prop} (x : Value) (s : Shared), X'.xe x s → E x s := fun x s z => by
    subst hX
    exact False.elim z
  have loop : ∀ s4 : Shared, (∃ t', s4 = { s3 with heap := h₁, toks := t' }) → codeAny (model X.prog X.w) X.A (.compLoop (.ListComp elt [⟨tg, iter, ifs, 0⟩] sc pos) 0 (.ref it) (.ref s₂.heap.objs.size) (compEnvC sc (clOf X.env sc) s3.heap.objs.size X.env))
      (RR (.ref s₂.heap.objs.size) s3.heap.objs.size) s4 := by
    rintro s4 ⟨t', rfl⟩
    refine compLoop_any (fun n s' => ∃ i σ' H', Inv X' [] σ' H' s' ∧ tn i s'.heap ∧ (∀ b ∈ fp, H' b = none) ∧ W i n σ' H') ?_ m0 ⟨0, _, _, I4 t', st4, fun b hb => (f3 b hb).1, w0⟩
    rintro n s5 ⟨i, σ5, H5, I5, st5, fr5, w5⟩
    rcases turn i n σ5 H5 w5 with ⟨stop, qn⟩ | ⟨go, N, hN, step⟩
    · have ep : X'.prog = X.prog := by rw [← hX]; rfl
      have ew : X'.w = X.w := by rw [← hX]; rfl
      have eK : X'.K = X.K := by rw [← hX]; rfl
      have ec : X'.calm = true := by rw [← hX]; exact hc
      have eA : X'.A = X.A := by rw [← hX]; rfl
      have d := Tn.done X' ep ew eK ec i [] s5 σ5 H5 (fun _ _ => False) I5 (stat fr5) st5 stop
      rw [eA] at d
      refine thn d fun r s6 ⟨hr, I6⟩ => ?_
      subst hr
      have un := (Un.laid (fs := frs X.stack) (ex := fp) (o := .lst []) keep2 (Nat.le_refl _) hD).trans (by
        have b := I6.base
        subst hX
        exact b : Un (frs X.stack) fp (upd H2 s₂.heap.objs.size (.lst [])) H5 s3.heap s6.heap)
      have os6 : s6.os = s₂.os := by
        have q := I6.os
        subst hX
        exact q.trans e3
      have hok : HOk X.prog X.w H5 s6.heap := by
        have q := I6.hok
        rw [ep, ew] at q
        exact q
      have J1 : Inv X pins σ H5 s6 := I2.call' os6 un hok I6.bare fun b hb => ⟨(f2 b hb).2.2.2.1, (f2 b hb).2.1, (f2 b hb).2.2.2.2.1, (f2 b hb).2.2.2.2.2⟩
      have eL : X'.env.locals = s3.heap.objs.size := by rw [← hX]; rfl
      have sz : s₂.heap.objs.size ≤ s3.heap.objs.size := by rw [← eh, Heap.size_push]; exact Nat.le_succ _
      refine hRR _ _ s6 H5 J1 (I2.fpOk sz ?_) ?_ qn
      · rw [← eL]; exact I6.free
      · obtain ⟨m6, hm6, _⟩ := I6.loc
        rw [eL] at hm6
        exact ⟨m6, hm6⟩
    · have ep : X'.prog = X.prog := by rw [← hX]; rfl
      have ew : X'.w = X.w := by rw [← hX]; rfl
      have eK : X'.K = X.K := by rw [← hX]; rfl
      have ec : X'.calm = true := by rw [← hX]; exact hc
      have d := Tn.item X' ep ew eK ec i [] s5 σ5 H5 (fun _ _ => False) I5 (stat fr5) st5 go
      subst hX
      refine thn d fun r s6 ⟨u, hr, h6⟩ => ?_
      subst hr
      refine thn h6 fun _ s7 ⟨x, H7, I7, r7, y7, st7, fr7⟩ => ?_
      have I7' := I7.pinned (stat fr7) (Tn.obj _ _ st7)
      refine wpAny_mono (hg _ _ _ _ s7 σ5 H7 x u _ I7' r7 (step x H7 y7)) (fun _ s8 ⟨σ8, H8, I8, q8⟩ => ?_) nf
      refine wpAny_mono (hifs _ _ _ _ s8 σ8 H8 _ I8 q8) (fun b s9 ⟨H9, I9, q9⟩ => ?_) nf
      have again : ∀ {s' : Shared} {σ' : L2.St} {H' : Hp}, Inv (cxC X sc T cap fp s3 (upd H2 s₂.heap.objs.size (.lst []))) ([] ++ pinsAt fp s7.heap) σ' H' s' → N σ' H' →
          ∃ m, m < n ∧ ∃ i σ' H', Inv (cxC X sc T cap fp s3 (upd H2 s₂.heap.objs.size (.lst []))) [] σ' H' s' ∧ tn i s'.heap ∧ (∀ b ∈ fp, H' b = none) ∧ W i m σ' H' := fun {s' σ' H'} Ia na => by
        obtain ⟨m', hm, w'⟩ := hN σ' H' na
        refine ⟨m', hm, i + 1, σ', H', Ia.unpinned, Tn.keep _ _ _ st7 fun b hb o e => (Ia.pin (b, o) (List.mem_append_right _ (List.mem_append_right _ (mem_pinsAt hb e)))).1, fun b hb => ?_, w'⟩
        obtain ⟨o, e, _⟩ := Tn.obj _ _ st7 b hb
        exact (Ia.pin (b, o) (List.mem_append_right _ (List.mem_append_right _ (mem_pinsAt hb e)))).2.1
      cases b with
      | false =>
        rw [if_neg Bool.false_ne_true] at q9 ⊢
        exact again I9 q9
      | true =>
        rw [if_pos rfl] at q9 ⊢
        refine wpAny_mono (helt _ _ _ _ s9 σ8 H9 _ I9 q9) (fun y s10 ⟨yv, H10, I10, ry, ys, hl, hz, n10⟩ => ?_) nf
        refine wpAny_mono (mt_append (X := cxC X sc T cap fp s3 (upd H2 s₂.heap.objs.size (.lst []))) _ s10 σ8 H10 (.ref s₂.heap.objs.size) [yv] (.ref s₂.heap.objs.size) [y] (fun _ H' => N σ8 H') I10 rfl (.cons ry .nil) ⟨_, ys, yv, rfl, rfl, hl, hz, n10⟩)
          (fun _ s11 ⟨_, H11, I11, _, n11⟩ => again I11 n11) nf
  subst hs3
  exact codeAny_compStart_list (loop _ ⟨_, rfl⟩) (Tn.self X.A 0 _ _ _ st4 (loop _ ⟨_, rfl⟩))
theorem pe_comp (hc : X.calm = true) (O : COk X sc cap) (hi : PI X tg iter wi) (hg : ∀ fp s H, PG (cxC X sc T cap fp s H) tg g) (hifs : ∀ fp s H, PIfs (cxC X sc T cap fp s H) ifs tc) (helt : ∀ fp s H, PE (cxC X sc T cap fp s H) elt te)
    (hs : ∀ x, foldedSetIterable iter X.env x = pure x := by intro _; rfl) : PE X (.ListComp elt [⟨tg, iter, ifs, 0⟩] sc pos) (tComp wi T.length cap g tc te) := by
  intro pins s σ H Q I h
  rw [eval_ListComp]
  refine wpAny_comprehension_free (use := none) rfl hs (closure_eq (O.cells I.ok)) O.kind O.loc (wpAny_mono (hi pins s σ H _ I h) (fun v s1 h1 => wpAny_mono h1 (fun itv s2 h2 => ?_) fun _ _ e => e) fun _ _ e => e)
  obtain ⟨it, fp, tn, J, H2, e, I2, Tn, st2, f2, R⟩ := h2
  subst e
  refine comp_core (RR := fun acc C => compPost (model X.prog X.w) X.A X.xe none (EP X pins σ Q) acc C) hc O hg hifs helt I2 Tn st2 f2 R fun D C s' H' I' f' hm q => ?_
  obtain ⟨m, hm⟩ := hm
  refine ⟨m, hm, fun h' hs' => ⟨.ref D, H', ?_, rfl, q⟩⟩
  exact I'.turned (t' := s'.toks) (fun b o hb e => (hs'.2 b hb).trans e) f'.1 f'.2.1 f'.2.2.2.1 f'.2.2.2.2.1 f'.2.2.2.2.2
end
structure ItOf (J : It) (xs : List V) (Ok : Hp → Prop) : Prop where
  go : ∀ i H, Ok H → i < xs.length → J.go i H
  yld : ∀ i H x H', Ok H → i < xs.length → J.yld i H x H' → H' = H ∧ xs[i]? = some x
  stop : ∀ i H, Ok H → xs.length ≤ i → J.stop i H
theorem itl {K : PySem.W.Frag} {a : Addr} {xs : List V} : ItOf (Itl K a) xs (fun H => SqL K H a xs) :=
  ⟨fun i _ h l => ⟨xs, xs[i], h, List.getElem?_eq_getElem l⟩, fun _ _ _ _ h _ y => ⟨y.1, y.2 xs h⟩, fun _ _ h l => ⟨xs, h, l⟩⟩
theorem itt {K : PySem.W.Frag} {a : Addr} {xs : List V} : ItOf (Itt K a) xs (fun H => SqT K H a xs) :=
  ⟨fun i _ h l => ⟨xs, xs[i], h, List.getElem?_eq_getElem l⟩, fun _ _ _ _ h _ y => ⟨y.1, y.2 xs h⟩, fun _ _ h l => ⟨xs, h, l⟩⟩
theorem CmpR.map {cap : List Nat} {te : TE} {J : It} {σ : L2.St} {H : Hp} {Q : VK} {xs : List V} {Ok : Hp → Prop} (f : V → V) (it : ItOf J xs Ok) (hz : xs.length ≤ 1000) (ok : ∀ D ys, H D = none → Ok (upd H D (.lst ys)))
    (hs : ∀ D x ys (Q' : VK), H D = none → x ∈ xs → Q' (f x) (upd H D (.lst ys)) → te (some x :: cap.map fun i => σ.getD i none) (upd H D (.lst ys)) Q')
    (hd : ∀ D, H D = none → Q (.ref D) (upd H D (.lst (xs.map f)))) : CmpR 1 cap (gName 0) tYes te J σ H Q := by
  intro D hD
  refine ⟨fun i m σ' H' => m = xs.length - i ∧ i ≤ xs.length ∧ ∃ t, σ' = t :: (cap.map fun i => σ.getD i none) ∧ H' = upd H D (.lst ((xs.take i).map f)), ⟨_, rfl, Nat.zero_le _, none, rfl, rfl⟩, fun i m σ' H' hw => ?_⟩
  obtain ⟨rfl, hi, t, rfl, rfl⟩ := hw
  by_cases lt : i < xs.length
  · refine .inr ⟨it.go i _ (ok D _ hD) lt, fun σ2 H2 => ∃ t, σ2 = t :: (cap.map fun i => σ.getD i none) ∧ H2 = upd H D (.lst ((xs.take (i + 1)).map f)), fun σ2 H2 n2 => ⟨_, ?_, rfl, lt, n2⟩, fun x H2 y => ?_⟩
    · omega
    · obtain ⟨rfl, hx⟩ := it.yld i _ x H2 (ok D _ hD) lt y
      show te (some x :: (cap.map fun i => σ.getD i none)) _ _
      refine hs D x _ _ hD (List.mem_of_getElem? hx) ⟨_, upd_same, ?_, _, rfl, ?_⟩
      · rw [List.length_map, List.length_take]
        exact small1000 (by omega)
      · rw [upd_upd, List.take_add_one, hx, List.map_append]
        rfl
  · obtain rfl : i = xs.length := by omega
    refine .inl ⟨it.stop _ _ (ok D _ hD) (Nat.le_refl _), ?_⟩
    rw [List.take_length]
    exact hd D hD
theorem CmpR.mapS {cap : List Nat} {te : TE} {J : It} {σ : L2.St} {H : Hp} {Q : VK} {xs : List V} {Ok : Hp → Prop} (f : V → V) (it : ItOf J xs Ok) (hz : xs.length ≤ 1000) (ok : ∀ H', Same H H' → Ok H')
    (hs : ∀ x H' (Q' : VK), x ∈ xs → Same H H' → (∀ H2, Same H' H2 → Q' (f x) H2) → te (some x :: cap.map fun i => σ.getD i none) H' Q')
    (hd : ∀ D H', H D = none → Same H H' → H' D = some (.lst (xs.map f)) → Q (.ref D) H') : CmpR 1 cap (gName 0) tYes te J σ H Q := by
  intro D hD
  have keep : ∀ {H' : Hp} {o : HO}, Same H H' → Same H (upd H' D o) := fun sm b o e => by
    rw [upd_ne (ne_of_none e hD)]
    exact sm b o e
  refine ⟨fun i m σ' H' => m = xs.length - i ∧ i ≤ xs.length ∧ ∃ t, σ' = t :: (cap.map fun i => σ.getD i none) ∧ Same H H' ∧ H' D = some (.lst ((xs.take i).map f)), ⟨_, rfl, Nat.zero_le _, none, rfl, keep (Same.refl _), upd_same⟩, fun i m σ' H' hw => ?_⟩
  obtain ⟨rfl, hi, t, rfl, sm, hl⟩ := hw
  by_cases lt : i < xs.length
  · refine .inr ⟨it.go i _ (ok _ sm) lt, fun σ2 H2 => ∃ t, σ2 = t :: (cap.map fun i => σ.getD i none) ∧ Same H H2 ∧ H2 D = some (.lst ((xs.take (i + 1)).map f)), fun σ2 H2 n2 => ⟨_, ?_, rfl, lt, n2⟩, fun x H2 y => ?_⟩
    · omega
    · obtain ⟨rfl, hx⟩ := it.yld i _ x H2 (ok _ sm) lt y
      show te (some x :: (cap.map fun i => σ.getD i none)) _ _
      refine hs x H2 _ (List.mem_of_getElem? hx) sm fun H3 s3 => ⟨_, s3 _ _ hl, ?_, _, rfl, keep (sm.trans s3), ?_⟩
      · rw [List.length_map, List.length_take]
        exact small1000 (by omega)
      · rw [upd_same, List.take_add_one, hx, List.map_append]
        rfl
  · obtain rfl : i = xs.length := by omega
    refine .inl ⟨it.stop _ _ (ok _ sm) (Nat.le_refl _), ?_⟩
    rw [List.take_length] at hl
    exact hd D H' hD sm hl
section
variable {wi : TI} {nT : Nat} {cap : List Nat} {g : TG} {tc : TT} {te : TE} {σ : L2.St} {H : Hp} {Q : VK} {D : Ends} {i : Nat} {Qb : Bool → Hp → Prop}
theorem comp_ : tComp wi nT cap g tc te σ H Q = wi σ H fun J H1 => CmpR nT cap g tc te J σ H1 Q := rfl
theorem yes_ : tYes σ H Qb = Qb true H := rfl
end
theorem gsub_ {to ti : TE} {t : TSet} {v : V} {σ : L2.St} {H : Hp} {R : L2.St → Hp → Prop} : gSub to ti t v σ H R = to σ H fun o H1 => ti σ H1 fun i H2 => t o i v H2 fun H3 => R σ H3 := rfl
theorem setL_go {p : Addr} {xs : List V} {i : Nat} {v : V} {H : Hp} {Q : Hp → Prop} (h : H p = some (.lst xs)) (hi : i < xs.length) (q : Q (upd H p (.lst (xs.set i v)))) : rSetL (.ref p) (.int (i : Int)) v H Q := by
  refine ⟨p, xs, i, i, rfl, rfl, h, ?_, q⟩
  unfold ixN
  rw [if_pos (by omega), if_pos (by omega)]
  simp
def ItR (K : PySem.W.Frag) (x : V) (H : Hp) (R : It → Hp → Prop) : Prop := ∃ a, x = .ref a ∧ (∃ xs, SqT K H a xs) ∧ R (Itt K a) H
theorem itup_ {K : PySem.W.Frag} {te : TE} {σ : L2.St} {H : Hp} {R : It → Hp → Prop} : iTup K te σ H R = te σ H fun x H1 => ItR K x H1 R := rfl
theorem ItR.go {K : PySem.W.Frag} {a : Addr} {xs : List V} {H : Hp} {R : It → Hp → Prop} (h : SqT K H a xs) (q : R (Itt K a) H) : ItR K (.ref a) H R := ⟨a, rfl, ⟨xs, h⟩, q⟩
theorem mk_tup {K : PySem.W.Frag} {h : Heap} {mg : Str → Option Value} {x : Str} {ad : Addr} {d : Option Addr} {its : Array Value} {n : Nat} {sl : Array (Option Value)} {xs : List V} (X : K.In h) (G : h.Ns mainGlobals mg) (a : PySem.W.nsIn K mainGlobals x = some (some (.ref ad)))
    (l : K.lookup ad = some ⟨.type "tuple", d, .seq its n, sl⟩) (z : its.size ≤ sizeLine) (v : Vals xs its.toList) : ∃ a, mg x = some (.ref a) ∧ ∀ H, SqT K H a xs := ⟨ad, PySem.W.mg_of X G a, fun H => .inr ⟨_, its, n, l, rfl, rfl, z, v⟩⟩
theorem ForR.items {J : It} {xs : List V} {Ok : Hp → Prop} {g : TG} {tb : TS} {D : Ends} {σ : L2.St} {H : Hp} (it : ItOf J xs Ok) (Pv : Nat → L2.St → Hp → Prop) (h0 : Pv 0 σ H) (hok : ∀ i σ H, Pv i σ H → Ok H)
    (hs : ∀ i x σ H, xs[i]? = some x → Pv i σ H → g x σ H fun σ2 H2 => tb { D with nx := Pv (i + 1), ct := Pv (i + 1), bk := D.nx } σ2 H2) (hd : ∀ σ H, Pv xs.length σ H → D.nx σ H) : ForR J g tb D σ H := by
  refine ⟨fun i m σ H => m = xs.length - i ∧ i ≤ xs.length ∧ Pv i σ H, ⟨_, rfl, Nat.zero_le _, h0⟩, fun i m σ H hw => ?_⟩
  obtain ⟨rfl, hi, p⟩ := hw
  by_cases lt : i < xs.length
  · refine .inr ⟨it.go i H (hok i σ H p) lt, Pv (i + 1), fun σ' H' p' => ⟨_, ?_, rfl, lt, p'⟩, fun x H' y => ?_⟩
    · omega
    · obtain ⟨rfl, hx⟩ := it.yld i H x H' (hok i σ H p) lt y
      exact hs i x σ H' hx p
  · obtain rfl : i = xs.length := by omega
    exact .inl ⟨it.stop _ _ (hok _ _ _ p) (Nat.le_refl _), hd σ H p⟩
def cval : Expr → Option V
  | .Constant (.str x) _ _ => some (.str x)
  | .Constant (.int i) _ _ => some (.int i)
  | .Constant (.bool b) _ _ => some (.bl b)
  | .Constant .none _ _ => some .non
  | _ => none
def cvals : List Expr → Option (List V)
  | [] => some []
  | e :: es => (cval e).bind fun v => (cvals es).map fun vs => v :: vs
def tVals (vs : List V) : TA := fun _ H Q => Q vs H
theorem vals_ {vs : List V} {σ : L2.St} {H : Hp} {Q : List V → Hp → Prop} : tVals vs σ H Q = Q vs H := rfl
theorem cval_inv {e : Expr} {v : V} (h : cval e = some v) : ∃ c a b, e = .Constant c a b ∧ ((∃ x, c = .str x ∧ v = .str x) ∨ (∃ x, c = .int x ∧ v = .int x) ∨ (∃ x, c = .bool x ∧ v = .bl x) ∨ (c = .none ∧ v = .non)) := by
  unfold cval at h
  split at h
  · cases h; exact ⟨_, _, _, rfl, .inl ⟨_, rfl, rfl⟩⟩
  · cases h; exact ⟨_, _, _, rfl, .inr (.inl ⟨_, rfl, rfl⟩)⟩
  · cases h; exact ⟨_, _, _, rfl, .inr (.inr (.inl ⟨_, rfl, rfl⟩))⟩
  · cases h; exact ⟨_, _, _, rfl, .inr (.inr (.inr ⟨rfl, rfl⟩))⟩
  · cases h
theorem pe_cval {X : Cx} {e : Expr} {v : V} (h : cval e = some v) : PE X e (tC v) ∧ ∀ es, starEach (e :: es) X.env = (false, eval e X.env) :: starEach es X.env := by
  obtain ⟨c, a, b, rfl, ⟨x, rfl, rfl⟩ | ⟨x, rfl, rfl⟩ | ⟨x, rfl, rfl⟩ | ⟨rfl, rfl⟩⟩ := cval_inv h
  · exact ⟨pe_str, fun _ => rfl⟩
  · exact ⟨pe_int, fun _ => rfl⟩
  · exact ⟨pe_bl, fun _ => rfl⟩
  · exact ⟨pe_non, fun _ => rfl⟩
theorem pa_consts {X : Cx} : ∀ {es : List Expr} {vs : List V}, cvals es = some vs → PA X es (tVals vs)
  | [], vs, h => by
    cases h
    exact pa_nil
  | e :: es, vs, h => by
    unfold cvals at h
    cases h1 : cval e with
    | none => rw [h1] at h; cases h
    | some v =>
      cases h2 : cvals es with
      | none => rw [h1, h2] at h; cases h
      | some ws =>
        rw [h1, h2] at h
        obtain rfl : vs = v :: ws := (Option.some.inj h).symm
        obtain ⟨p1, p2⟩ := pe_cval (X := X) h1
        exact pa_cons p1 (pa_consts h2) (p2 es)
end Sv
namespace Sv
open PySem PySem.Spec PyProof.Rows L2
open PySem.Builtin PySem.Builtin.Str
theorem strs_vals : ∀ {ws : List Str} {us : List Value}, Vals (ws.map V.str) us → ∃ l : List (Str × Tok), us = strValues l ∧ l.map (·.1) = ws
  | [], _, r => by
    cases r
    exact ⟨[], rfl, rfl⟩
  | w :: ws, _, r => by
    cases r with
    | cons r1 r2 =>
      obtain ⟨t, rfl⟩ := r1
      obtain ⟨l, rfl, rfl⟩ := strs_vals r2
      exact ⟨(w, t) :: l, rfl, rfl⟩
section
variable {X : Cx}
def rJoin (K : PySem.W.Frag) : V → List V → Hp → VK → Prop := fun x vs H Q => ∃ z a ws, x = .str z ∧ vs = [.ref a] ∧ SqL K H a (ws.map V.str) ∧ JoinOk z ws = true ∧ Q (.str (Str.join z ws)) H
theorem mt_join : MtR X "str.join" (rJoin X.K) := by
  intro pins s σ H x vs v us Q I rx rv h
  obtain ⟨z, a, ws, rfl, rfl, hq, hok, q⟩ := h
  obtain ⟨t, rfl⟩ := rx
  obtain ⟨u', rfl, ru⟩ := rv.one
  obtain rfl : u' = Value.ref a := ru
  obtain ⟨its, rv', p, hz⟩ := I.list hq
  obtain ⟨l, rfl, e⟩ := strs_vals rv'
  refine SC.join p.isList e hok fun t' k => ⟨.str (Str.join z ws), H, I.tok k, ⟨t', ?_⟩, q⟩
  rw [← StrLaws.glued_eq_join]
  rfl
theorem join_go {K : PySem.W.Frag} {z : Str} {a : Addr} {ws : List Str} {H : Hp} {Q : VK} (h : SqL K H a (ws.map V.str)) (hk : JoinOk z ws = true) (q : Q (.str (Str.join z ws)) H) : rJoin K (.str z) [.ref a] H Q := ⟨z, a, ws, rfl, rfl, h, hk, q⟩
theorem joinOk_small {z : Str} {ws : List Str} (h : (ws.map (·.length)).sum + ws.length * z.length ≤ 1000000) : JoinOk z ws = true := by
  unfold JoinOk
  rw [StrLaws.joinTotal]
  rw [Bool.not_eq_true']
  unfold tooLong
  exact decide_eq_false (by
    have : (1000000 : Nat) ≤ sizeLine := by decide
    omega)
def rStrI : List V → Hp → VK → Prop := fun xs H Q => ∃ i : Int, xs = [.int i] ∧ i.natAbs.log2 < 1920 ∧ Q (.str (toString i)) H
theorem call_strI : CallR X (.type "str") rStrI := call_str_int
theorem strI_go {i : Int} {H : Hp} {Q : VK} (h : i.natAbs.log2 < 1920) (q : Q (.str (toString i)) H) : rStrI [.int i] H Q := ⟨i, rfl, h, q⟩
theorem log_small {i : Int} (h0 : 0 ≤ i) (h1 : i < 10 ^ 100) : i.natAbs.log2 < 1920 := by
  by_cases z : i.natAbs = 0
  · rw [z]; decide
  · rw [Nat.log2_lt z]
    have a : i.natAbs < 10 ^ 100 := by omega
    exact Nat.lt_of_lt_of_le (Nat.lt_of_lt_of_le a (by decide +kernel : 10 ^ 100 ≤ 2 ^ 400)) (Nat.pow_le_pow_right (by decide) (by decide))
def AddS : R2 := fun x y H Q => ∃ i j, x = .str i ∧ y = .str j ∧ i.length + j.length ≤ sizeLine ∧ Q (.str (i ++ j)) H
theorem op_addS : OpR X (binaryOp .Add) AddS := op_add_str
theorem addS_go {i j : Str} {H : Hp} {Q : VK} (h : i.length + j.length ≤ 1000000) (q : Q (.str (i ++ j)) H) : AddS (.str i) (.str j) H Q := ⟨i, j, rfl, rfl, Nat.le_trans h (by decide), q⟩
end
theorem app_list (x y : Str) : (x ++ y).cps.toList = x.cps.toList ++ y.cps.toList := by
  show (x.cps ++ y.cps).toList = _
  rw [Array.toList_append]
theorem str_ext {x y : Str} (h : x.cps.toList = y.cps.toList) : x = y := by
  obtain ⟨a⟩ := x
  obtain ⟨b⟩ := y
  have : a = b := Array.toList_inj.mp h
  rw [this]
end Sv
namespace Sv
open PySem PySem.Spec PyProof.Rows L2
def Chn : List (Addr × Obj) → Value → Prop
  | [], v => v = .none
  | p :: l, v => v = .ref p.1 ∧ ∃ (ws : Array Value) (c : Value), p.2.data = .fields ws ∧ ws[2]? = some c ∧ Chn l c
def Ctx2 (B : Heap) (U : Addr → Prop) (vs : Array Value) : Prop := ∃ (c : Value) (l : List (Addr × Obj)), vs[2]? = some c ∧ Chn l c ∧ ∀ p ∈ l, B.get? p.1 = some p.2 ∧ U p.1
theorem Ctx2.no {B : Heap} {U : Addr → Prop} {vs : Array Value} (h : vs[2]? = some .none) : Ctx2 B U vs := ⟨_, [], h, rfl, fun _ z => nomatch z⟩
section
variable {M : Model} {A : Around} {E : Value → Shared → Prop} {s : Shared} {B : Heap} {U : Addr → Prop} {env : Env} {outer : List Env} {L e : Addr} {cls : Value} {dd : Option Addr} {Q : Unit → Shared → Prop}
end
end Sv
namespace Sv
open PySem PySem.Spec PyProof.Rows L2
structure DefCx (X : Cx) : Prop where
  stk : X.stack = X.env :: X.outer
  frm : X.env.frame = some X.env.locals
  ex : X.ex = []
section
variable {X : Cx} {E : XK} {pins : List (Addr × Obj)} {σ : L2.St} {H : Hp} {s s' : Shared} {h' B : Heap}
end
structure ExcC (K : PySem.W.Frag) (mg : Str → Option Value) (x : Str) (C : Addr) : Prop where
  mg : mg x = some (.ref C)
  own : ∃ (Bn newId initId : String) (bm : List Value), ExcBaseFacts Bn newId initId bm ∧ PySem.W.excIn K C bm newId = true
theorem ExcC.cls {K : PySem.W.Frag} {mg : Str → Option Value} {x : Str} {C : Addr} {h : Heap} (O : ExcC K mg x C) (kin : K.In h) : ∃ (Bn newId initId : String) (bm : List Value), ExcBaseFacts Bn newId initId bm ∧ OwnCls x C bm newId mg h := by
  obtain ⟨Bn, newId, initId, bm, F, q⟩ := O.own
  refine ⟨Bn, newId, initId, bm, F, O.mg, ?_⟩
  unfold PySem.W.excIn at q
  split at q
  · rename_i dd cd sl ho
    split at q
    · rename_i C' tl k0 k1 k2 k3 n k5 hm hs
      simp only [Bool.and_eq_true, beq_iff_eq, Bool.not_eq_true'] at q
      obtain ⟨⟨⟨⟨⟨rfl, rfl⟩, hdel⟩, ht⟩, hok⟩, hni⟩ := q
      obtain ⟨nm, bs, mro, ns, qn, hd, sn, sub, ab, col, del⟩ := cd
      dsimp only at hm hdel hok hni
      subst hm hdel
      have hsl : sl = #[k0, k1, k2, k3, some (.builtin n), k5] := by
        obtain ⟨l⟩ := sl
        simp only at hs
        rw [hs]
      subst hsl
      exact ⟨tl, ns, nm, qn, bs, hd, sn, sub, ab, col, dd, k0, k1, k2, k3, k5, _, kin _ _ ho, .of_isNs (PySem.W.isNs_of_in kin hok), PySem.W.nsMap_none_of_in kin hok hni, PySem.W.tail_of_in kin ht⟩
    · cases q
  · cases q
end Sv
namespace Sv
open PySem PySem.Spec PyProof.Rows L2
def cxP (X : Cx) (pn : List (Addr × Obj)) : Cx := { X with pn := pn }
section
variable {X : Cx} {pins pn : List (Addr × Obj)} {σ : L2.St} {H : Hp} {s s' : Shared} {xa : Addr} {D : Ends} {f : Flow}
end
def excO (xa : Addr) (cls : Value) (dd : Option Addr) : HO := .ext fun h => ∃ (vs : Array Value) (sl : Array (Option Value)), h.get? xa = some ⟨cls, dd, .fields vs, sl⟩
section
variable {X : Cx} {pins : List (Addr × Obj)} {σ : L2.St} {H : Hp} {s s' : Shared} {Rr : RX}
theorem DefCx.p {pn : List (Addr × Obj)} (d : DefCx X) : DefCx (cxP X pn) := ⟨d.stk, d.frm, d.ex⟩
end
def asEnds (i : Nat) (D : Ends) : Ends := { nx := fun σ H => D.nx (σ.set i none) H, rt := D.rt, bk := fun σ H => D.bk (σ.set i none) H, ct := fun σ H => D.ct (σ.set i none) H }
section
variable {X : Cx} {body suite : List Stmt} {b₀ : Stmt} {x n : Str} {C : Addr} {np hpos pos : Pos} {tb ts : TS} {i : Nat}
end
section
variable {X : Cx} {x : Str} {k j : Nat} {ps : List Str} {sp : Sp} {e : Expr} {es : List Expr} {t : TA} {p pos : Pos}
end
section
variable {prog : Program} {w : World} {A : Around} {E : Value → Shared → Prop} {K : PySem.W.Frag} {x D : Addr} {ox : Obj} {odo : Option Obj} {name : Str} {s : Shared}
end
section
variable {X : Cx} {e v₁ v₂ : Expr} {es rest : List Expr} {t : TE} {ts : List TE} {pos : Pos}
theorem asnx_ {i : Nat} {D : Ends} {σ : L2.St} {H : Hp} : (asEnds i D).nx σ H = D.nx (σ.set i none) H := rfl
theorem asrt_ {i : Nat} {D : Ends} : (asEnds i D).rt = D.rt := rfl
end
end Sv
namespace Sv
open PySem PySem.Spec PyProof.Rows L2
section
variable {X : Cx}
def steps (c hi : Int) : Nat := (Builtin.Range.rangeSize 0 hi c).toNat
theorem size_nn {c hi : Int} (hc : 0 < c) : 0 ≤ Builtin.Range.rangeSize 0 hi c := by
  unfold Builtin.Range.rangeSize
  rw [if_pos hc]
  split
  · have := Int.ediv_nonneg (show 0 ≤ hi - 0 - 1 by omega) (Int.le_of_lt hc)
    omega
  · omega
theorem size_le {c hi : Int} (hc : 0 < c) (h0 : 0 ≤ hi) : Builtin.Range.rangeSize 0 hi c ≤ hi + 1 := by
  unfold Builtin.Range.rangeSize
  rw [if_pos hc]
  split
  · have := Int.ediv_le_self (a := hi - 0 - 1) c (by omega)
    omega
  · omega
theorem small_steps {c hi : Int} (h0 : 0 ≤ hi) (h1 : hi < 1000000) (hc : 0 < c) (hc' : c < 1000) : Builtin.Range.small 0 hi c = true := by
  have a := size_nn (hi := hi) hc
  have b := size_le hc h0
  have ee : Builtin.Range.rangeSize 0 hi c * c ≤ 1000001 * 1000 := Int.mul_le_mul (by omega) (by omega) (by omega) (by decide)
  have ef : 0 ≤ Builtin.Range.rangeSize 0 hi c * c := Int.mul_nonneg a (by omega)
  unfold Builtin.Range.small
  simp only [Builtin.Range.rangeFitsLong, Bool.and_eq_true, Bool.or_eq_true, decide_eq_true_eq, beq_iff_eq, hc, if_true, gt_iff_lt]
  generalize Builtin.Range.rangeSize 0 hi c = r at *
  omega
def iRngS (c : Int) (ta : TA) : TI := fun σ H R => ta σ H fun vs H1 => ∃ j : Int, vs = [.int 0, .int j, .int c] ∧ 0 ≤ j ∧ j < 1000000 ∧ R (Its 0 c (steps c j)) H1
theorem pi_rangeS {tg a b d : Expr} {ta : TA} {p pos : Pos} {c : Int} (hc : 0 < c) (hc' : c < 1000) (hg : Gl X "range") (hm : X.mg "range" = none) (ha : PA X [a, b, d] ta)
    (hs : starEach [a, b, d] X.env = [(false, eval a X.env), (false, eval b X.env), (false, eval d X.env)] := by rfl)
    (hs2 : starEach [b, d] X.env = [(false, eval b X.env), (false, eval d X.env)] := by rfl) : PI X tg (.Call (.Name "range" p) [a, b, d] [] pos) (iRngS c ta) := by
  intro pins s σ H R I h
  refine Call_ (ld_blt I hg hm boot_range (PyProof.Rows.callWith_type1 (thn (ha pos pins s σ H _ I h) fun us s1 ⟨vs, H1, I1, r1, q1⟩ => ?_) (by rw [hs, hs2]) (by rw [hs2]; rfl)))
  obtain ⟨j, e, q1, q2, q⟩ := q1
  subst e
  obtain ⟨u0, u1, u2, rfl, ⟨t0, rfl⟩, ⟨t1, rfl⟩, ⟨t2, rfl⟩⟩ : ∃ u0 u1 u2, us = [u0, u1, u2] ∧ RelV (.int 0) u0 ∧ RelV (.int j) u1 ∧ RelV (.int c) u2 := by
    cases r1 with
    | cons ra rr =>
      cases rr with
      | cons rb rr =>
        cases rr with
        | cons rc rr =>
          cases rr
          exact ⟨_, _, _, rfl, ra, rb, rc⟩
  refine PySem.call_range_3 (by omega) ?_ (.inl (PyProof.noPylong_small (by omega)))
  have I2 : Inv X pins σ H1 { s1 with heap := s1.heap.push { cls := .type "range", data := .fields #[.int 0 t0, .int j t1, .int c t2] }, toks := s1.toks } := I1.kept fun b o e => Heap.get?_push_of_some _ e
  refine wpAny_pyIter_range (IsRange.new ..) (small_steps q1 q2 hc hc') ?_
  refine ⟨_, [_], _, _, H1, rfl, I2.kept (t' := s1.toks) fun b o e => Heap.get?_push_of_some _ e, turn_step _ 0 c (steps c j), ?_, fun b hb => ?_, q⟩
  · show IsRangeIter _ _ (0 + ((0 : Nat) : Int) * c) (((steps c j : Nat) : Int) - ((0 : Nat) : Int)) c
    have e1 : (0 : Int) + ((0 : Nat) : Int) * c = 0 := by simp
    have e2 : ((steps c j : Nat) : Int) - ((0 : Nat) : Int) = Builtin.Range.rangeSize 0 j c := by
      have := size_nn (hi := j) hc
      unfold steps
      omega
    rw [e1, e2]
    exact Heap.get?_push_size _ rfl
  · obtain rfl := List.mem_singleton.mp hb
    exact I2.fpOk (Nat.le_refl _) (I2.hok.fresh (Nat.le_refl _))
end
section
variable {H : Hp} {Q : VK} {σ : L2.St} {tr : TA}
def RngS (c : Int) (vs : List V) (H : Hp) (R : It → Hp → Prop) : Prop := ∃ j : Int, vs = [.int 0, .int j, .int c] ∧ 0 ≤ j ∧ j < 1000000 ∧ R (Its 0 c (steps c j)) H
theorem rngS_ {c : Int} {R : It → Hp → Prop} : iRngS c tr σ H R = tr σ H fun vs H1 => RngS c vs H1 R := rfl
theorem RngS.go {c j : Int} {R : It → Hp → Prop} (h1 : 0 ≤ j) (h2 : j < 1000000) (q : R (Its 0 c (steps c j)) H) : RngS c [.int 0, .int j, .int c] H R := ⟨j, rfl, h1, h2, q⟩
theorem rEqB_ {i j : Bool} : rEq (.bl i) (.bl j) H Q = Q (.bl (decide (i = j))) H := by
  unfold rEq
  have e : (V.bl i = V.bl j) = (i = j) := propext ⟨fun h => V.bl.inj h, fun h => by rw [h]⟩
  simp only [e]
  exact propext ⟨fun h => h.2, fun h => ⟨rfl, h⟩⟩
end
end Sv
namespace Sv
open PySem PySem.Spec PyProof.Rows L2
section
variable {X : Cx}
end
theorem shaped_of {d : PyData} (h1 : d.canLay0 = true) (h2 : d.depth ≤ 64) : SeqAt.shaped d = true := by
  unfold SeqAt.shaped
  rw [h1, decide_eq_true h2]
  rfl
theorem canLayAll_of {α : Type} (g : α → PyData) (h : ∀ x, (g x).canLay0 = true) : ∀ xs : List α, PyData.canLayAll0 (xs.map g) = true
  | [] => by simp [PyData.canLayAll0]
  | x :: xs => by rw [List.map_cons, PyData.canLayAll0.eq_2, h x, canLayAll_of g h xs]; rfl
theorem depthAll_of {α : Type} (g : α → PyData) {n : Nat} (h : ∀ x, (g x).depth ≤ n) : ∀ xs : List α, PyData.depthAll (xs.map g) ≤ n
  | [] => by simp [PyData.depthAll]
  | x :: xs => by
    rw [List.map_cons, PyData.depthAll.eq_2]
    exact Nat.max_le.mpr ⟨h x, depthAll_of g h xs⟩
def pairD (b : Int × Int) : PyData := .tuple [.int b.1, .int b.2]
def boxD (bs : List (Int × Int)) : PyData := .tuple (bs.map pairD)
def pointD (ns : List Int) : PyData := .tuple (ns.map .int)
theorem pairD_lay (b : Int × Int) : (pairD b).canLay0 = true := by simp [pairD, PyData.canLay0, PyData.canLayAll0]
theorem pairD_deep (b : Int × Int) : (pairD b).depth ≤ 2 := by simp [pairD, PyData.depth, PyData.depthAll]
theorem intD_lay (n : Int) : (PyData.int n).canLay0 = true := by simp [PyData.canLay0]
theorem intD_deep (n : Int) : (PyData.int n).depth ≤ 2 := by simp [PyData.depth]
theorem boxD_lay (bs : List (Int × Int)) : (boxD bs).canLay0 = true := by
  have := canLayAll_of pairD pairD_lay bs
  simp [boxD, PyData.canLay0, this]
theorem boxD_deep (bs : List (Int × Int)) : (boxD bs).depth ≤ 3 := by
  have := depthAll_of pairD pairD_deep bs
  simp only [boxD, PyData.depth]
  omega
theorem boxD_shaped (bs : List (Int × Int)) : SeqAt.shaped (boxD bs) = true := shaped_of (boxD_lay bs) (Nat.le_trans (boxD_deep bs) (by decide))
theorem pointD_shaped (ns : List Int) : SeqAt.shaped (pointD ns) = true := by
  have a := canLayAll_of PyData.int intD_lay ns
  have b := depthAll_of PyData.int intD_deep ns
  exact shaped_of (by simp [pointD, PyData.canLay0, a]) (by simp only [pointD, PyData.depth]; omega)
theorem eqvAll_of {α : Type} (g : α → PyData) (h : ∀ x y, PyData.eqv (g x) (g y) = true ↔ x = y) : ∀ xs ys : List α, PyData.eqvAll (xs.map g) (ys.map g) = true ↔ xs = ys
  | [], [] => by simp [PyData.eqvAll]
  | [], y :: ys => by simp [PyData.eqvAll]
  | x :: xs, [] => by simp [PyData.eqvAll]
  | x :: xs, y :: ys => by
    rw [List.map_cons, List.map_cons]
    simp only [PyData.eqvAll, Bool.and_eq_true, h x y, eqvAll_of g h xs ys, List.cons.injEq]
theorem pair_eqv (b c : Int × Int) : PyData.eqv (pairD b) (pairD c) = true ↔ b = c := by
  obtain ⟨a, b⟩ := b
  obtain ⟨c, d⟩ := c
  simp [pairD, PyData.eqv, PyData.eqvAll]
theorem box_eqv (bs cs : List (Int × Int)) : PyData.eqv (boxD bs) (boxD cs) = true ↔ bs = cs := by
  have := eqvAll_of pairD pair_eqv bs cs
  simpa [boxD, PyData.eqv] using this
theorem point_eqv (ns ms : List Int) : PyData.eqv (pointD ns) (pointD ms) = true ↔ ns = ms := by
  have := eqvAll_of PyData.int (fun x y => by simp [PyData.eqv]) ns ms
  simpa [pointD, PyData.eqv] using this
inductive Strs (H : Hp) : List V → List (Int × Int) → Prop where
  | nil : Strs H [] []
  | cons {a : Addr} {lo hi : Int} {vs : List V} {bs : List (Int × Int)} (h : H a = some (.tup [.int lo, .int hi])) (t : Strs H vs bs) : Strs H (.ref a :: vs) ((lo, hi) :: bs)
section
variable {H H' : Hp} {vs ws : List V} {bs cs : List (Int × Int)} {p a : Addr}
theorem Strs.len (h : Strs H vs bs) : vs.length = bs.length := by
  induction h with
  | nil => rfl
  | cons _ _ ih => rw [List.length_cons, List.length_cons, ih]
theorem Strs.mono (h : Strs H vs bs) (k : ∀ a xs, H a = some (.tup xs) → H' a = some (.tup xs)) : Strs H' vs bs := by
  induction h with
  | nil => exact .nil
  | cons h _ ih => exact .cons (k _ _ h) ih
theorem Strs.same (h : Strs H vs bs) (s : Same H H') : Strs H' vs bs := h.mono fun a xs e => s _ _ e
theorem Strs.upd {xs : List V} {o : HO} (h : Strs H vs bs) (e : H p = some (.lst xs)) : Strs (upd H p o) vs bs := h.mono fun a ys q => by
  have n : a ≠ p := fun z => by rw [z, e] at q; cases q
  rw [upd_ne n]
  exact q
theorem Strs.app (h : Strs H vs bs) (k : Strs H ws cs) : Strs H (vs ++ ws) (bs ++ cs) := by
  induction h with
  | nil => exact k
  | cons h _ ih => exact .cons h ih
theorem Strs.snoc {lo hi : Int} (h : Strs H vs bs) (e : H a = some (.tup [.int lo, .int hi])) : Strs H (vs ++ [.ref a]) (bs ++ [(lo, hi)]) := h.app (.cons e .nil)
theorem Strs.at {i : Nat} {x : V} (h : Strs H vs bs) (e : vs[i]? = some x) : ∃ a lo hi, x = .ref a ∧ bs[i]? = some (lo, hi) ∧ H a = some (.tup [.int lo, .int hi]) := by
  induction h generalizing i with
  | nil => cases e
  | cons h _ ih =>
    cases i with
    | zero =>
      cases e
      exact ⟨_, _, _, rfl, rfl, h⟩
    | succ j => exact ih e
theorem Strs.ix {i : Nat} {b : Int × Int} (h : Strs H vs bs) (e : bs[i]? = some b) : ∃ a, vs[i]? = some (.ref a) ∧ H a = some (.tup [.int b.1, .int b.2]) := by
  induction h generalizing i with
  | nil => cases e
  | cons h _ ih =>
    cases i with
    | zero =>
      cases e
      exact ⟨_, rfl, h⟩
    | succ j => exact ih e
theorem Strs.dts (h : Strs H vs bs) : Dts H vs (bs.map pairD) := by
  induction h with
  | nil => exact .nil
  | cons h _ ih => exact .cons (.tup (.inl h) (.cons (.int _) (.cons (.int _) .nil))) ih
theorem ints_dts (H : Hp) : ∀ ns : List Int, Dts H (ns.map V.int) (ns.map PyData.int)
  | [] => .nil
  | n :: ns => .cons (.int n) (ints_dts H ns)
def IsBox (H : Hp) (p : Addr) (bs : List (Int × Int)) : Prop := ∃ vs, H p = some (.tup vs) ∧ Strs H vs bs
def IsPt (H : Hp) (p : Addr) (ns : List Int) : Prop := H p = some (.tup (ns.map V.int))
theorem IsBox.same (h : IsBox H p bs) (s : Same H H') : IsBox H' p bs := by
  obtain ⟨vs, e, t⟩ := h
  exact ⟨vs, s _ _ e, t.same s⟩
theorem IsBox.dt (h : IsBox H p bs) : Dt H (.ref p) (boxD bs) := by
  obtain ⟨vs, e, t⟩ := h
  exact .tup (.inl e) t.dts
theorem IsPt.dt {ns : List Int} (h : IsPt H p ns) : Dt H (.ref p) (pointD ns) := .tup (.inl h) (ints_dts H ns)
theorem _root_.L2.Same.put {o : HO} (s : Same H H') (h : H p = none) : Same H (upd H' p o) := fun b u e => by
  rw [upd_ne (ne_of_none e h)]
  exact s b u e
end
section
variable {X : Cx} {H : Hp} {Q : VK} {p : Addr} {ys : List V} {K : PySem.W.Frag}
def TupOf (K : PySem.W.Frag) : List V → Hp → VK → Prop := fun xs H Q => ∃ p ys, xs = [.ref p] ∧ ((SqL K H p ys ∧ ∀ l, H l = none → Q (.ref l) (upd H l (.tup ys))) ∨ (SqT K H p ys ∧ Q (.ref p) H))
theorem call_tupleR : CallR X (.type "tuple") (TupOf X.K) := call_tuple_of
theorem TupOf.lst (h : SqL K H p ys) (q : ∀ l, H l = none → Q (.ref l) (upd H l (.tup ys))) : TupOf K [.ref p] H Q := ⟨p, ys, rfl, .inl ⟨h, q⟩⟩
end
end Sv
namespace Sv
open PySem L2
end Sv
namespace Sv
open PySem L2
section
variable {K : PySem.W.Frag} {H : Hp} {Q : VK} {p r : Addr} {bs cs : List (Int × Int)} {ns : List Int} {i : Nat}
theorem ixB_go {b : Int × Int} (h : IsBox H p bs) (e : bs[i]? = some b) (q : ∀ a, H a = some (.tup [.int b.1, .int b.2]) → Q (.ref a) H) : rIxT K (.ref p) (.int (i : Int)) H Q := by
  obtain ⟨vs, hp, hb⟩ := h
  obtain ⟨a, ea, ha⟩ := hb.ix e
  exact ixT_go (SqT.of hp) ea (q a ha)
def meetOf (b c : Int × Int) : Int × Int := (max b.1 c.1, min b.2 c.2)
def full (b : Int × Int) : Bool := decide (b.1 ≤ b.2)
def meets (bs cs : List (Int × Int)) : List (Int × Int) := List.zipWith meetOf bs cs
def bothOf (bs cs : List (Int × Int)) : Option (List (Int × Int)) := if (meets bs cs).all full = true then some (meets bs cs) else none
end
end Sv
namespace Sv
open PySem L2
theorem bool_eq_dec {b : Bool} {c : Prop} [Decidable c] (h : b = true ↔ c) : b = decide c := by
  rw [Bool.eq_iff_iff, h, decide_eq_true_iff]
theorem eqB_go {H : Hp} {Q : VK} {p r : Addr} {bs cs : List (Int × Int)} (h : IsBox H p bs) (h' : IsBox H r cs) (q : Q (.bl (decide (bs = cs))) H) : rEqD false (.ref p) (.ref r) H Q := by
  refine ⟨boxD bs, boxD cs, h.dt, h'.dt, boxD_shaped _, boxD_shaped _, ?_⟩
  rw [if_neg Bool.false_ne_true, bool_eq_dec (box_eqv bs cs)]
  exact q
theorem eqN_go {H : Hp} {Q : VK} {r : Addr} {cs : List (Int × Int)} (h' : IsBox H r cs) (q : Q (.bl false) H) : rEqD false .non (.ref r) H Q := by
  refine ⟨.none, boxD cs, .non, h'.dt, by decide, boxD_shaped _, ?_⟩
  rw [if_neg Bool.false_ne_true, show PyData.eqv .none (boxD cs) = false by simp [boxD, PyData.eqv]]
  exact q
end Sv
namespace Sv
open PySem L2
def BothV (H : Hp) (bs cs : List (Int × Int)) (v : V) : Prop := (v = .non ∧ bothOf bs cs = none) ∨ ∃ x ds, v = .ref x ∧ bothOf bs cs = some ds ∧ IsBox H x ds
theorem BothV.eqv {H : Hp} {Q : VK} {p : Addr} {bs cs ds : List (Int × Int)} {v : V} (h : BothV H bs cs v) (hp : IsBox H p ds) (q : Q (.bl (decide (bothOf bs cs = some ds))) H) : rEqD false v (.ref p) H Q := by
  rcases h with ⟨rfl, e⟩ | ⟨x, es, rfl, e, hx⟩
  · rw [e] at q
    exact eqN_go hp q
  · rw [e, show decide (some es = some ds) = decide (es = ds) by simp] at q
    exact eqB_go hx hp q
end Sv
namespace Sv
open PySem L2
section
variable {K : PySem.W.Frag} {σ : L2.St} {H : Hp} {Q : VK} {p : Addr} {xs : List V} {k : Nat} {r : V → Option Int → Option Int → Hp → VK → Prop} {te : TE} {tl th : TO} {Qo : Option Int → Hp → Prop}
end
inductive Bxs (H : Hp) : List V → List (List (Int × Int)) → Prop where
  | nil : Bxs H [] []
  | cons {p : Addr} {b : List (Int × Int)} {vs : List V} {bss : List (List (Int × Int))} (h : IsBox H p b) (t : Bxs H vs bss) : Bxs H (.ref p :: vs) (b :: bss)
section
variable {H H' : Hp} {vs ws : List V} {bss css : List (List (Int × Int))} {p : Addr}
theorem IsBox.mono {b : List (Int × Int)} (h : IsBox H p b) (k : ∀ a xs, H a = some (.tup xs) → H' a = some (.tup xs)) : IsBox H' p b := by
  obtain ⟨vs, e, t⟩ := h
  exact ⟨vs, k _ _ e, t.mono k⟩
theorem upd_tup {xs : List V} {o : HO} (e : H p = some (.lst xs)) : ∀ a ys, H a = some (.tup ys) → upd H p o a = some (.tup ys) := fun a ys q => by
  have n : a ≠ p := fun z => by rw [z, e] at q; cases q
  rw [upd_ne n]
  exact q
theorem IsBox.upd {b : List (Int × Int)} {xs : List V} {o : HO} {l : Addr} (h : IsBox H p b) (e : H l = some (.lst xs)) : IsBox (upd H l o) p b := h.mono (upd_tup e)
theorem Bxs.mono (h : Bxs H vs bss) (k : ∀ a xs, H a = some (.tup xs) → H' a = some (.tup xs)) : Bxs H' vs bss := by
  induction h with
  | nil => exact .nil
  | cons h _ ih => exact .cons (h.mono k) ih
theorem Bxs.upd {xs : List V} {o : HO} {l : Addr} (h : Bxs H vs bss) (e : H l = some (.lst xs)) : Bxs (upd H l o) vs bss := h.mono (upd_tup e)
theorem Bxs.len (h : Bxs H vs bss) : vs.length = bss.length := by
  induction h with
  | nil => rfl
  | cons _ _ ih => rw [List.length_cons, List.length_cons, ih]
theorem Bxs.at {i : Nat} {x : V} (h : Bxs H vs bss) (e : vs[i]? = some x) : ∃ p b, x = .ref p ∧ bss[i]? = some b ∧ IsBox H p b := by
  induction h generalizing i with
  | nil => cases e
  | cons h _ ih =>
    cases i with
    | zero =>
      cases e
      exact ⟨_, _, rfl, rfl, h⟩
    | succ j => exact ih e
end
end Sv
namespace Sv
open PySem PySem.Spec PyProof.Rows L2
section
variable {P : Program} {w : World} {A : Around} {E : Value → Shared → Prop} {s : Shared}
theorem nextT {q p : Addr} {i : Nat} {its : Array Value} {x : Value} {Q : Value → Shared → Prop} (hq : s.heap.IsTupleIter q p i) (hp : s.heap.IsTuple p its) (hx : its[i]? = some x)
    (k : ∀ h', h'.IsTupleIter q p (i + 1) → Heap.SameBut q s.heap h' → Q x { s with heap := h' }) : wpAny (model P w) A (Builtin.SmallTypes.nextOf (.ref q)) Q E s := by
  obtain ⟨o, ho, hc, hd⟩ := id hq
  obtain ⟨ot, hot, _, nt, hdt⟩ := hp
  unfold Builtin.SmallTypes.nextOf
  refine wpAny_bind (wpAny_callSpecial?_slot (name := Str.ofString "__next__") hq.typeIs F.slot_tuple_iterator_next (wpAny_call_entry F.slot_tuple_iterator_next hq.typeIs F.entry_tuple_iterator_next ?_ (F.args_tuple_iterator_next_1 _)))
  show wpAny _ _ (field (.ref q) 0 >>= _) _ _ s
  refine wpAny_bind (wpAny_field ho hd (x := .ref p) rfl ?_)
  show wpAny _ _ (if (Value.ref p == Value.none) = true then _ else _) _ _ s
  rw [if_neg (show ¬ ((Value.ref p == Value.none) = true) from Bool.false_ne_true)]
  show wpAny _ _ (field (.ref q) 1 >>= _) _ _ s
  refine wpAny_bind (wpAny_field ho hd (x := Value.int i 0) rfl ?_)
  show wpAny _ _ (seqItems? (.ref p) >>= _) _ _ s
  refine wpAny_bind (wpAny_seqItems hot hdt ?_)
  simp only [Int.toNat_natCast, hx]
  refine wpAny_bind (wpAny_setField ho hd (by simp) (wpAny_pure ⟨x, rfl, wpAny_pure (k _ ?_ (Heap.SameBut.update ..))⟩))
  refine ⟨_, Heap.get?_update_self _ ho (Obj.isFreed_of_fields (Obj.data_mapFields hd _)), (Obj.cls_mapFields ..).trans hc, ?_⟩
  rw [Obj.data_mapFields hd]
  simp [rawInt]
theorem nextT_end {q p : Addr} {i : Nat} {its : Array Value} {Q : Value → Shared → Prop} (hh : A.handled = none) (hq : s.heap.IsTupleIter q p i) (hp : s.heap.IsTuple p its) (hx : its[i]? = none)
    (k : ∀ h' e, Heap.ExtBut q s.heap h' → (∃ o, h'.get? e = some o ∧ o.cls = .type "StopIteration") → E (.ref e) { s with heap := h' }) : wpAny (model P w) A (Builtin.SmallTypes.nextOf (.ref q)) Q E s := by
  obtain ⟨o, ho, hc, hd⟩ := id hq
  obtain ⟨ot, hot, _, nt, hdt⟩ := hp
  unfold Builtin.SmallTypes.nextOf
  refine wpAny_bind (wpAny_callSpecial?_slot (name := Str.ofString "__next__") hq.typeIs F.slot_tuple_iterator_next (wpAny_call_entry F.slot_tuple_iterator_next hq.typeIs F.entry_tuple_iterator_next ?_ (F.args_tuple_iterator_next_1 _)))
  show wpAny _ _ (field (.ref q) 0 >>= _) _ _ s
  refine wpAny_bind (wpAny_field ho hd (x := .ref p) rfl ?_)
  show wpAny _ _ (if (Value.ref p == Value.none) = true then _ else _) _ _ s
  rw [if_neg (show ¬ ((Value.ref p == Value.none) = true) from Bool.false_ne_true)]
  show wpAny _ _ (field (.ref q) 1 >>= _) _ _ s
  refine wpAny_bind (wpAny_field ho hd (x := Value.int i 0) rfl ?_)
  show wpAny _ _ (seqItems? (.ref p) >>= _) _ _ s
  refine wpAny_bind (wpAny_seqItems hot hdt ?_)
  simp only [Int.toNat_natCast, hx]
  refine wpAny_bind (wpAny_rule (wpAny_bind (wpAny_setField ho hd (by simp) (show wpAny _ _ (newExc (.type "StopIteration") [] >>= _) _ _ _ from wpAny_bind ?_))))
  simp only [newExc, newTuple]
  refine wpAny_bind (wpAny_newObj_type (wpAny_bind (m := firstArgMember _ _) (wpAny_of_eq (a := Value.none) (by first | rfl | (simp only [firstArgMember]; rfl)) (wpAny_newObj_type ?_ (by size_fits)))) (by size_fits))
  simp only [raiseNew]
  refine wpAny_bind (wpAny_handled ?_)
  first | rw [show A.in1.handled = none from hh] | rw [hh]
  refine wpAny_bind (wpAny_pure (wpAny_throw (k _ _ (((Heap.SameBut.update ..).extBut.push _).push _) ⟨_, Heap.get?_push_size _ rfl, rfl⟩)))
def IsIt (h : Heap) : Bool → Addr → Addr → Nat → Prop
  | true => h.IsTupleIter
  | false => h.IsListIter
def IsSq (h : Heap) : Bool → Addr → Array Value → Prop
  | true => h.IsTuple
  | false => h.IsList
theorem IsIt.at {h h' : Heap} {b : Bool} {q p : Addr} {i : Nat} (x : IsIt h b q p i) (e : ∀ o, h.get? q = some o → h'.get? q = some o) : IsIt h' b q p i := by
  cases b
  · exact Heap.IsListIter.at x e
  · exact Heap.IsTupleIter.at x e
theorem IsSq.at {h h' : Heap} {b : Bool} {p : Addr} {its : Array Value} (x : IsSq h b p its) (e : ∀ o, h.get? p = some o → h'.get? p = some o) : IsSq h' b p its := by
  cases b
  · exact Heap.IsList.at x e
  · obtain ⟨o, ho, r⟩ := x
    exact ⟨o, e _ ho, r⟩
theorem IsIt.ex {h : Heap} {b : Bool} {q p : Addr} {i : Nat} (x : IsIt h b q p i) : ∃ o, h.get? q = some o ∧ ∀ v, o.data ≠ .cell v := by
  cases b
  · obtain ⟨o, e, _, d⟩ := x
    exact ⟨o, e, fun v z => by rw [d] at z; cases z⟩
  · obtain ⟨o, e, _, d⟩ := x
    exact ⟨o, e, fun v z => by rw [d] at z; cases z⟩
def Kept (ch : List Addr) (h h' : Heap) : Prop := ∀ c o, c ∉ ch → h.get? c = some o → h'.get? c = some o
theorem Kept.trans {ch : List Addr} {h h' h'' : Heap} (x : Kept ch h h') (y : Kept ch h' h'') : Kept ch h h'' := fun c o n e => y c o n (x c o n e)
theorem Kept.of {ch : List Addr} {h h' : Heap} {b : Addr} (x : Heap.SameBut b h h') (m : b ∈ ch) : Kept ch h h' := fun c o n e => x.extBut c o (fun z => n (z ▸ m)) e
theorem Kept.ext {ch : List Addr} {h h' : Heap} {b : Addr} (x : Heap.ExtBut b h h') (m : b ∈ ch) : Kept ch h h' := fun c o n e => x c o (fun z => n (z ▸ m)) e
abbrev itO (p : Addr) : Obj := { cls := .type "tuple_iterator", data := .fields #[.ref p, .int 0 0] }
end
theorem _root_.L2.Inv.turnedL {X : Cx} {pins : List (Addr × Obj)} {σ : L2.St} {H : Hp} {s : Shared} {h' : Heap} {t' : Nat} {ch : List Addr} (I : Inv X pins σ H s) (k : Kept ch s.heap h') (f : ∀ b ∈ ch, FpOk X pins H b) : Inv X pins σ H { s with heap := h', toks := t' } := by
  have nit : ∀ b u, H b = some u → b ∉ ch := fun b u e z => by
    rw [(f b z).1] at e
    cases e
  have loc : X.env.locals ∉ ch := fun z => (f _ z).2.1 rfl
  refine I.step (g' := s.gens) (d' := s.drawn) (ch := ch) (fun b hb => ?_) (fun b o _ _ hc e _ => k b o hc e) (fun b o _ _ hc e _ => ⟨o.slots, k b o hc e⟩) (fun _ _ _ _ n => n) (fun b o hc e => ⟨o, k b o hc e⟩) (fun _ _ e => e) (fun _ _ _ e => e)
    (fun b ps e => ⟨#[], by rw [e]; simp⟩) (fun m hm => ?_) (fun b u e => ?_) I.bare
  · obtain ⟨_, hL, _, h1, h2, h3⟩ := f b hb
    exact ⟨h1, hL, h2, h3⟩
  · obtain ⟨o, es, ep, ho, r⟩ := hm
    exact ⟨o, es, ep, k _ o loc ho, r⟩
  · refine (I.hok b u e).stay (fun c v hc q => k c v ?_ q) (fun _ q => q) fun _ _ q => q
    rcases hc with z | z
    · rw [z]
      exact nit b u e
    · exact nit c _ z
def Sq (K : PySem.W.Frag) (H : Hp) : Bool → Addr → List V → Prop
  | true => SqT K H
  | false => SqL K H
theorem Sq.at {X : Cx} {pins : List (Addr × Obj)} {σ : L2.St} {H : Hp} {s : Shared} {b : Bool} {a : Addr} {xs : List V} (I : Inv X pins σ H s) (h : Sq X.K H b a xs) : ∃ its : List Value, Vals xs its ∧ IsSq s.heap b a its.toArray := by
  cases b with
  | true =>
    obtain ⟨its, rv, p, _⟩ := I.tuple h
    exact ⟨its, rv, p⟩
  | false =>
    obtain ⟨its, rv, p, _⟩ := I.list h
    exact ⟨its, rv, p.isList⟩
section
variable {X : Cx}
end
end Sv
namespace Sv
open PySem PySem.Spec PyProof.Rows L2
section
variable {K : PySem.W.Frag} {H : Hp} {R : It → Hp → Prop} {a b : Addr} {xs ys : List V} {vs : List V}
end
section
variable {X : Cx}
def rCatA (K : PySem.W.Frag) : R2 := fun x y H Q => ∃ a b xs ys, x = .ref a ∧ y = .ref b ∧ SqT K H a xs ∧ SqT K H b ys ∧ xs.length + ys.length ≤ sizeLine ∧
  (xs = [] → Q (.ref b) H) ∧ (xs ≠ [] → ys = [] → Q (.ref a) H) ∧ (xs ≠ [] → ys ≠ [] → ∀ p, H p = none → Q (.ref p) (upd H p (.tup (xs ++ ys))))
theorem op_catA : OpR X (binaryOp .Add) (rCatA X.K) := by
  intro pins s σ H x y v u Q I rx ry h
  obtain ⟨a, b, xs, ys, rfl, rfl, ha, hb, hz, q0, q1, q2⟩ := h
  by_cases hx : xs = []
  · cases rx
    cases ry
    obtain ⟨its, r1, p1, _⟩ := I.tuple ha
    obtain ⟨its2, r2, p2, _⟩ := I.tuple hb
    obtain ⟨⟨cls, dd, data, sl⟩, ho, hc, n, hd⟩ := id p1
    obtain ⟨⟨cls2, dd2, data2, sl2⟩, ho2, hc2, n2, hd2⟩ := id p2
    cases hc
    cases hd
    cases hc2
    cases hd2
    exact concat_meets ⟨_, ho, rfl⟩ ⟨_, ho2, rfl⟩ noFill_tuple_add seq_tuple_add PySem.F.slot_tuple_add PySem.F.entry_tuple_add (PySem.F.args_tuple_add_2 _ _)
      (tuple_addW0 a b its.toArray its2.toArray n n2 dd dd2 sl sl2 (by simp [r1.nil_iff.mpr hx])) ⟨ho, ho2, ⟨.ref b, H, I, rfl, q0 hx⟩⟩
  · exact op_catT pins s σ H _ _ v u Q I rx ry ⟨a, b, xs, ys, rfl, rfl, ha, hb, hx, hz, q1 hx, q2 hx⟩
theorem catA_go {K : PySem.W.Frag} {H : Hp} {Q : VK} {a b : Addr} {xs ys : List V} (ha : H a = some (.tup xs)) (hb : H b = some (.tup ys)) (hz : xs.length + ys.length ≤ 1000) (q : ∀ p H', Same H H' → H' p = some (.tup (xs ++ ys)) → Q (.ref p) H') : rCatA K (.ref a) (.ref b) H Q := by
  refine ⟨a, b, xs, ys, rfl, rfl, SqT.of ha, SqT.of hb, Nat.le_of_lt (small1000 hz), fun e => q b H (Same.refl H) ?_, fun _ e => q a H (Same.refl H) ?_, fun _ _ p hp => q p _ (same_new hp _) upd_same⟩
  · rw [hb, e]
    rfl
  · rw [ha, e, List.append_nil]
end
end Sv
namespace Sv
open PySem PySem.Spec PyProof.Rows L2
structure FnM (P : Program) (w : World) (K : PySem.W.Frag) (mg : Str → Option Value) (base : Heap) (C : Addr) (m : Str) (k : Nat) (ps : List Str) (sp : Sp) : Prop where
  ex : ∃ (f : Addr) (fd : FuncData), FnOk P w K mg base CX0 k f fd ps sp ∧ Meth K C m f ∧ Binds K fd ps []
structure FnI (P : Program) (w : World) (K : PySem.W.Frag) (mg : Str → Option Value) (base : Heap) (C : Addr) (k : Nat) (ps : List Str) (sp : Sp) : Prop where
  ex : ∃ (f : Addr) (fd : FuncData), FnOk P w K mg base CX0 k f fd ps sp ∧ Mk K C f ∧ Binds K fd ps []
structure FnC (P : Program) (w : World) (K : PySem.W.Frag) (mg : Str → Option Value) (base : Heap) (C : Addr) (m : Str) (k : Nat) (ps : List Str) (sp : Sp) : Prop where
  ex : ∃ (f : Addr) (fd : FuncData), FnOk P w K mg base CX0 k f fd ps sp ∧ Binds K fd ps [] ∧ PySem.W.keepIn K (.ref f) = true ∧ PySem.W.specialIn K (.ref C) "__getattribute__" = some (some (.builtin "type.__getattribute__")) ∧
    PySem.W.readsIn K C (.type "type") = true ∧ PySem.W.findCls K (.ref C) (.type "type") m = some (.val (.ref f))
structure MDef (K : PySem.W.Frag) (C : Addr) (m qual : Str) (st : Stmt) : Prop where
  ex : ∃ (f : Addr) (fd : FuncData), Fun K m qual st f fd ∧ PySem.W.findIn K (.ref C) m = some (some (.ref f)) ∧ PySem.W.isFn K (.ref f) = true
theorem mk_mdef {K : PySem.W.Frag} {C : Addr} {m qual : Str} {st : Stmt} {f : Addr} {oc kV dc pm cd ct : Value} {od an : Option Addr} {sl : Array (Option Value)} (a : PySem.W.findIn K (.ref C) m = some (some (.ref f)))
    (l : K.lookup f = some ⟨oc, od, .func (PySem.W.fnOf m qual (defArgs st) (defBody st) (defScope st) .none kV dc pm an cd ct), sl⟩) (c : PySem.W.codeIn K cd qual = true) (k : PySem.W.keepIn K (.ref f) = true) (n : PySem.W.isFn K (.ref f) = true) : MDef K C m qual st :=
  ⟨⟨f, _, fun_mk l c k, a, n⟩⟩
section
variable {P : Program} {w : World} {K : PySem.W.Frag} {mg : Str → Option Value} {base : Heap} {C : Addr} {m qual : Str} {st : Stmt} {k : Nat} {ps : List Str} {sp : Sp}
theorem MDef.fnM (D : MDef K C m qual st) (b : ∀ (kV doc pm : Value) (an : Option Addr) (cdv ct : Value) (us : List Value), us.length = ps.length → bindArgs (PySem.W.fnOf m qual (defArgs st) (defBody st) (defScope st) .none kV doc pm an cdv ct) ⟨us, []⟩ = pure (ps.zip us))
    (ok : ∀ (f : Addr) (fd : FuncData), Fun K m qual st f fd → FnOk P w K mg base CX0 k f fd ps sp) : FnM P w K mg base C m k ps sp := by
  obtain ⟨f, fd, F, a, n⟩ := D.ex
  exact ⟨⟨f, fd, ok f fd F, ⟨a, n, F.kp⟩, F.binds b⟩⟩
theorem MDef.fnI (D : MDef K C "__init__" qual st) (mk : PySem.W.makesIn K C = true) (kp : PySem.W.keepIn K (.ref C) = true) (b : ∀ (kV doc pm : Value) (an : Option Addr) (cdv ct : Value) (us : List Value), us.length = ps.length → bindArgs (PySem.W.fnOf "__init__" qual (defArgs st) (defBody st) (defScope st) .none kV doc pm an cdv ct) ⟨us, []⟩ = pure (ps.zip us))
    (ok : ∀ (f : Addr) (fd : FuncData), Fun K "__init__" qual st f fd → FnOk P w K mg base CX0 k f fd ps sp) : FnI P w K mg base C k ps sp := by
  obtain ⟨f, fd, F, a, n⟩ := D.ex
  exact ⟨⟨f, fd, ok f fd F, ⟨mk, a, n, kp⟩, F.binds b⟩⟩
structure ClsDef (K : PySem.W.Frag) (C : Addr) (m qual : Str) (st : Stmt) : Prop where
  ex : ∃ (f : Addr) (fd : FuncData), Fun K m qual st f fd ∧ PySem.W.findCls K (.ref C) (.type "type") m = some (.val (.ref f))
  ga : PySem.W.specialIn K (.ref C) "__getattribute__" = some (some (.builtin "type.__getattribute__"))
  rd : PySem.W.readsIn K C (.type "type") = true
theorem mk_cdef {f : Addr} {oc kV dc pm cd ct : Value} {od an : Option Addr} {sl : Array (Option Value)} (a : PySem.W.findCls K (.ref C) (.type "type") m = some (.val (.ref f)))
    (l : K.lookup f = some ⟨oc, od, .func (PySem.W.fnOf m qual (defArgs st) (defBody st) (defScope st) .none kV dc pm an cd ct), sl⟩) (c : PySem.W.codeIn K cd qual = true) (k : PySem.W.keepIn K (.ref f) = true)
    (g : PySem.W.specialIn K (.ref C) "__getattribute__" = some (some (.builtin "type.__getattribute__"))) (r : PySem.W.readsIn K C (.type "type") = true) : ClsDef K C m qual st := ⟨⟨f, _, fun_mk l c k, a⟩, g, r⟩
theorem ClsDef.fnC (D : ClsDef K C m qual st) (b : ∀ (kV doc pm : Value) (an : Option Addr) (cdv ct : Value) (us : List Value), us.length = ps.length → bindArgs (PySem.W.fnOf m qual (defArgs st) (defBody st) (defScope st) .none kV doc pm an cdv ct) ⟨us, []⟩ = pure (ps.zip us))
    (ok : ∀ (f : Addr) (fd : FuncData), Fun K m qual st f fd → FnOk P w K mg base CX0 k f fd ps sp) : FnC P w K mg base C m k ps sp := by
  obtain ⟨f, fd, F, a⟩ := D.ex
  exact ⟨⟨f, fd, ok f fd F, F.binds b, F.kp, D.ga, D.rd, a⟩⟩
end
section
variable {X : Cx} {k j : Nat} {C : Addr} {ps : List Str} {sp : Sp} {x m : Str} {p pos apos : Pos} {e o : Expr} {es : List Expr} {ta : TE} {t : TA} {pl : Sem Bool}
def tMethA (P : Program) (w : World) (K : PySem.W.Frag) (mg : Str → Option Value) (base : Heap) (j : Nat) (m : Str) (ta : TE) (t : TA) : TE := fun σ H Q => ta σ H fun x H1 => ∃ (a C dx : Addr) (fs : List (Str × V)) (k : Nat) (ps : List Str) (sp : Sp),
  x = .ref a ∧ H1 a = some (.ins C dx fs) ∧ fs.lookup m = none ∧ k ≤ j ∧ Cls K C ∧ FnM P w K mg base C m k ps sp ∧ t σ H1 fun vs H2 => sp (x :: vs) H2 Q E0
theorem pe_methA (he : PE X o ta) (hr : Room j X.A) (ha : PA X (e :: es) t) (hst : starEach (e :: es) X.env = (false, eval e X.env) :: starEach es X.env := by rfl) (hpl : (backTo pos (starEach es X.env)).any (·.1) = false := by rfl)
    (ht : eval (.Call (.Attribute o m apos) (e :: es) [] pos) X.env = (do
      let ov ← eval o X.env
      standAt apos.atName
      let (f, first) ← holding [ov] (getMethod ov m pl)
      callWith pos f first (backTo pos (starEach (e :: es) X.env)) (backToKw pos (keywordEach [] X.env))) := by rfl) : PE X (.Call (.Attribute o m apos) (e :: es) [] pos) (tMethA X.prog X.w X.K X.mg X.base j m ta t) := by
  intro pins s σ H Q I h
  refine PySem.W.methodCall_KW (pl := pl) (thn (he pins s σ H _ I h) fun u s1 ⟨x, H1, I1, rx, a, C, dx, fs, k, ps, sp, ex, ea, l, hk, c, F, q⟩ => ?_) ht
  subst ex
  obtain rfl : u = Value.ref a := rx
  obtain ⟨f, fd, G, hm, b⟩ := F.ex
  refine getmeth_ok I1 ea c hm l ?_
  refine PySem.W.callWith_K (first := [.ref a]) (h₀ := X.base) I.ok.mod.kin hm.kp (thn (ha pos pins s1 σ H1 _ I1 q) fun us s2 ⟨vs, H2, I2, r, q2⟩ => ⟨I2.kIn, ?_⟩) hst hpl
  exact run_fn (us := .ref a :: us) (vs := .ref a :: vs) G (hr.mono hk) b .nil pass0 I2 (.cons rfl r) (by rw [List.append_nil]; exact q2)
theorem pe_methA0 (he : PE X o ta) (hr : Room j X.A)
    (ht : eval (.Call (.Attribute o m apos) [] [] pos) X.env = (do
      let ov ← eval o X.env
      standAt apos.atName
      let (f, first) ← holding [ov] (getMethod ov m pl)
      callWith pos f first (backTo pos (starEach [] X.env)) (backToKw pos (keywordEach [] X.env))) := by rfl) : PE X (.Call (.Attribute o m apos) [] [] pos) (tMethA X.prog X.w X.K X.mg X.base j m ta tNil) := by
  intro pins s σ H Q I h
  refine PySem.W.methodCall_KW (pl := pl) (thn (he pins s σ H _ I h) fun u s1 ⟨x, H1, I1, rx, a, C, dx, fs, k, ps, sp, ex, ea, l, hk, c, F, q⟩ => ?_) ht
  subst ex
  obtain rfl : u = Value.ref a := rx
  obtain ⟨f, fd, G, hm, b⟩ := F.ex
  refine getmeth_ok I1 ea c hm l ?_
  exact PySem.W.callWith_K0 (first := [.ref a]) I1.kIn hm.kp (run_fn (us := [.ref a]) (vs := [.ref a]) G (hr.mono hk) b .nil pass0 I1 (.cons rfl .nil) (by exact q))
theorem pe_new (F : FnI X.prog X.w X.K X.mg X.base C k ps sp) (hr : Room j X.A) (hk : k + 1 ≤ j) (hg : Gl X x) (hm : X.mg x = some (.ref C)) (ha : PA X (e :: es) t) (hdb : (x == ("__debug__" : Str)) = false := by decide)
    (he : starEach (e :: es) X.env = (false, eval e X.env) :: starEach es X.env := by rfl) (hpl : (backTo pos (starEach es X.env)).any (·.1) = false := by rfl) : PE X (.Call (.Name x p) (e :: es) [] pos) (tMake C sp [] E0 t) := by
  obtain ⟨f, fd, G, M, b⟩ := F.ex
  exact pe_make M G (hr.mono hk) hg hm b .nil pass0 ha hdb he hpl
theorem pe_cm (he : PE X o (tC (.ref C))) (F : FnC X.prog X.w X.K X.mg X.base C m k ps sp) (hr : Room j X.A) (hk : k ≤ j) (ha : PA X (e :: es) t) (hst : starEach (e :: es) X.env = (false, eval e X.env) :: starEach es X.env := by rfl) (hpl : (backTo pos (starEach es X.env)).any (·.1) = false := by rfl)
    (ht : eval (.Call (.Attribute o m apos) (e :: es) [] pos) X.env = (do
      let ov ← eval o X.env
      standAt apos.atName
      let (f, first) ← holding [ov] (getMethod ov m pl)
      callWith pos f first (backTo pos (starEach (e :: es) X.env)) (backToKw pos (keywordEach [] X.env))) := by rfl) : PE X (.Call (.Attribute o m apos) (e :: es) [] pos) (tCall sp [] E0 t) := by
  intro pins s σ H Q I h
  obtain ⟨f, fd, G, b, kp, g1, g2, g3⟩ := F.ex
  refine PySem.W.methodCall_KW (pl := pl) (thn (he pins s σ H (fun x H1 => x = .ref C ∧ H1 = H) I ⟨rfl, rfl⟩) fun u s1 ⟨x, H1, I1, rx, ex, eH⟩ => ?_) ht
  subst ex eH
  obtain rfl : u = Value.ref C := rx
  refine PySem.W.method_cls I1.kIn g1 (PySem.W.cls_value I1.kIn g2 g3 (handed_of (v := .ref f) rfl) ?_)
  have I2 := I1.tok (s1.toks + 1)
  refine PySem.W.callWith_K (first := []) (h₀ := X.base) I.ok.mod.kin kp (thn (ha pos pins _ σ H1 _ I2 h) fun us s2 ⟨vs, H2, I3, r, q2⟩ => ⟨I3.kIn, ?_⟩) hst hpl
  exact run_fn G (hr.mono hk) b .nil pass0 I3 r q2
end
section
variable {K : PySem.W.Frag} {H : Hp} {Q : VK} {σ : L2.St} {ta tv : TE} {t : TA} {f : Str} {D : Ends} {a C dx : Addr} {fs : List (Str × V)} {v y : V} {sp : Sp} {vs : List V}
def FldR (K : PySem.W.Frag) (f : Str) (x : V) (H : Hp) (Q : VK) : Prop := ∃ a C dx fs v, x = .ref a ∧ H a = some (.ins C dx fs) ∧ Cls K C ∧ NoAttr K C f ∧ fs.lookup f = some v ∧ Q v H
theorem fld_ : tFld K ta f σ H Q = ta σ H fun x H1 => FldR K f x H1 Q := rfl
theorem FldR.go (h : H a = some (.ins C dx fs)) (c : Cls K C) (n : NoAttr K C f) (l : fs.lookup f = some v) (q : Q v H) : FldR K f (.ref a) H Q := ⟨a, C, dx, fs, v, rfl, h, c, n, l, q⟩
def SFldR (K : PySem.W.Frag) (f : Str) (y x : V) (H : Hp) (R : Hp → Prop) : Prop := ∃ a C dx fs, x = .ref a ∧ H a = some (.ins C dx fs) ∧ Cls K C ∧ NoAttr K C f ∧ fs.length < 1000 ∧ R (upd H a (.ins C dx (putF f y fs)))
theorem sfld_ : sFld K ta tv f D σ H = tv σ H fun y H1 => ta σ H1 fun x H2 => SFldR K f y x H2 fun H' => D.nx σ H' := rfl
theorem SFldR.go {R : Hp → Prop} (h : H a = some (.ins C dx fs)) (c : Cls K C) (n : NoAttr K C f) (l : fs.length < 1000) (q : R (upd H a (.ins C dx (putF f y fs)))) : SFldR K f y (.ref a) H R := ⟨a, C, dx, fs, rfl, h, c, n, l, q⟩
def MakeR (C : Addr) (sp : Sp) (vs : List V) (H : Hp) (Q : VK) : Prop := ∀ x dx, H x = none → H dx = none → dx ≠ x → sp (.ref x :: vs) (upd (upd H dx (.own x)) x (.ins C dx [])) (fun v H2 => v = .non ∧ Q (.ref x) H2) E0
theorem make_ : tMake C sp [] E0 t σ H Q = t σ H fun vs H1 => MakeR C sp vs H1 Q := by
  unfold tMake MakeR
  simp only [List.append_nil]
def MethR (P : Program) (w : World) (K : PySem.W.Frag) (mg : Str → Option Value) (base : Heap) (j : Nat) (m : Str) (x : V) (t : TA) (σ : L2.St) (H : Hp) (Q : VK) : Prop := ∃ (a C dx : Addr) (fs : List (Str × V)) (k : Nat) (ps : List Str) (sp : Sp),
  x = .ref a ∧ H a = some (.ins C dx fs) ∧ fs.lookup m = none ∧ k ≤ j ∧ Cls K C ∧ FnM P w K mg base C m k ps sp ∧ t σ H fun vs H2 => sp (x :: vs) H2 Q E0
theorem methA_ {P : Program} {w : World} {mg : Str → Option Value} {base : Heap} {j : Nat} {m : Str} : tMethA P w K mg base j m ta t σ H Q = ta σ H fun x H1 => MethR P w K mg base j m x t σ H1 Q := rfl
theorem MethR.go {P : Program} {w : World} {mg : Str → Option Value} {base : Heap} {j k : Nat} {m : Str} {ps : List Str} (F : FnM P w K mg base C m k ps sp) (h : H a = some (.ins C dx fs)) (c : Cls K C) (l : fs.lookup m = none) (hk : k ≤ j) (q : t σ H fun vs H2 => sp (.ref a :: vs) H2 Q E0) : MethR P w K mg base j m (.ref a) t σ H Q :=
  ⟨a, C, dx, fs, k, ps, sp, rfl, h, l, hk, c, F, q⟩
theorem rNeB_ {i j : Bool} : rNe (.bl i) (.bl j) H Q = Q (.bl (!decide (i = j))) H := by
  have e : decide (V.bl i = V.bl j) = decide (i = j) := decide_eq_decide.mpr ⟨fun h => V.bl.inj h, fun h => by rw [h]⟩
  unfold rNe
  rw [e]
  exact propext ⟨fun h => h.2, fun h => ⟨rfl, h⟩⟩
end
end Sv
namespace Sv
open PySem PySem.Spec PyProof.Rows L2
inductive All2 {α β : Type} (R : α → β → Prop) : List α → List β → Prop where
  | nil : All2 R [] []
  | cons {x : α} {y : β} {xs : List α} {ys : List β} (h : R x y) (t : All2 R xs ys) : All2 R (x :: xs) (y :: ys)
section
variable {α β : Type} {R S : α → β → Prop} {xs us : List α} {ys vs : List β}
theorem All2.len (h : All2 R xs ys) : xs.length = ys.length := by
  induction h with
  | nil => rfl
  | cons _ _ ih => rw [List.length_cons, List.length_cons, ih]
theorem All2.at {i : Nat} {x : α} (h : All2 R xs ys) (e : xs[i]? = some x) : ∃ y, ys[i]? = some y ∧ R x y := by
  induction h generalizing i with
  | nil => cases e
  | cons h _ ih =>
    cases i with
    | zero =>
      cases e
      exact ⟨_, rfl, h⟩
    | succ i => exact ih e
end
end Sv
namespace Sv
open PySem PySem.Spec PyProof.Rows L2
section
variable {M : Model} {A : Around} {E : Value → Shared → Prop} {env : Env}
variable {nm q : Str} {C N : Addr} {bs bm : List Value} {hdct : Bool} {sn : List Str} {sub : List Value} {ab : Bool} {col : Option Bool} {dd : Option Addr} {k0 k1 k2 k3 k5 : Option Value} {newId : String}
end
section
variable {prog : Program} {w : World} {A : Around} {E : Value → Shared → Prop} {h : Heap} {g : Array GenState} {d : Drawn} {t : Nat} {os : OsState}
variable {nm q : Str} {C N : Addr} {bs bm bmB : List Value} {hdct : Bool} {sn : List Str} {sub : List Value} {ab : Bool} {col : Option Bool} {dd : Option Addr} {k0 k1 k2 k3 k5 : Option Value} {B newId initId : String}
end
section
variable {prog : Program} {w : World} {A : Around} {E : Value → Shared → Prop} {s : Shared} {env : Env}
variable {nm q : Str} {C N : Addr} {bs bm bmB : List Value} {hdct : Bool} {sn : List Str} {sub : List Value} {ab : Bool} {col : Option Bool} {dd : Option Addr} {k0 k1 k2 k3 k5 : Option Value} {B newId initId : String}
end
end Sv
namespace Sv
open PySem PySem.Spec PyProof.Rows L2 PySem.W Builtin Builtin.ObjectAttr
section
variable {K : PySem.W.Frag} {prog : Program} {w : World} {A : Around} {E : Value → Shared → Prop} {s : Shared} {x C : Addr} {name : Str} {v : Value}
end
end Sv
namespace Sv
open PySem PySem.Spec PyProof.Rows L2
section
variable {prog : Program} {w : World} {A : Around} {E : Value → Shared → Prop} {K : PySem.W.Frag} {x D : Addr} {ox : Obj} {odo : Option Obj} {name : Str} {s : Shared}
end
def IsExc (H : Hp) (a C : Addr) (dd : Option Addr) : Prop := ∃ φ, H a = some (.ext φ) ∧ ∀ h, φ h → ∃ (vs : Array Value) (sl : Array (Option Value)), h.get? a = some ⟨.ref C, dd, .fields vs, sl⟩
theorem IsExc.of {H : Hp} {a C : Addr} {dd : Option Addr} (h : H a = some (excO a (.ref C) dd)) : IsExc H a C dd := ⟨_, h, fun _ z => z⟩
section
variable {X : Cx} {e : Expr} {ta : TE} {f : Str} {pos : Pos}
end
end Sv
namespace Sv
open PySem PySem.Spec PyProof.Rows L2
section
variable {prog : Program} {w : World} {A : Around} {E : Value → Shared → Prop} {h : Heap} {g : Array GenState} {d : Drawn} {t : Nat} {os : OsState}
variable {nm q : Str} {C N : Addr} {bs bm bmB : List Value} {hdct : Bool} {sn : List Str} {sub : List Value} {ab : Bool} {col : Option Bool} {dd : Option Addr} {k0 k1 k2 k3 k5 : Option Value} {B newId nid initId : String}
end
def exN (a C : Addr) (dd : Option Addr) : HO := .ext fun h => ∃ (vs : Array Value) (sl : Array (Option Value)) (t0 : Addr), h.get? a = some ⟨.ref C, dd, .fields vs, sl⟩ ∧ vs[0]? = some (.ref t0) ∧ vs[1]? = some .none ∧ vs[2]? = some .none ∧ 4 < vs.size
theorem IsExc.new {H : Hp} {a C : Addr} {dd : Option Addr} (h : H a = some (exN a C dd)) : IsExc H a C dd := ⟨_, h, fun _ ⟨vs, sl, _, q, _⟩ => ⟨vs, sl, q⟩⟩
section
variable {X : Cx} {o value : Expr} {f : Str} {ta tv : TE} {pos pos' : Pos}
end
end Sv
namespace Sv
open PySem PySem.Spec PyProof.Rows L2
section
variable {X : Cx} {C0 : Addr} {pos apos : Pos} {e o : Expr} {es : List Expr} {t : TA} {pl : Sem Bool}
end
end Sv
namespace L2
open PySem PySem.Spec PyProof.Rows
section
variable {κ : Type} [DecidableEq κ]
def valV (kvs : List (κ × V)) (k : κ) : Option V := (kvs.find? fun kv => decide (kv.1 = k)).map (·.2)
def putK (kvs : List (κ × V)) (k : κ) (v : V) : List (κ × V) :=
  if (kvs.any fun kv => decide (kv.1 = k)) = true then kvs.map (fun kv => if kv.1 = k then (kv.1, v) else kv) else kvs ++ [(k, v)]
theorem RelO.getD {o : Option V} {u : Option Value} {d : V} {d' : Value} (r : RelO o u) (rd : RelV d d') : RelV (o.getD d) (u.getD d') := by
  cases o with
  | none => cases u with
    | none => exact rd
    | some _ => exact (show False from r).elim
  | some _ => cases u with
    | none => exact (show False from r).elim
    | some _ => exact r
theorem KV.any {kvs : List (κ × V)} {vs : List (κ × Value)} (r : KV kvs vs) (k : κ) : (kvs.any fun kv => decide (kv.1 = k)) = vs.any fun kv => decide (kv.1 = k) := by
  unfold KV at r
  induction r with
  | nil => rfl
  | cons h t ih => rw [List.any_cons, List.any_cons, ih, h.1]
theorem KV.length {kvs : List (κ × V)} {vs : List (κ × Value)} (r : KV kvs vs) : kvs.length = vs.length := Paired.length r
end
section
variable {P : Program} {w : World} {H : Hp} {h : Heap} {a : Addr}
end
def DGet (H : Hp) (a : Addr) (y : V) (r : Option V) : Prop :=
  (∃ kvs k, Rd H a (.dK kvs) ∧ y = kV k ∧ r = valV kvs k) ∨ ∃ kvs k b, Rd H a (.dT kvs) ∧ y = .ref b ∧ H b = some (.tup (k.map kV)) ∧ r = valV kvs k
def DPut (H : Hp) (a : Addr) (y v : V) (H' : Hp) : Prop :=
  (∃ kvs k, H a = some (.dK kvs) ∧ y = kV k ∧ kvs.length < sizeLine ∧ H' = upd H a (.dK (putK kvs k v))) ∨
  ∃ kvs k b, H a = some (.dT kvs) ∧ y = .ref b ∧ H b = some (.tup (k.map kV)) ∧ kvs.length < sizeLine ∧ H' = upd H a (.dT (putK kvs k v))
theorem DGet.k {H : Hp} {a : Addr} {kvs : List (Key × V)} {k : Key} (e : H a = some (.dK kvs)) : DGet H a (kV k) (valV kvs k) := .inl ⟨kvs, k, .inl e, rfl, rfl⟩
theorem DGet.t {H : Hp} {a b : Addr} {kvs : List (List Key × V)} {k : List Key} (e : H a = some (.dT kvs)) (eb : H b = some (.tup (k.map kV))) : DGet H a (.ref b) (valV kvs k) := .inr ⟨kvs, k, b, .inl e, rfl, eb, rfl⟩
theorem DPut.k {H : Hp} {a : Addr} {kvs : List (Key × V)} {k : Key} {v : V} (e : H a = some (.dK kvs)) (hl : kvs.length < sizeLine) : DPut H a (kV k) v (upd H a (.dK (putK kvs k v))) := .inl ⟨kvs, k, e, rfl, hl, rfl⟩
theorem DPut.t {H : Hp} {a b : Addr} {kvs : List (List Key × V)} {k : List Key} {v : V} (e : H a = some (.dT kvs)) (eb : H b = some (.tup (k.map kV))) (hl : kvs.length < sizeLine) :
    DPut H a (.ref b) v (upd H a (.dT (putK kvs k v))) := .inr ⟨kvs, k, b, e, rfl, eb, hl, rfl⟩
section
variable {X : Cx} {pins : List (Addr × Obj)} {σ : St} {H : Hp} {s : Shared} {a : Addr} {y v : V} {u r : Value} {o : Option V} {A : Around} {E : Value → Shared → Prop}
end
section
variable {X : Cx} {pins : List (Addr × Obj)} {σ : St} {H : Hp} {s : Shared} {a : Addr} {kvs : List (Key × V)} {k : Key} {u : Value} {A : Around} {E : Value → Shared → Prop}
end
section
variable {X : Cx} {o i e value : Expr} {pos pos' tpos : Pos} {td ty tv : TE}
end
section
variable {X : Cx} {pos : Pos}
end
section
variable {X : Cx} {pins : List (Addr × Obj)} {σ : St} {H : Hp} {s : Shared} {a : Addr} {y d : V} {u r : Value} {o : Option V} {A : Around} {E : Value → Shared → Prop}
end
section
variable {X : Cx} {o e f : Expr} {apos cpos : Pos} {td ty tx : TE}
end
section
variable {X : Cx} {pins : List (Addr × Obj)} {σ : St} {H : Hp} {s : Shared} {a : Addr} {kvs : List (Key × V)} {A : Around} {E : Value → Shared → Prop}
end
section
variable {X : Cx} {pins : List (Addr × Obj)} {σ : St} {H : Hp} {s : Shared} {a : Addr} {y : V} {u : Value} {A : Around} {E : Value → Shared → Prop}
end
end L2
namespace L2
open PySem PySem.Spec PyProof.Rows
section
variable {X : Cx}
end
section
variable {κ : Type} [DecidableEq κ]
end
end L2
namespace Sv
open PySem PySem.Spec PyProof.Rows L2
section
variable {X : Cx} {tg : Expr}
end
end Sv
namespace Sv
open PySem PySem.Spec PyProof.Rows L2
section
variable {X : Cx} {K : PySem.W.Frag}
def InR (K : PySem.W.Frag) (neg : Bool) : R2 := rIn K neg
theorem op_inL (hK : X.K = K) : OpR X (compareOp .In) (InR K false) := by
  subst hK
  exact op_in_seq
end
section
variable {td ty tv : TE} {σ : L2.St} {H : Hp} {Q : VK} {D : Ends} {x y v : V} {d : Addr} {z : Str} {ps : List (Str × V)}
def Dk (ps : List (Str × V)) : List (Key × V) := ps.map fun p => (.inr p.1, p.2)
def DicS (H : Hp) (d : Addr) (ps : List (Str × V)) : Prop := Rd H d (.dK (Dk ps))
theorem DicS.ne {a : Addr} {xs : List V} (h : DicS H d ps) (e : H a = some (.lst xs)) : a ≠ d := fun c => by
  subst c
  rcases h with h | ⟨o, h⟩ <;> rw [e] at h <;> cases h
end
end Sv
namespace Sv
open PySem PySem.Spec PyProof PyProof.Rows L2
section
variable {H : Hp} {Q : VK} {z : Str} {k j : Nat}
end
end Sv
namespace Sv
open PySem PySem.Spec PyProof.Rows L2
section
variable {X : Cx}
end
section
variable {K : PySem.W.Frag} {H : Hp} {R : It → Hp → Prop} {a b : Addr} {xs ys : List V}
end
end Sv
namespace Sv
open PySem PySem.Spec PyProof.Rows L2
section
variable {X : Cx} {k j : Nat} {C : Addr} {ps : List Str} {sp : Sp} {m : Str} {pos apos : Pos} {e o : Expr} {es : List Expr} {ta : TE} {t : TA} {pl : Sem Bool}
end
section
variable {K : PySem.W.Frag} {ta tv : TE} {t : TA} {f : Str} {D : Ends} {σ : L2.St} {H : Hp} {Q : VK} {C : Addr} {sp : Sp} {E : XK}
def FmtR (x : V) (H1 : Hp) (Q : VK) : Prop := (∃ y, x = .str y ∧ y.length ≤ sizeLine ∧ Q (.str y) H1) ∨ ∃ i : Int, x = .int i ∧ i.natAbs.log2 < 1920 ∧ Q (.str (toString i)) H1
theorem FmtR.str {y : Str} (h : y.length ≤ 1000) (q : Q (.str y) H) : FmtR (.str y) H Q := .inl ⟨y, rfl, Nat.le_of_lt (small1000 h), q⟩
end
end Sv
namespace Sv
open PySem PySem.Spec PyProof.Rows L2
section
variable {prog : Program} {w : World} {A : Around} {E : Value → Shared → Prop} {s : Shared} {r : Addr}
variable {it l S : Addr} {items : Array Value}
end
section
variable {X : Cx} {e a b : Expr} {t : TA} {p p2 pos pos2 : Pos}
end
def IfR (b : Bool) (ta tb : TE) (σ : L2.St) (H : Hp) (Q : VK) : Prop := if b = true then ta σ H Q else tb σ H Q
section
variable {t : TT} {ta tb : TE} {σ : L2.St} {H : Hp} {Q : VK}
theorem ifx_ : tIf t ta tb σ H Q = t σ H fun c H1 => IfR c ta tb σ H1 Q := rfl
theorem ifR_t : IfR true ta tb σ H Q = ta σ H Q := rfl
theorem ifR_f : IfR false ta tb σ H Q = tb σ H Q := rfl
theorem IfR.dec {p : Prop} [Decidable p] (h1 : p → ta σ H Q) (h2 : ¬p → tb σ H Q) : IfR (decide p) ta tb σ H Q := by
  by_cases h : p
  · rw [decide_eq_true h]
    exact h1 h
  · rw [decide_eq_false h]
    exact h2 h
end
end Sv
namespace Sv
open PySem PySem.Spec PyProof.Rows L2
theorem Vals.drop_ {xs : List V} {us : List Value} (h : Vals xs us) (k : Nat) : Vals (xs.drop k) (us.drop k) := by
  induction h generalizing k with
  | nil => rw [List.drop_nil, List.drop_nil]; exact .nil
  | cons r t ih =>
    cases k with
    | zero => exact .cons r t
    | succ k => exact ih k
theorem gtup3 {K : PySem.W.Frag} {a : Addr} {x y z : V} {i j k : Nat} {σ : L2.St} {H : Hp} {R : L2.St → Hp → Prop} (h : SqT K H a [x, y, z]) (q : R (((σ.set i (some x)).set j (some y)).set k (some z)) H) :
    gTup K 3 (gCons (gName i) (gCons (gName j) (gCons (gName k) gNil))) (.ref a) σ H R := ⟨a, _, rfl, h, rfl, _, _, rfl, _, _, rfl, _, _, rfl, rfl, q⟩
end Sv
namespace Sv
open PySem PySem.Spec PyProof.Rows L2
section
variable {X : Cx}
end
section
variable {K : PySem.W.Frag} {H : Hp} {R : It → Hp → Prop} {a : Addr} {xs : List V}
end
end Sv
namespace Sv
open PySem PySem.Spec PyProof.Rows L2
end Sv
namespace Sv
open PySem PySem.Spec PyProof.Rows L2
end Sv
local macro_rules | `(tactic| walk_at "sv") => `(tactic| try simp only [List.map_cons, List.map_nil, List.getD_cons_zero, List.getD_cons_succ, Sv.seq_, Sv.ifx_, Sv.ifR_t, Sv.ifR_f, Sv.comp_, Sv.yes_, Sv.itup_, Sv.gsub_, Sv.vals_, Sv.asnx_, Sv.asrt_, Sv.next_, Sv.ret_, Sv.drop_, Sv.ifS_, Sv.asg_, Sv.gname_, Sv.var_, Sv.ex_, Sv.exb_, Sv.c_, Sv.op_, Sv.test_, Sv.tB_, Sv.and_, Sv.or_, Sv.not_, Sv.rI0_, Sv.ilist_, Sv.cxK2, Sv.rI_, Sv.rEqI_, Sv.rNeI_, Sv.rEqS_, Sv.rNeS_, Sv.nil_, Sv.cons_, Sv.tup_, Sv.lst_, Sv.call_, Sv.cb_, Sv.for_, Sv.rng1_, Sv.rngS_, Sv.fld_, Sv.sfld_, Sv.make_, Sv.methA_, Sv.rNeB_, Sv.rEqB_, Sv.max_, Sv.min_, Sv.bm0_, Sv.bm_, Sv.tyInt_, Sv.tyStr_, Sv.bits_, Sv.cxK, Sv.brS_t, Sv.brS_f, Sv.brA_t, Sv.brA_f, Sv.brO_t, Sv.brO_f, Bool.not_true, Bool.not_false, true_and, eq_self, decide_true, decide_false, if_true, if_false, Bool.false_eq_true,  List.getElem?_cons_zero, List.getElem?_cons_succ, List.set_cons_zero, List.set_cons_succ])
local macro_rules | `(tactic| walk_at "svn") => `(tactic| try simp only [List.map_cons, List.map_nil, List.getD_cons_zero, List.getD_cons_succ, Sv.seq_, Sv.ifx_, Sv.ifR_t, Sv.ifR_f, Sv.comp_, Sv.yes_, Sv.itup_, Sv.gsub_, Sv.vals_, Sv.asnx_, Sv.asrt_, Sv.next_, Sv.ret_, Sv.drop_, Sv.ifS_, Sv.asg_, Sv.gname_, Sv.var_, Sv.ex_, Sv.exb_, Sv.c_, Sv.op_, Sv.test_, Sv.tB_, Sv.and_, Sv.or_, Sv.not_, Sv.rI0_, Sv.ilist_, Sv.cxK2, Int.reduceEq, Sv.rI_, Sv.rEqI_, Sv.rNeI_, Sv.rEqS_, Sv.rNeS_, Sv.nil_, Sv.cons_, Sv.tup_, Sv.lst_, Sv.call_, Sv.cb_, Sv.for_, Sv.rng1_, Sv.rngS_, Sv.fld_, Sv.sfld_, Sv.make_, Sv.methA_, Sv.rNeB_, Sv.rEqB_, Sv.max_, Sv.min_, Sv.bm0_, Sv.bm_, Sv.tyInt_, Sv.tyStr_, Sv.bits_, Sv.cxK, Sv.brS_t, Sv.brS_f, Sv.brA_t, Sv.brA_f, Sv.brO_t, Sv.brO_f, Bool.not_true, Bool.not_false, true_and, eq_self, decide_true, decide_false, if_true, if_false, Bool.false_eq_true,  List.getElem?_cons_zero, List.getElem?_cons_succ, List.set_cons_zero, List.set_cons_succ])
local macro_rules | `(tactic| walk_at "ix") => `(tactic| repeat (first | refine Sv.ixT_go (i := 0) (L2.SqT.of (by assumption)) rfl ?_ | refine Sv.ixT_go (i := 1) (L2.SqT.of (by assumption)) rfl ?_ | simp only [Int.zero_add, List.map_cons, List.map_nil, List.getD_cons_zero, List.getD_cons_succ, Sv.seq_, Sv.ifx_, Sv.ifR_t, Sv.ifR_f, Sv.comp_, Sv.yes_, Sv.itup_, Sv.gsub_, Sv.vals_, Sv.asnx_, Sv.asrt_, Sv.next_, Sv.ret_, Sv.drop_, Sv.ifS_, Sv.asg_, Sv.gname_, Sv.var_, Sv.ex_, Sv.exb_, Sv.c_, Sv.op_, Sv.test_, Sv.tB_, Sv.and_, Sv.or_, Sv.not_, Sv.rI0_, Sv.ilist_, Sv.cxK2, Sv.rI_, Sv.rEqI_, Sv.rNeI_, Sv.rEqS_, Sv.rNeS_, Sv.nil_, Sv.cons_, Sv.tup_, Sv.lst_, Sv.call_, Sv.cb_, Sv.for_, Sv.rng1_, Sv.rngS_, Sv.fld_, Sv.sfld_, Sv.make_, Sv.methA_, Sv.rNeB_, Sv.rEqB_, Sv.max_, Sv.min_, Sv.bm0_, Sv.bm_, Sv.tyInt_, Sv.tyStr_, Sv.bits_, Sv.cxK, Sv.brS_t, Sv.brS_f, Sv.brA_t, Sv.brA_f, Sv.brO_t, Sv.brO_f, Bool.not_true, Bool.not_false, true_and, eq_self, decide_true, decide_false, if_true, if_false, Bool.false_eq_true,  List.getElem?_cons_zero, List.getElem?_cons_succ, List.set_cons_zero, List.set_cons_succ]))
namespace K14
open PySem PySem.Spec PyProof.Rows L2 Sv
section
variable {P : Program} {w : World} {K : PySem.W.Frag} {mg : Str → Option Value} {base : Heap} {f : Addr} {fd : FuncData}
def top (i : Nat) : Stmt := PySem.Challenge.pw_sieve_k14_a_rule_shown.main.body.getD i (.Pass ⟨0, 0, 0, 0⟩)
abbrev s_show_address : Stmt := top 4
theorem st_show_address {v0 : V} : start ["address"] [v0] = [some v0] := rfl
theorem sc_show_address : FnScope ["address"] ["address"] (defScope s_show_address) := ⟨rfl, rfl, rfl, by decide +kernel, rfl, by decide +kernel, by decide +kernel⟩
abbrev s_beginning : Stmt := top 8
theorem st_beginning {v0 v1 : V} : start ["address", "bits", "free_bits", "high"] [v0, v1] = [some v0, some v1, none, none] := rfl
theorem sc_beginning : FnScope ["address", "bits", "free_bits", "high"] ["address", "bits"] (defScope s_beginning) := ⟨rfl, rfl, rfl, by decide +kernel, rfl, by decide +kernel, by decide +kernel⟩
abbrev s_shared : Stmt := top 9
theorem st_shared {v0 v1 : V} : start ["one", "other"] [v0, v1] = [some v0, some v1] := rfl
theorem sc_shared : FnScope ["one", "other"] ["one", "other"] (defScope s_shared) := ⟨rfl, rfl, rfl, by decide +kernel, rfl, by decide +kernel, by decide +kernel⟩
abbrev s_bits_of : Stmt := top 10
theorem st_bits_of {v0 v1 : V} : start ["low", "high", "bits"] [v0, v1] = [some v0, some v1, none] := rfl
theorem sc_bits_of : FnScope ["low", "high", "bits"] ["low", "high"] (defScope s_bits_of) := ⟨rfl, rfl, rfl, by decide +kernel, rfl, by decide +kernel, by decide +kernel⟩
abbrev s_every : Stmt := top 15
theorem st_every : start ["addresses", "doors"] [] = [none, none] := rfl
theorem sc_every : FnScope ["addresses", "doors"] [] (defScope s_every) := ⟨rfl, rfl, rfl, by decide +kernel, rfl, by decide +kernel, by decide +kernel⟩
abbrev s_Rule___init__ : Stmt := inClass (top 16) 0
theorem st_Rule___init__ {v0 v1 : V} : start ["self", "box"] [v0, v1] = [some v0, some v1] := rfl
theorem sc_Rule___init__ : FnScope ["self", "box"] ["self", "box"] (defScope s_Rule___init__) := ⟨rfl, rfl, rfl, by decide +kernel, rfl, by decide +kernel, by decide +kernel⟩
abbrev s_Word___init__ : Stmt := inClass (top 17) 0
theorem st_Word___init__ {v0 v1 v2 : V} : start ["self", "box", "word"] [v0, v1, v2] = [some v0, some v1, some v2] := rfl
theorem sc_Word___init__ : FnScope ["self", "box", "word"] ["self", "box", "word"] (defScope s_Word___init__) := ⟨rfl, rfl, rfl, by decide +kernel, rfl, by decide +kernel, by decide +kernel⟩
abbrev s_Word_told : Stmt := inClass (top 17) 1
theorem sc_Word_told : FnScope ["self"] ["self"] (defScope s_Word_told) := ⟨rfl, rfl, rfl, by decide +kernel, rfl, by decide +kernel, by decide +kernel⟩
abbrev s_Word_head : Stmt := inClass (top 17) 2
theorem st_Word_head {v0 : V} : start ["self"] [v0] = [some v0] := rfl
theorem sc_Word_head : FnScope ["self"] ["self"] (defScope s_Word_head) := ⟨rfl, rfl, rfl, by decide +kernel, rfl, by decide +kernel, by decide +kernel⟩
abbrev s_Back_head : Stmt := inClass (top 18) 1
theorem st_Back_head {v0 : V} : start ["self"] [v0] = [some v0] := rfl
theorem sc_Back_head : FnScope ["self"] ["self"] (defScope s_Back_head) := ⟨rfl, rfl, rfl, by decide +kernel, rfl, by decide +kernel, by decide +kernel⟩
abbrev s_Call___init__ : Stmt := inClass (top 19) 0
theorem st_Call___init__ {v0 v1 v2 : V} : start ["self", "box", "name"] [v0, v1, v2] = [some v0, some v1, some v2] := rfl
theorem sc_Call___init__ : FnScope ["self", "box", "name"] ["self", "box", "name"] (defScope s_Call___init__) := ⟨rfl, rfl, rfl, by decide +kernel, rfl, by decide +kernel, by decide +kernel⟩
abbrev s_Call_head : Stmt := inClass (top 19) 2
theorem st_Call_head {v0 : V} : start ["self"] [v0] = [some v0] := rfl
theorem sc_Call_head : FnScope ["self"] ["self"] (defScope s_Call_head) := ⟨rfl, rfl, rfl, by decide +kernel, rfl, by decide +kernel, by decide +kernel⟩
abbrev s_rule_of : Stmt := top 20
theorem st_rule_of {v0 : V} : start ["told"] [v0] = [some v0] := rfl
theorem sc_rule_of : FnScope ["told"] ["told"] (defScope s_rule_of) := ⟨rfl, rfl, rfl, by decide +kernel, rfl, by decide +kernel, by decide +kernel⟩
abbrev s_show_ends : Stmt := top 24
theorem st_show_ends {v0 v1 : V} : start ["stretch", "show_end"] [v0, v1] = [some v0, some v1] := rfl
theorem sc_show_ends : FnScope ["stretch", "show_end"] ["stretch", "show_end"] (defScope s_show_ends) := ⟨rfl, rfl, rfl, by decide +kernel, rfl, by decide +kernel, by decide +kernel⟩
abbrev s_show_numbers : Stmt := top 25
theorem st_show_numbers {v0 : V} : start ["stretch"] [v0] = [some v0] := rfl
theorem sc_show_numbers : FnScope ["stretch"] ["stretch"] (defScope s_show_numbers) := ⟨rfl, rfl, rfl, by decide +kernel, rfl, by decide +kernel, by decide +kernel⟩
abbrev s_show_addresses : Stmt := top 26
theorem st_show_addresses {v0 : V} : start ["stretch", "bits"] [v0] = [some v0, none] := rfl
theorem sc_show_addresses : FnScope ["stretch", "bits"] ["stretch"] (defScope s_show_addresses) := ⟨rfl, rfl, rfl, by decide +kernel, rfl, by decide +kernel, by decide +kernel⟩
abbrev s_show_rule : Stmt := top 27
theorem st_show_rule {v0 : V} : start ["told", "words", "word", "stretch", "whole"] [v0] = [some v0, none, none, none, none] := rfl
theorem sc_show_rule : FnScope ["told", "words", "word", "stretch", "whole"] ["told"] (defScope s_show_rule) := ⟨rfl, rfl, rfl, by decide +kernel, rfl, by decide +kernel, by decide +kernel⟩
abbrev s__law_cell_at : Stmt := top 29
theorem st__law_cell_at {v0 v1 : V} : start ["_law_script", "_law_k"] [v0, v1] = [some v0, some v1] := rfl
theorem sc__law_cell_at : FnScope ["_law_script", "_law_k"] ["_law_script", "_law_k"] (defScope s__law_cell_at) := ⟨rfl, rfl, rfl, by decide +kernel, rfl, by decide +kernel, by decide +kernel⟩
abbrev s__law_stream : Stmt := top 30
theorem st__law_stream {v0 v1 : V} : start ["_law_cell", "_law_many", "_law_found", "_law_number", "_law_k"] [v0, v1] = [some v0, some v1, none, none, none] := rfl
theorem sc__law_stream : FnScope ["_law_cell", "_law_many", "_law_found", "_law_number", "_law_k"] ["_law_cell", "_law_many"] (defScope s__law_stream) := ⟨rfl, rfl, rfl, by decide +kernel, rfl, by decide +kernel, by decide +kernel⟩
abbrev s__law_stretch : Stmt := top 31
theorem st__law_stretch {v0 v1 v2 v3 : V} : start ["_law_top", "_law_way", "_law_a", "_law_b", "_law_x", "_law_y", "_law_size"] [v0, v1, v2, v3] = [some v0, some v1, some v2, some v3, none, none, none] := rfl
theorem sc__law_stretch : FnScope ["_law_top", "_law_way", "_law_a", "_law_b", "_law_x", "_law_y", "_law_size"] ["_law_top", "_law_way", "_law_a", "_law_b"] (defScope s__law_stretch) := ⟨rfl, rfl, rfl, by decide +kernel, rfl, by decide +kernel, by decide +kernel⟩
abbrev s__law_box : Stmt := top 32
theorem st__law_box {v0 v1 : V} : start ["_law_cell", "_law_more", "_law_draws", "_law_tops", "_law_box_here", "_law_k"] [v0, v1] = [some v0, some v1, none, none, none, none] := rfl
theorem sc__law_box : FnScope ["_law_cell", "_law_more", "_law_draws", "_law_tops", "_law_box_here", "_law_k"] ["_law_cell", "_law_more"] (defScope s__law_box) := ⟨rfl, rfl, rfl, by decide +kernel, rfl, by decide +kernel, by decide +kernel⟩
abbrev s__law_name : Stmt := top 33
theorem st__law_name {v0 : V} : start ["_law_cell", "_law_words", "_law_letters"] [v0] = [some v0, none, none] := rfl
theorem sc__law_name : FnScope ["_law_cell", "_law_words", "_law_letters"] ["_law_cell"] (defScope s__law_name) := ⟨rfl, rfl, rfl, by decide +kernel, rfl, by decide +kernel, by decide +kernel⟩
abbrev s__law_address : Stmt := top 34
theorem st__law_address {v0 : V} : start ["_law_number", "_law_words", "_law_size"] [v0] = [some v0, none, none] := rfl
theorem sc__law_address : FnScope ["_law_number", "_law_words", "_law_size"] ["_law_number"] (defScope s__law_address) := ⟨rfl, rfl, rfl, by decide +kernel, rfl, by decide +kernel, by decide +kernel⟩
abbrev s__law_word : Stmt := top 35
theorem st__law_word {v0 v1 v2 : V} : start ["_law_key", "_law_low", "_law_high", "_law_bits", "_law_size"] [v0, v1, v2] = [some v0, some v1, some v2, none, none] := rfl
theorem sc__law_word : FnScope ["_law_key", "_law_low", "_law_high", "_law_bits", "_law_size"] ["_law_key", "_law_low", "_law_high"] (defScope s__law_word) := ⟨rfl, rfl, rfl, by decide +kernel, rfl, by decide +kernel, by decide +kernel⟩
abbrev s__law_due : Stmt := top 36
theorem st__law_due {v0 : V} : start ["_law_rule", "_law_words", "_law_tops", "_law_keys", "_law_k", "_law_low", "_law_high"] [v0] = [some v0, none, none, none, none, none, none] := rfl
theorem sc__law_due : FnScope ["_law_rule", "_law_words", "_law_tops", "_law_keys", "_law_k", "_law_low", "_law_high"] ["_law_rule"] (defScope s__law_due) := ⟨rfl, rfl, rfl, by decide +kernel, rfl, by decide +kernel, by decide +kernel⟩
abbrev s_law : Stmt := top 37
theorem st_law {v0 : V} : start ["_law_script", "_law_k", "_law_cell", "_law_box_here", "_law_rule", "_law_found"] [v0] = [some v0, none, none, none, none, none] := rfl
theorem sc_law : FnScope ["_law_script", "_law_k", "_law_cell", "_law_box_here", "_law_rule", "_law_found"] ["_law_script"] (defScope s_law) := ⟨rfl, rfl, rfl, by decide +kernel, rfl, by decide +kernel, by decide +kernel⟩
section
open PySem PySem.Spec PyProof.Rows L2
def tabO (P : Addr) (ps : Array Value) : HO := .ext fun h => h.get? P = some (PySem.W.tabObj ps)
def codO (c : Addr) (q : Str) : HO := .ext fun h => h.CodeRec (.ref c) q
def lamO (f : Addr) (o : Obj) : HO := .ext fun h => h.get? f = some o
section
variable {P : Program} {w : World} {H : Hp} {h : Heap} {a : Addr}
theorem tabO_ok {ps : Array Value} (e : h.get? a = some (PySem.W.tabObj ps)) : ObjOk P w H h a (tabO a ps) := ⟨e, ⟨_, e⟩, fun _ _ q k => k _ q⟩
theorem lamO_ok {o : Obj} (e : h.get? a = some o) : ObjOk P w H h a (lamO a o) := ⟨e, ⟨_, e⟩, fun _ _ q k => k _ q⟩
theorem codO_ok {q : Str} (e : h.CodeRec (.ref a) q) : ObjOk P w H h a (codO a q) := by
  obtain ⟨c, o, vs, t, ec, ho, hd, hv⟩ := e
  cases ec
  exact ⟨⟨_, _, _, _, rfl, ho, hd, hv⟩, ⟨_, ho⟩, fun _ _ ⟨c, o, vs, t, ec, ho, hd, hv⟩ k => by
    cases ec
    exact ⟨_, _, _, _, rfl, k _ ho, hd, hv⟩⟩
end
def LamObj (qual : Str) (params : Arguments) (body : Expr) (scope : Scope) (c' : Addr) (o : Obj) : Prop := ∃ pm ctv, o = PySem.W.kla_obj "<lambda>" qual params body scope [] pm c' ctv
def tLam (P : Addr) (pos : Pos) (qual : Str) (params : Arguments) (body : Expr) (scope : Scope) : TE := fun _ H Q => ∃ ps, H P = some (tabO P ps) ∧ TriplesOk ps.toList ∧
  ((codeAmong pos ps.toList = none ∧ ∀ f c' o, H f = none → H c' = none → f ≠ c' → LamObj qual params body scope c' o → Q (.ref f) (upd (upd (upd H P (tabO P (ps ++ #[rawInt pos.line, rawInt pos.col, .ref c']))) c' (codO c' qual)) f (lamO f o))) ∨
   ∃ c', codeAmong pos ps.toList = some (.ref c') ∧ ∀ f o, H f = none → LamObj qual params body scope c' o → Q (.ref f) (upd H f (lamO f o)))
def BltAt (mg : Str → Option Value) (base : Heap) : Prop := ∃ bm o, mg "__builtins__" = some (.ref bm) ∧ bm ≠ builtinsNs ∧ bm ≠ mainGlobals ∧ base.get? bm = some o ∧ o.cls = .type "module" ∧ o.dict = some builtinsNs ∧ o.data = .plain
theorem pe_lam {X : Cx} {P c : Addr} {params : Arguments} {body : Expr} {scope : Scope} {pos : Pos} (hcode : X.env.code = .ref c) (hT : ∀ h, X.K.In h → PySem.W.CodeHd h c P) (hB : BltAt X.mg X.base) (hcl : closureFor scope X.env = pure []) (hdf : defaultsOf params X.env = ([], []) := by rfl) :
    PE X (.Lambda params body scope pos) (tLam P pos (X.env.qual ++ "<lambda>") params body scope) := by
  intro pins s σ H Q I h
  obtain ⟨ps, hP, tr, h⟩ := h
  obtain ⟨hPt, _, _⟩ := (show ObjOk X.prog X.w H s.heap P (tabO P ps) from I.hok P _ hP)
  have hns : s.heap.Ns mainGlobals X.mg := I.ok.mod.2.keeps I.bk
  have neM : mainGlobals ≠ P := fun z => by
    obtain ⟨o, es, ep, ho, hd, _⟩ := hns
    rw [z] at ho
    rw [show s.heap.get? P = some (PySem.W.tabObj ps) from hPt] at ho
    cases ho
    cases hd
  have blt : s.heap.BuiltinsAt X.mg P := by
    obtain ⟨bm, o, e1, n1, n2, ho, r⟩ := hB
    have hb := I.bk _ _ ho
    refine ⟨bm, o, e1, n1, n2, fun z => ?_, hb, r⟩
    rw [z, show s.heap.get? P = some (PySem.W.tabObj ps) from hPt] at hb
    cases hb
    cases r.1
  refine PySem.W.kla_eval hdf ?_
  rcases h with ⟨cn, h⟩ | ⟨c', cs, h⟩
  · refine PySem.W.kla_makeFunction hcl I.ok.glob hns hcode (hT _ I.kIn) hPt tr cn neM blt fun c' ctv h' tk ext le lt rec hP' => ?_
    have fr : ∀ b, s.heap.objs.size ≤ b → H b = none := fun b hb => I.hok.fresh hb
    have lh : s.heap.objs.size ≤ h'.objs.size := Nat.le_trans le (Nat.le_of_lt lt)
    have nc : H c' = none := fr c' le
    have nf : H h'.objs.size = none := fr _ lh
    have cf : h'.objs.size ≠ c' := Nat.ne_of_gt lt
    have old : ∀ b u, s.heap.get? b = some u → b ≠ c' ∧ b ≠ h'.objs.size := fun b u e => ⟨Nat.ne_of_lt (Nat.lt_of_lt_of_le (Heap.lt_size e) le), Nat.ne_of_lt (Nat.lt_of_lt_of_le (Heap.lt_size e) lh)⟩
    have trk : ∀ b u, H b = some u → b ≠ c' ∧ b ≠ h'.objs.size := fun b u e => ⟨ne_of_none e nc, ne_of_none e nf⟩
    have Pc : P ≠ c' ∧ P ≠ h'.objs.size := trk P _ hP
    generalize eo : PySem.W.kla_obj "<lambda>" (X.env.qual ++ "<lambda>") params body scope [] ((X.mg "__name__").getD .none) c' ctv = o
    have kp : ∀ b u, b ≠ P → s.heap.get? b = some u → (h'.push o).get? b = some u := fun b u hb e => Heap.get?_push_of_some _ (ext b u hb e)
    have same : ∀ b u, H b = some u → b ≠ P → upd (upd (upd H P (tabO P (ps ++ #[rawInt pos.line, rawInt pos.col, .ref c']))) c' (codO c' (X.env.qual ++ "<lambda>"))) h'.objs.size (lamO h'.objs.size o) b = some u := fun b u e hb => by
      rw [upd_ne (trk b u e).2, upd_ne (trk b u e).1, upd_ne hb]
      exact e
    have notP : ∀ b u, H b = some u → (∀ φ, u ≠ .ext φ) → b ≠ P := fun b u e n z => by
      rw [z, hP] at e
      exact n _ (Option.some.inj e).symm
    refine ⟨.ref h'.objs.size, _, I.un (t' := tk) ⟨fun b u e n _ _ => ?_, fun b u e n _ _ => ?_, fun b u e n _ => ?_, fun b u e _ => ?_, fun b xs e => ?_, fun b u v e => ?_, fun b qs e => ?_⟩ (fun b u e => ?_), rfl, h h'.objs.size c' o nf nc cf ⟨_, _, eo.symm⟩⟩
    · exact kp b u (fun z => by rw [z, hP] at n; cases n) e
    · exact ⟨u.slots, kp b u (fun z => by rw [z, hP] at n; cases n) e⟩
    · rw [upd_ne (old b u e).2, upd_ne (old b u e).1, upd_ne (fun z => by rw [z, hP] at n; cases n)]
      exact n
    · by_cases z : b = P
      · exact ⟨_, by rw [z]; exact Heap.get?_push_of_some _ hP'⟩
      · exact ⟨u, kp b u z e⟩
    · exact same b _ e (notP b _ e fun _ z => by cases z)
    · exact same b _ e (notP b _ e fun _ z => by cases z)
    · exact ⟨#[], by rw [same b _ e (notP b _ e fun _ z => by cases z)]; simp⟩
    · by_cases z1 : b = h'.objs.size
      · rw [z1, upd_same] at e
        cases e
        rw [z1]
        exact lamO_ok (Heap.get?_push_size _ (by rw [← eo]; rfl))
      rw [upd_ne z1] at e
      by_cases z2 : b = c'
      · rw [z2, upd_same] at e
        cases e
        rw [z2]
        refine codO_ok ?_
        obtain ⟨c1, o1, v1, t1, e1, e2, r⟩ := rec
        exact ⟨c1, o1, v1, t1, e1, Heap.get?_push_of_some _ e2, r⟩
      rw [upd_ne z2] at e
      by_cases z3 : b = P
      · rw [z3, upd_same] at e
        cases e
        rw [z3]
        exact tabO_ok (Heap.get?_push_of_some _ hP')
      rw [upd_ne z3] at e
      refine (I.hok b u e).stay (fun d v hd q => ?_) (fun d q => ?_) fun d xs q => ?_
      · refine kp d v (fun z => ?_) q
        rcases hd with rfl | hd
        · exact z3 z
        · rw [z, hP] at hd
          cases hd
      · exact same d _ q (notP d _ q fun _ z => by cases z)
      · exact same d _ q (notP d _ q fun _ z => by cases z)
  · refine PySem.W.kla_makeFunctionHit hcl I.ok.glob hns hcode (hT _ I.kIn) hPt tr cs blt fun ctv h' tk kk le => ?_
    have I2 := I.laid (h' := h'.push (PySem.W.kla_obj "<lambda>" (X.env.qual ++ "<lambda>") params body scope [] ((X.mg "__name__").getD .none) c' ctv)) (a := h'.objs.size) (t' := tk) (o := lamO h'.objs.size (PySem.W.kla_obj "<lambda>" (X.env.qual ++ "<lambda>") params body scope [] ((X.mg "__name__").getD .none) c' ctv)) (fun b u e => Heap.get?_push_of_some _ (kk b u e)) le (lamO_ok (Heap.get?_push_size _ rfl))
    exact ⟨.ref h'.objs.size, _, I2, rfl, h _ _ (I.hok.fresh le) ⟨_, _, rfl⟩⟩
def CalAt (K : PySem.W.Frag) (H : Hp) (f : Addr) : Prop := PySem.W.keepIn K (.ref f) = true ∨ ∃ (o : Obj) (fd : FuncData), H f = some (lamO f o) ∧ o.data = .func fd
def RunV (P : Program) (w : World) (K : PySem.W.Frag) (mg : Str → Option Value) (base : Heap) (k : Nat) (f : Addr) (sp : Sp) (H : Hp) : Prop := ∀ (A : Around) (outer : List Env) (s : Shared) (us : List Value) (vs : List V) (Q : VK) (E : XK), Room k A → Env0 P w K mg base A outer s H → Vals vs us → sp vs H Q E →
  codeAny (model P w) A (.call (.ref f) ⟨us, []⟩) (CR CX0 outer P w H s Q E) s
def tCallV (P : Program) (w : World) (K : PySem.W.Frag) (mg : Str → Option Value) (base : Heap) (k i : Nat) (t : TA) : TE := fun σ H Q => ∃ f, σ[i]? = some (some (.ref f)) ∧ CalAt K H f ∧ t σ H fun vs H1 => (∀ o, H f = some o → H1 f = some o) ∧ ∃ sp, RunV P w K mg base k f sp H1 ∧ sp vs H1 Q E0
section
variable {X : Cx} {k j i : Nat} {x : Str} {e : Expr} {es : List Expr} {t : TA} {p pos : Pos}
theorem run_val {pins : List (Addr × Obj)} {σ : L2.St} {H : Hp} {s : Shared} {Q : VK} {us : List Value} {vs : List V} {f : Addr} {sp : Sp} (G : RunV X.prog X.w X.K X.mg X.base k f sp H) (hr : Room k X.A) (I : Inv X pins σ H s) (r : Vals vs us) (h : sp vs H Q E0) : wpAny (model X.prog X.w) X.A (call (.ref f) us) (EP X pins σ Q) X.xe s := by
  refine wpAny_call (codeAny_mono (G X.A X.stack s us vs Q E0 hr I.env0 r h) fun r s' hq => ?_)
  cases r with
  | error e => exact False.elim hq
  | ok fl =>
    cases fl with
    | ret u => exact I.after hq
    | next => exact False.elim hq
    | brk => exact False.elim hq
    | cont => exact False.elim hq
theorem pe_callV (hr : Room j X.A) (hk : k ≤ j) (hx : PE X (.Name x p) (tVar i)) (ha : PA X (e :: es) t) (he : starEach (e :: es) X.env = (false, eval e X.env) :: starEach es X.env := by rfl) (hpl : (backTo pos (starEach es X.env)).any (·.1) = false := by rfl) :
    PE X (.Call (.Name x p) (e :: es) [] pos) (tCallV X.prog X.w X.K X.mg X.base k i t) := by
  intro pins s σ H Q I h
  obtain ⟨f, hf, ca, h⟩ := h
  refine wpAny_Call_Name_kw (thn (hx pins s σ H (fun v H1 => v = .ref f ∧ H1 = H) I ⟨_, hf, rfl, rfl⟩) fun u s1 ⟨v, H1, I1, rv, ev, eH⟩ => ?_)
  subst ev eH
  obtain rfl : u = Value.ref f := rv
  rcases ca with ca | ⟨o, fd, ho, hd⟩
  · refine PySem.W.callWith_K (h₀ := X.base) I.ok.mod.kin ca (thn (ha pos pins s1 σ H1 _ I1 h) fun us s2 ⟨vs, H2, I2, r, _, sp, G, q⟩ => ⟨I2.kIn, ?_⟩) he hpl
    exact run_val G (hr.mono hk) I2 r q
  · have at_ : ∀ {H' : Hp} {s' : Shared} {o : Obj} {fd : FuncData}, Inv X pins σ H' s' → H' f = some (lamO f o) → o.data = .func fd → PySem.W.FnAt f s'.heap := fun {H' s' o fd} J hh dd => by
      obtain ⟨q, _, _⟩ := (show ObjOk X.prog X.w H' s'.heap f (lamO f o) from J.hok f _ hh)
      obtain ⟨oc, od, dt, sl⟩ := o
      cases dd
      exact ⟨oc, od, fd, sl, q⟩
    refine PySem.W.callWith_F (at_ I1 ho hd) (thn (ha pos pins s1 σ H1 _ I1 h) fun us s2 ⟨vs, H2, I2, r, st, sp, G, q⟩ => ⟨at_ I2 (st _ ho) hd, run_val G (hr.mono hk) I2 r q⟩) he hpl
end
theorem Fn.val {P : Program} {w : World} {K : PySem.W.Frag} {mg : Str → Option Value} {base : Heap} {x : Str} {k : Nat} {ps : List Str} {sp : Sp} (F : Fn P w K mg base x k ps sp) : ∃ f, mg x = some (.ref f) ∧ ∀ H, CalAt K H f ∧ RunV P w K mg base k f sp H := by
  obtain ⟨f, fd, G, m, kp, b⟩ := F.ex
  refine ⟨f, m, fun H => ⟨.inl kp, fun A outer s us vs Q E hr e0 r h => ?_⟩⟩
  have hl : (us ++ []).length = ps.length := by rw [List.append_nil, ← r.length]; exact G.len _ _ _ _ h
  have bd := b s us (e0.mod.kin.keeps fun b o e => (e0.bs b o e).1) hl
  rw [List.append_nil] at bd
  exact G.run A outer s H ⟨us, []⟩ us vs Q E hr e0 bd r h
theorem lam_run {P : Program} {w : World} {K : PySem.W.Frag} {mg : Str → Option Value} {base : Heap} {k : Nat} {f c' : Addr} {o : Obj} {qual : Str} {params : Arguments} {body : Expr} {scope : Scope} {N ps : List Str} {sp : Sp} {H : Hp} (L : LamObj qual params body scope c' o) (S : FnScope N ps scope) (hf : H f = some (lamO f o)) (hc : H c' = some (codO c' qual))
    (len : ∀ vs Q E, sp vs H Q E → vs.length = ps.length) (hb : ∀ (pm ctv : Value) (us : List Value), us.length = ps.length → bindArgs (PySem.W.kla_fn "<lambda>" qual params body scope [] pm (.ref c') ctv) ⟨us, []⟩ = pure (ps.zip us))
    (hbody : ∀ (A : Around) (outer : List Env) (s : Shared) (vs : List V) (Q : VK) (E : XK), Room k (A.deeper (envOfC qual scope s.heap.objs.size f (.ref c'))) → sp vs H Q E →
      ∃ t, PE (cxOf CX0 P w K mg base N qual scope f (.ref c') A outer s H E) body t ∧ t (start N vs) H Q) : RunV P w K mg base (k + 1) f sp H := by
  obtain ⟨pm, ctv, rfl⟩ := L
  intro A outer s us vs Q E hr e0 r hsp
  have hl := len _ _ _ hsp
  have lim : s.heap.NoLimit := e0.mod.nolimit.keeps fun b o e => (e0.bs b o e).1
  obtain ⟨hfo, _, _⟩ := (show ObjOk P w H s.heap f (lamO f _) from e0.hok f _ hf)
  obtain ⟨hco, _, _⟩ := (show ObjOk P w H s.heap c' (codO c' qual) from e0.hok c' _ hc)
  have hkind : ∀ y ∈ ps.zip us, scope.names.lookup y.1 = some .local ∨ (scope.names.lookup y.1 = some .cell ∧ ((cellsFrom (s.heap.objs.size + 1) scope.names []).lookup y.1).isSome = true) := fun ⟨n, v⟩ hy => by
    rcases S.par n (List.of_mem_zip hy).1 with q | q
    · exact .inl q
    · exact .inr ⟨q, PySem.W.cellsFrom_some _ _ _ (.inl q)⟩
  refine PySem.W.kla_callFunE hr.depth hfo rfl S.co S.gen rfl hco ?_
  rw [hb pm ctv us (by rw [← r.length]; exact hl)]
  refine wpAny_pure ?_
  refine wpAny_newFunctionEnv_cells S.kind hkind fun env he s1 x => ?_
  subst he
  refine ⟨lim.keeps x.toInCall.keep, PySem.W.kla_codeExpr ?_⟩
  obtain ⟨t, ht, hq⟩ := hbody A outer s vs Q E (hr.deeper _) hsp
  have I : Inv (cxOf CX0 P w K mg base N qual scope f (.ref c') A outer s H E) [] (start N vs) H s1 := inv_start S hr.hd e0 hl r x
  refine wpAny_mono (ht [] s1 (start N vs) H _ I hq) (fun u s' ⟨v, H', J, rv, q⟩ => ?_) fun e s' hs => hs
  exact ⟨v, H', J.os, J.bare, J.base, J.hok, rv, q⟩
theorem fun_okC {P : Program} {w : World} {K : PySem.W.Frag} {mg : Str → Option Value} {base : Heap} {x qual : Str} {st : Stmt} {f c : Addr} {fd : FuncData} {N ps : List Str} {k : Nat} {sp : Sp} (F : Fun K x qual st f fd) (hc : fd.code = .ref c) (S : FnScope N ps (defScope st)) (len : ∀ vs H Q E, sp vs H Q E → vs.length = ps.length)
    (hbody : ∀ (A : Around) (outer : List Env) (s : Shared) (H : Hp) (vs : List V) (Q : VK) (E : XK), Room k (A.deeper (envOfC qual (defScope st) s.heap.objs.size f (.ref c))) → sp vs H Q E →
      ∃ t, PSs (cxOf CX0 P w K mg base N qual (defScope st) f (.ref c) A outer s H E) (defBody st) t ∧ t { nx := fun _ H' => Q .non H', rt := Q } (start N vs) H) : FnOk P w K mg base CX0 (k + 1) f fd ps sp := by
  obtain ⟨oc, od, kV, doc, pm, an, cdv, ct, osl, rfl, lk, hcd⟩ := F.ex
  obtain rfl : cdv = .ref c := hc
  exact fn_of lk hcd S len hbody
end
section
open PySem PySem.Spec PyProof.Rows L2
structure DefT (K : PySem.W.Frag) (mg : Str → Option Value) (x : Str) (st : Stmt) (c T : Addr) : Prop where
  ex : ∃ (f : Addr) (fd : FuncData), Fun K x x st f fd ∧ mg x = some (.ref f) ∧ fd.code = .ref c
  hd : ∀ h, K.In h → PySem.W.CodeHd h c T
  no : K.lookup T = none
theorem mk_defT {K : PySem.W.Frag} {h : Heap} {mg : Str → Option Value} {x : Str} {st : Stmt} {f c T : Addr} {oc kV dc pm ct : Value} {od an : Option Addr} {sl : Array (Option Value)} {cd : Option Addr} {v0 v1 v2 v3 v4 v5 v6 v8 v12 v13 v14 v15 v16 v17 : Value} {fl tx : Int} {tg tt tf : Nat} {inF : Bool} {file : Str} {sl2 : Array (Option Value)} (X : K.In h) (G : h.Ns mainGlobals mg)
    (a : PySem.W.nsIn K mainGlobals x = some (some (.ref f))) (l : K.lookup f = some ⟨oc, od, .func (PySem.W.fnOf x x (defArgs st) (defBody st) (defScope st) .none kV dc pm an (.ref c) ct), sl⟩) (cc : PySem.W.codeIn K (.ref c) x = true) (k : PySem.W.keepIn K (.ref f) = true)
    (lc : K.lookup c = some ⟨.type "code", cd, .fields #[v0, v1, v2, v3, v4, v5, v6, .int fl tg, v8, .bool inF, .int tx tt, .ref T, v12, v13, v14, v15, v16, v17, .str file tf], sl2⟩) (no : K.lookup T = none) (ne : c ≠ T) : DefT K mg x st c T :=
  ⟨⟨f, _, fun_mk l cc k, PySem.W.mg_of X G a, rfl⟩, fun _ hk => ⟨_, _, file, tf, fl, tg, inF, tx, tt, hk _ _ lc, rfl, rfl, rfl, rfl, rfl, rfl, rfl, rfl, ne⟩, no⟩
def spLawT (K : PySem.W.Frag) (T : Addr) : Sp := fun vs H Q _ => ∃ (a : Addr) (ns : List Int), vs = [.ref a] ∧ SqL K H a (ns.map V.int) ∧ ns.length ≤ 63 ∧ H T = some (tabO T #[]) ∧ ∀ H' ps, H' T = some (tabO T ps) → Q (.bl true) H'
theorem law_callT {P : Program} {w : World} {K : PySem.W.Frag} {mg mb : Str → Option Value} {k : Nat} {fa a c T : Addr} {fd : FuncData} {x : Str} {s₁ : Shared} {vs : List Value} {ns : List Int}
    (KX : K.In s₁.heap) (hns : s₁.heap.Ns mainGlobals mg) (hb : s₁.heap.Ns builtinsNs mb) (hbb : ∀ x : Str, x ≠ "__name__" → mb x = bootBuiltins x) (hlim : s₁.heap.NoLimit) (hg : s₁.gens = #[]) (ha : s₁.heap.get? a = some { cls := .type "list", data := .seq vs.toArray }) (hi : IntsAre vs ns) (hl : ns.length ≤ 63) (hr : Room k callerA)
    (F : ∀ base : Heap, K.In base → base.Ns mainGlobals mg → BltAt mg base → FnOk P w K mg base CX0 k fa fd [x] (spLawT K T)) (hbind : ∀ (s : Shared) (u : Value), BindsTo s fd ⟨[u], []⟩ [(x, u)]) (hB : BltAt mg s₁.heap) (hT : s₁.heap.TableAt c T #[]) (hKT : K.lookup T = none) :
    codeAny (model P w) callerA (.call (.ref fa) ⟨[.ref a], []⟩) (fun r s' => r = .ok (.ret (.bool true)) ∧ OldK s₁.heap s'.heap ∧ s'.os = s₁.os ∧ AllBare s'.gens) s₁ := by
  obtain ⟨hc, hP⟩ := hT
  have neTa : T ≠ a := fun z => by
    rw [z, ha] at hP
    cases hP
  have rv := vals_ints hi
  have lz : ns.length ≤ sizeLine := Nat.le_trans hl (by decide)
  -- what is tracked: the table, and the script where the text does not hold it
  obtain ⟨H, hHT, hS, hHa, hHn⟩ : ∃ H : Hp, H T = some (tabO T #[]) ∧ SqL K H a (ns.map V.int) ∧ (H a = none ∨ (K.lookup a = none ∧ H a = some (.frz { cls := .type "list", data := .seq vs.toArray } (.lst (ns.map V.int))))) ∧ ∀ b, b ≠ T → b ≠ a → H b = none := by
    cases hk : K.lookup a with
    | some o =>
      have e := KX a o hk
      rw [ha] at e
      cases e
      refine ⟨fun b => if b = T then some (tabO T #[]) else none, if_pos rfl, ?_, .inl (if_neg (Ne.symm neTa)), fun b h1 _ => if_neg h1⟩
      exact .inr ⟨_, vs.toArray, _, hk, rfl, rfl, rfl, by rw [List.size_toArray, hi.length]; exact lz, by simpa using rv⟩
    | none =>
      refine ⟨fun b => if b = T then some (tabO T #[]) else if b = a then some (.frz { cls := .type "list", data := .seq vs.toArray } (.lst (ns.map V.int))) else none, if_pos rfl, ?_, .inr ⟨rfl, ?_⟩, fun b h1 h2 => (if_neg h1).trans (if_neg h2)⟩
      · exact .inl (.inr ⟨{ cls := .type "list", data := .seq vs.toArray }, (if_neg (Ne.symm neTa)).trans (if_pos rfl)⟩)
      · exact (if_neg (Ne.symm neTa)).trans (if_pos rfl)
  have hok : HOk P w H s₁.heap := fun b u e => by
    by_cases z : b = T
    · rw [z, hHT] at e
      cases e
      rw [z]
      exact tabO_ok hP
    by_cases z2 : b = a
    · rcases hHa with n | ⟨_, n⟩
      · rw [z2, n] at e
        cases e
      · rw [z2, n] at e
        cases e
        rw [z2]
        exact ⟨ha, by rw [List.length_map]; exact lz, vs, _, rv, ha⟩
    · rw [hHn b z z2] at e
      cases e
  have free : ∀ {b : Addr} {o : Obj}, s₁.heap.get? b = some o → o ≠ PySem.W.tabObj #[] → o ≠ { cls := .type "list", data := .seq vs.toArray } → H b = none := fun {b o} e n1 n2 => by
    refine hHn b (fun z => ?_) fun z => ?_
    · rw [z, hP] at e
      exact n1 (Option.some.inj e).symm
    · rw [z, ha] at e
      exact n2 (Option.some.inj e).symm
  have nsK : ∀ {b : Addr} {m : Str → Option Value}, s₁.heap.Ns b m → (hidT s₁.heap H).Ns b m := fun {b m} ⟨o, es, ep, e, d, r⟩ =>
    ⟨o, es, ep, hidT_get e (free e (fun z => by rw [z] at d; cases d) fun z => by rw [z] at d; cases d), d, r⟩
  have hKb : K.In (hidT s₁.heap H) := fun b o e => hidT_get (KX b o e) (by
    by_cases z : b = T
    · rw [z, hKT] at e
      cases e
    by_cases z2 : b = a
    · rcases hHa with n | ⟨n, _⟩
      · rw [z2]
        exact n
      · rw [z2, n] at e
        cases e
    · exact hHn b z z2)
  have hBb : BltAt mg (hidT s₁.heap H) := by
    obtain ⟨bm, o, e1, n1, n2, ho, h1, r⟩ := hB
    exact ⟨bm, o, e1, n1, n2, hidT_get ho (free ho (fun z => by rw [z] at h1; cases h1) fun z => by rw [z] at h1; injection h1 with e; exact absurd e (by decide)), h1, r⟩
  have e0 : Env0 P w K mg (hidT s₁.heap H) callerA [] s₁ H := ⟨rfl, ⟨hKb, nsK hns, ⟨mb, nsK hb, hbb⟩, let ⟨mc, h1, h2⟩ := hlim; ⟨mc, nsK h1, h2⟩⟩, fun b o e => of_hidT e, Nat.le_of_eq (hidT_size _ _), trivial, (fun b z => nomatch z), hok, .of_eq hg⟩
  refine codeAny_mono ((F _ hKb (nsK hns) hBb).run callerA [] s₁ H ⟨[.ref a], []⟩ [.ref a] [.ref a] (fun v H' => v = .bl true ∧ ∃ ps, H' T = some (tabO T ps)) E0 hr e0 (hbind s₁ (.ref a)) (.cons rfl .nil) ⟨a, ns, rfl, hS, hl, hHT, fun H' ps h => ⟨rfl, ps, h⟩⟩) fun r s' h => ?_
  cases r with
  | error e => exact False.elim h
  | ok fl =>
    cases fl with
    | next => exact False.elim h
    | brk => exact False.elim h
    | cont => exact False.elim h
    | ret u =>
      obtain ⟨v, H', os, bare, un, hok', r', rfl, ps, hps⟩ := h
      obtain rfl : u = Value.bool true := r'
      refine ⟨rfl, ⟨fun b o e => ?_, fun b o e => un.there b o e (by simp)⟩, os, bare⟩
      by_cases z : b = T
      · obtain ⟨q, _, _⟩ := (show ObjOk P w H' s'.heap T (tabO T ps) from hok' T _ hps)
        rw [z, hP] at e
        cases e
        rw [z]
        obtain ⟨oc, vc, c1, c2, c3, c4⟩ := hc
        exact .inr (.inl ⟨⟨c, oc, vc, c1, c2, c3, c4⟩, rfl, #[], ps, rfl, by rw [Array.empty_append]; exact q⟩)
      by_cases z2 : b = a
      · rcases hHa with n | ⟨_, n⟩
        · exact .inl (un.keep b o e (by rw [z2]; exact n) (fun z => nomatch z) (by simp))
        · have q2 := hok' a _ (un.frzs a _ _ n)
          rw [z2, ha] at e
          cases e
          rw [z2]
          exact .inl q2.1
      · exact .inl (un.keep b o e (hHn b z z2) (fun z => nomatch z) (by simp))
theorem walkT {l : PySem.W.OpenLaw} {k : Nat} {q : Program} {loose : List Str} {XP : (Str → Option Value) → Heap → Prop} {YP : World → Heap → Prop} {d : DefRec} {K : Params → PySem.W.Frag} {x x' : Str} {st : Stmt} (hn : l.most = some 63) (hdf : d.params.defaults = []) (hr : Room k callerA)
    (hY : ∀ (w : World) (h : Heap), YP w h → (K w.params).In h) (hd' : ((recsOf q).find? (fun d => d.name == x')).isSome = true)
    (F : ∀ (w : World) (mg : Str → Option Value) (fa : Addr) (h : Heap), (K w.params).In h → h.Ns mainGlobals mg → mg d.name = some (.ref fa) →
      ∃ (c T : Addr) (fd : FuncData), DefT (K w.params) mg x' st c T ∧ (∀ (s : Shared) (u : Value), BindsTo s fd ⟨[u], []⟩ [(x, u)]) ∧
        ∀ base : Heap, (K w.params).In base → base.Ns mainGlobals mg → BltAt mg base → FnOk l.prog w (K w.params) mg base CX0 k fa fd [x] (spLawT (K w.params) T)) :
    PySem.W.WalkO q loose XP YP l.row.toRowW d [] (fun f vs => PySem.call f vs) := by
  refine Att.attach_call hn hdf fun w s₀ s₁ mg mb fa o pm cd doc a vs ns G Y ho hd hcd hmg hobj hints hlen hg => ?_
  have KX := hY w _ Y
  obtain ⟨c, T, fd, D, hb, hF⟩ := F w mg fa _ KX G.T.g hmg
  obtain ⟨d', hd'⟩ := Option.isSome_iff_exists.mp hd'
  obtain ⟨a', o', fd', c', T', m', ho', hd2, hc', _, tab⟩ := G.T.tab d' (List.mem_of_find?_eq_some hd')
  have nm : d'.name = x' := by simpa using List.find?_some hd'
  obtain ⟨f, fdK, Fk, mK, cK⟩ := D.ex
  rw [nm, mK] at m'
  cases m'
  obtain ⟨oc, od, kV, dc, pm', an, cdv, ct, osl, rfl, lk, _⟩ := Fk.ex
  have hf := KX _ _ lk
  rw [ho'] at hf
  cases hf
  cases hd2
  have ec : Value.ref c = Value.ref c' := cK.symm.trans hc'
  cases ec
  obtain ⟨o1, v1, _, _, _, _, _, _, _, g1, _, g3, g4, _⟩ := D.hd _ KX
  obtain ⟨o2, v2, k1, _, k3, k4⟩ := id tab.1
  rw [g1] at k1
  cases k1
  rw [g3] at k3
  cases k3
  rw [g4] at k4
  cases k4
  refine law_callT KX G.T.g G.T.b G.T.builtins G.T.nolimit hg hobj hints hlen hr hF hb ?_ tab D.no
  obtain ⟨bm, ob, e1, n1, h1, h2, h3, h4⟩ := G.T.bmain
  refine ⟨bm, ob, e1, n1, fun z => ?_, h1, h2, h3, h4⟩
  obtain ⟨og, es, ep, eg, dg, _⟩ := G.T.g
  rw [z, eg] at h1
  cases h1
  rw [dg] at h4
  cases h4
end
--CUT--
section
open PySem PySem.Spec PyProof.Rows L2
section
variable {P : Program} {w : World} {A : Around} {E : Value → Shared → Prop} {s : Shared}
abbrev IsTrip (h : Heap) (T : Addr) (a b c : Value) : Prop := h.get? T = some { cls := .type "tuple", data := .seq #[a, b, c] }
theorem upd_trip {T : Addr} {a b c x : Value} {k : Nat} {Q : Unit → Shared → Prop} (h : IsTrip s.heap T a b c) (q : ∀ h', h'.get? T = some { cls := .type "tuple", data := .seq (#[a, b, c].setIfInBounds k x) } → Heap.SameBut T s.heap h' → Q () { s with heap := h' }) : wpAny (model P w) A (updateSeq T fun v => v.setIfInBounds k x) Q E s := by
  have e : Obj.mapSeq (fun v => v.setIfInBounds k x) { cls := .type "tuple", data := .seq #[a, b, c] } = { cls := .type "tuple", data := .seq (#[a, b, c].setIfInBounds k x) } := by simp [Obj.mapSeq]
  refine wpAny_updateSeq h rfl (q _ ((Heap.get?_update_self _ h (by rw [e]; rfl)).trans (by rw [e])) ⟨Heap.size_update _ _ _, fun b hb => Heap.get?_update_other _ _ (Ne.symm hb)⟩) (show 3 ≤ sizeLine by decide) ?_
  show (#[a, b, c].setIfInBounds k x).size ≤ sizeLine + 1
  rw [Array.size_setIfInBounds]
  show 3 ≤ _
  decide
structure Zip3 (h : Heap) (z a o q r t p1 p2 p3 : Addr) (f : Value) (i : Nat) : Prop where
  zip : IsZip h z a o f
  ins : IsTrip h a (.ref q) (.ref r) (.ref t)
  out : ∃ x y v, IsTrip h o x y v
  it1 : h.IsTupleIter q p1 i
  it2 : h.IsTupleIter r p2 i
  it3 : h.IsTupleIter t p3 i
structure Apart3 (z a o q r t p1 p2 p3 : Addr) : Prop where
  nd : [z, a, o, q, r, t].Nodup
  n1 : p1 ∉ [z, o, q, r, t]
  n2 : p2 ∉ [z, o, q, r, t]
  n3 : p3 ∉ [z, o, q, r, t]
theorem tit_at {h h' : Heap} {q p : Addr} {i : Nat} (x : h.IsTupleIter q p i) (e : ∀ o, h.get? q = some o → h'.get? q = some o) : h'.IsTupleIter q p i := IsIt.at (b := true) x e
theorem tup_at {h h' : Heap} {p : Addr} {its : Array Value} (x : h.IsTuple p its) (e : ∀ o, h.get? p = some o → h'.get? p = some o) : h'.IsTuple p its := IsSq.at (b := true) x e
theorem zip3_item {z a o q r t p1 p2 p3 : Addr} {i : Nat} {xs ys vs : Array Value} {x y v : Value} {Q : Option Value → Shared → Prop} (D : Apart3 z a o q r t p1 p2 p3) (Z : Zip3 s.heap z a o q r t p1 p2 p3 .none i)
    (h1 : s.heap.IsTuple p1 xs) (h2 : s.heap.IsTuple p2 ys) (h3 : s.heap.IsTuple p3 vs) (hx : xs[i]? = some x) (hy : ys[i]? = some y) (hv : vs[i]? = some v)
    (k : ∀ h', Zip3 h' z a o q r t p1 p2 p3 (rawInt s.heap.objs.size) (i + 1) → IsTrip h' s.heap.objs.size x y v → h'.objs.size = s.heap.objs.size + 1 → Kept [z, o, q, r, t] s.heap h' → Q (some (.ref s.heap.objs.size)) { s with heap := h' }) :
    wpAny (model P w) A (pyNext (.ref z)) Q E s := by
  obtain ⟨hz, hI, ⟨u1, u2, u3, hO⟩, hq, hr, ht⟩ := Z
  have nd := D.nd
  have d1 := D.n1
  have d2 := D.n2
  have d3 := D.n3
  simp only [List.nodup_cons, List.mem_cons, List.mem_nil_iff, or_false, not_or, List.not_mem_nil, not_false_eq_true, List.nodup_nil, and_true] at nd d1 d2 d3
  obtain ⟨⟨za, zo, zq, zr, zt⟩, ⟨ao, aq, ar, at'⟩, ⟨oq, or', ot⟩, ⟨qr, qt⟩, rt⟩ := nd
  obtain ⟨n1z, n1o, n1q, n1r, n1t⟩ := d1
  obtain ⟨n2z, n2o, n2q, n2r, n2t⟩ := d2
  obtain ⟨n3z, n3o, n3q, n3r, n3t⟩ := d3
  have hT : s.TypeIs (.ref z) "zip" := ⟨_, hz, rfl⟩
  unfold pyNext
  refine wpAny_bind (wpAny_attempt (wpAny_callSpecial?_slot (name := Str.ofString "__next__") hT F.slot_zip_next (wpAny_call_entry F.slot_zip_next hT F.entry_zip_next ?_ (F.args_zip_next_1 _))))
  show wpAny _ _ (field (.ref z) 2 >>= _) _ _ _
  refine wpAny_bind (wpAny_field hz rfl (x := .bool false) rfl ?_)
  show wpAny _ _ (field (.ref z) 3 >>= _) _ _ _
  refine wpAny_bind (wpAny_field hz rfl (x := .ref a) rfl (wpAny_bind (wpAny_seqItems hI rfl ?_)))
  show wpAny _ _ (Builtin.SmallTypes.ownedTupleIsFree (.ref z) >>= _) _ _ _
  refine wpAny_bind ?_
  unfold Builtin.SmallTypes.ownedTupleIsFree
  refine wpAny_bind (wpAny_field hz rfl (x := .none) rfl (wpAny_pure ?_))
  simp only [if_true]
  refine wpAny_bind (wpAny_rule (wpAny_bind (wpAny_field hz rfl (x := .ref o) rfl (wpAny_bind (wpAny_setField_rec hz (by simp) fun g1 z1 s1 => ?_)))))
  replace z1 : IsZip g1 z a o .ellipsis := z1
  refine wpAny_bind ?_
  simp only [List.zipIdx_cons, List.zipIdx_nil, List.forIn_cons, List.forIn_nil]
  refine wpAny_bind (wpAny_bind (wpAny_onRaise (show wpAny _ _ (Builtin.SmallTypes.nextOf (.ref q) >>= _) _ _ _ from wpAny_bind (nextT (tit_at hq fun _ e => s1.extBut _ _ (Ne.symm zq) e) (tup_at h1 fun _ e => s1.extBut _ _ n1z e) hx fun g2 q2 s2 => wpAny_pure ?_))))
  have o2 : IsTrip g2 o u1 u2 u3 := s2.extBut _ _ oq (s1.extBut _ _ (Ne.symm zo) hO)
  refine wpAny_bind (wpAny_seqItems o2 rfl (wpAny_bind (upd_trip o2 fun g3 o3 s3 => ?_)))
  replace o3 : IsTrip g3 o x u2 u3 := o3
  refine wpAny_bind (wpAny_letGo (wpAny_pure (wpAny_bind (wpAny_bind (wpAny_onRaise ?_)))))
  refine (show wpAny _ _ (Builtin.SmallTypes.nextOf (.ref r) >>= _) _ _ _ from wpAny_bind (nextT (tit_at hr fun _ e => s3.extBut _ _ (Ne.symm or') (s2.extBut _ _ (Ne.symm qr) (s1.extBut _ _ (Ne.symm zr) e))) (tup_at h2 fun _ e => s3.extBut _ _ n2o (s2.extBut _ _ n2q (s1.extBut _ _ n2z e))) hy fun g4 r4 s4 => wpAny_pure ?_))
  have o4 : IsTrip g4 o x u2 u3 := s4.extBut _ _ or' o3
  refine wpAny_bind (wpAny_seqItems o4 rfl (wpAny_bind (upd_trip o4 fun g5 o5 s5 => ?_)))
  replace o5 : IsTrip g5 o x y u3 := o5
  refine wpAny_bind (wpAny_letGo (wpAny_pure (wpAny_bind (wpAny_bind (wpAny_onRaise ?_)))))
  refine (show wpAny _ _ (Builtin.SmallTypes.nextOf (.ref t) >>= _) _ _ _ from wpAny_bind (nextT (tit_at ht fun _ e => s5.extBut _ _ (Ne.symm ot) (s4.extBut _ _ (Ne.symm rt) (s3.extBut _ _ (Ne.symm ot) (s2.extBut _ _ (Ne.symm qt) (s1.extBut _ _ (Ne.symm zt) e))))) (tup_at h3 fun _ e => s5.extBut _ _ n3o (s4.extBut _ _ n3r (s3.extBut _ _ n3o (s2.extBut _ _ n3q (s1.extBut _ _ n3z e))))) hv fun g6 t6 s6 => wpAny_pure ?_))
  have o6 : IsTrip g6 o x y u3 := s6.extBut _ _ ot o5
  refine wpAny_bind (wpAny_seqItems o6 rfl (wpAny_bind (upd_trip o6 fun g7 o7 s7 => ?_)))
  replace o7 : IsTrip g7 o x y v := o7
  refine wpAny_bind (wpAny_letGo (wpAny_pure (wpAny_pure (wpAny_bind (wpAny_seqItems o7 rfl (wpAny_bind (wpAny_newTuple ?_)))))))
  have m1 : z ∈ [z, o, q, r, t] := by simp
  have m2 : o ∈ [z, o, q, r, t] := by simp
  have m3 : q ∈ [z, o, q, r, t] := by simp
  have m4 : r ∈ [z, o, q, r, t] := by simp
  have m5 : t ∈ [z, o, q, r, t] := by simp
  have k7 : Kept [z, o, q, r, t] s.heap g7 := ((((((Kept.of s1 m1).trans (Kept.of s2 m3)).trans (Kept.of s3 m2)).trans (Kept.of s4 m4)).trans (Kept.of s5 m2)).trans (Kept.of s6 m5)).trans (Kept.of s7 m2)
  have z7 : g7.objs.size = s.heap.objs.size := by rw [s7.1, s6.1, s5.1, s4.1, s3.1, s2.1, s1.1]
  have y7 : IsZip g7 z a o .ellipsis := s7.extBut _ _ zo (s6.extBut _ _ zt (s5.extBut _ _ zo (s4.extBut _ _ zr (s3.extBut _ _ zo (s2.extBut _ _ zq z1)))))
  have q7 : g7.IsTupleIter q p1 (i + 1) := tit_at q2 fun _ e => s7.extBut _ _ (Ne.symm oq) (s6.extBut _ _ qt (s5.extBut _ _ (Ne.symm oq) (s4.extBut _ _ qr (s3.extBut _ _ (Ne.symm oq) e))))
  have r7 : g7.IsTupleIter r p2 (i + 1) := tit_at r4 fun _ e => s7.extBut _ _ (Ne.symm or') (s6.extBut _ _ rt (s5.extBut _ _ (Ne.symm or') e))
  have t7 : g7.IsTupleIter t p3 (i + 1) := tit_at t6 fun _ e => s7.extBut _ _ (Ne.symm ot) e
  have lt : z < g7.objs.size := Heap.lt_size y7
  show wpAny _ _ (Builtin.SmallTypes.ownedTupleHandOut (.ref z) (.ref g7.objs.size) >>= _) _ _ _
  refine wpAny_bind ?_
  unfold Builtin.SmallTypes.ownedTupleHandOut
  have y8 : IsZip (g7.push { cls := .type "tuple", data := .seq #[x, y, v] }) z a o .ellipsis := Heap.get?_push_of_some _ y7
  refine wpAny_bind (wpAny_setField_rec y8 (by simp) fun g9 y9 s9 => ?_)
  replace y9 : IsZip g9 z a o (rawInt g7.objs.size) := y9
  refine wpAny_setField_rec y9 (by simp) fun g10 y10 s10 => ?_
  replace y10 : IsZip g10 z a o (rawInt g7.objs.size) := y10
  have up : ∀ c u, c ≠ z → g7.get? c = some u → g10.get? c = some u := fun c u cz e => s10.extBut _ _ cz (s9.extBut _ _ cz (Heap.get?_push_of_some _ e))
  have t10 : IsTrip g10 g7.objs.size x y v := s10.extBut _ _ (Nat.ne_of_gt lt) (s9.extBut _ _ (Nat.ne_of_gt lt) (Heap.get?_push_size _ rfl))
  have e10 : g10.objs.size = g7.objs.size + 1 := by rw [s10.1, s9.1, Heap.size_push]
  rw [z7] at y10 t10 e10
  refine wpAny_pure ⟨_, rfl, wpAny_pure ?_⟩
  show Q (some (.ref g7.objs.size)) _
  rw [z7]
  refine k g10 ⟨y10, ?_, ⟨x, y, v, up _ _ (Ne.symm zo) o7⟩, tit_at q7 fun _ e => up _ _ (Ne.symm zq) e, tit_at r7 fun _ e => up _ _ (Ne.symm zr) e, tit_at t7 fun _ e => up _ _ (Ne.symm zt) e⟩ t10 e10 (k7.trans fun c u n e => up c u (fun h => n (h ▸ m1)) e)
  exact up _ _ (Ne.symm za) (k7 _ _ (by simp [Ne.symm za, ao, aq, ar, at']) hI)
theorem zip3_end {z a o q r t p1 p2 p3 : Addr} {i : Nat} {xs : Array Value} {Q : Option Value → Shared → Prop} (hh : A.handled = none) (D : Apart3 z a o q r t p1 p2 p3) (Z : Zip3 s.heap z a o q r t p1 p2 p3 .none i) (h1 : s.heap.IsTuple p1 xs) (hx : xs[i]? = none)
    (k : ∀ h', Kept [z, o, q, r, t] s.heap h' → Q none { s with heap := h' }) : wpAny (model P w) A (pyNext (.ref z)) Q E s := by
  obtain ⟨hz, hI, ⟨u1, u2, u3, hO⟩, hq, hr, ht⟩ := Z
  have nd := D.nd
  have d1 := D.n1
  simp only [List.nodup_cons, List.mem_cons, List.mem_nil_iff, or_false, not_or, List.not_mem_nil, not_false_eq_true, List.nodup_nil, and_true] at nd d1
  obtain ⟨⟨za, zo, zq, zr, zt⟩, _⟩ := nd
  obtain ⟨n1z, n1o, n1q, n1r, n1t⟩ := d1
  have m1 : z ∈ [z, o, q, r, t] := by simp
  have m3 : q ∈ [z, o, q, r, t] := by simp
  have hT : s.TypeIs (.ref z) "zip" := ⟨_, hz, rfl⟩
  unfold pyNext
  refine wpAny_bind (wpAny_attempt (wpAny_callSpecial?_slot (name := Str.ofString "__next__") hT F.slot_zip_next (wpAny_call_entry F.slot_zip_next hT F.entry_zip_next ?_ (F.args_zip_next_1 _))))
  show wpAny _ _ (field (.ref z) 2 >>= _) _ _ _
  refine wpAny_bind (wpAny_field hz rfl (x := .bool false) rfl ?_)
  show wpAny _ _ (field (.ref z) 3 >>= _) _ _ _
  refine wpAny_bind (wpAny_field hz rfl (x := .ref a) rfl (wpAny_bind (wpAny_seqItems hI rfl ?_)))
  show wpAny _ _ (Builtin.SmallTypes.ownedTupleIsFree (.ref z) >>= _) _ _ _
  refine wpAny_bind ?_
  unfold Builtin.SmallTypes.ownedTupleIsFree
  refine wpAny_bind (wpAny_field hz rfl (x := .none) rfl (wpAny_pure ?_))
  simp only [if_true]
  refine wpAny_bind (wpAny_rule (wpAny_bind (wpAny_field hz rfl (x := .ref o) rfl (wpAny_bind (wpAny_setField_rec hz (by simp) fun g1 z1 s1 => ?_)))))
  replace z1 : IsZip g1 z a o .ellipsis := z1
  refine wpAny_bind ?_
  simp only [List.zipIdx_cons, List.zipIdx_nil, List.forIn_cons, List.forIn_nil]
  refine wpAny_bind (wpAny_bind (wpAny_onRaise (show wpAny _ _ (Builtin.SmallTypes.nextOf (.ref q) >>= _) _ _ _ from wpAny_bind ?_)))
  refine nextT_end hh (tit_at hq fun _ e => s1.extBut _ _ (Ne.symm zq) e) (tup_at h1 fun _ e => s1.extBut _ _ n1z e) hx fun g2 e s2 he => ?_
  obtain ⟨oe, hoe, hce⟩ := he
  have z2 : IsZip g2 z a o .ellipsis := s2 _ _ zq z1
  have ez : e ≠ z := fun h => by subst h; rw [z2] at hoe; cases hoe; simp at hce
  refine wpAny_setField_rec z2 (by simp) fun g3 _ s3 => ?_
  exact wpAny_bind (wpAny_isInstance (T := "StopIteration") (b := true) ⟨oe, s3.extBut _ _ ez hoe, hce⟩ isSubtype_stop (wpAny_pure (k _ (((Kept.of s1 m1).trans (Kept.ext s2 m3)).trans (Kept.of s3 m1)))))
end
end
section
open PySem PySem.Spec PyProof.Rows L2
section
variable {P : Program} {w : World} {A : Around} {E : Value → Shared → Prop} {s : Shared}
abbrev yA (h : Heap) (p1 p2 p3 : Addr) : Heap := ((h.push (itO p1)).push (itO p2)).push (itO p3)
abbrev yB (h : Heap) (p1 p2 p3 : Addr) : Heap := (yA h p1 p2 p3).push { cls := .type "tuple", data := .seq #[.ref h.objs.size, .ref (h.push (itO p1)).objs.size, .ref ((h.push (itO p1)).push (itO p2)).objs.size] }
abbrev yC (h : Heap) (p1 p2 p3 : Addr) : Heap := (yB h p1 p2 p3).push { cls := .type "tuple", data := .seq #[.none, .none, .none] }
abbrev yD (h : Heap) (p1 p2 p3 : Addr) : Heap := (yC h p1 p2 p3).push { cls := .type "zip", data := .fields #[.none, .bool false, .bool false, .ref (yA h p1 p2 p3).objs.size, .ref (yB h p1 p2 p3).objs.size] }
theorem y_at (h : Heap) (p1 p2 p3 : Addr) : Zip3 (yD h p1 p2 p3) (h.objs.size + 5) (h.objs.size + 3) (h.objs.size + 4) h.objs.size (h.objs.size + 1) (h.objs.size + 2) p1 p2 p3 .none 0 := by
  have e1 : (h.push (itO p1)).objs.size = h.objs.size + 1 := Heap.size_push _ _
  have e2 : ((h.push (itO p1)).push (itO p2)).objs.size = h.objs.size + 2 := by rw [Heap.size_push, e1]
  have e3 : (yA h p1 p2 p3).objs.size = h.objs.size + 3 := by rw [Heap.size_push, e2]
  have e4 : (yB h p1 p2 p3).objs.size = h.objs.size + 4 := by rw [Heap.size_push, e3]
  have e5 : (yC h p1 p2 p3).objs.size = h.objs.size + 5 := by rw [Heap.size_push, e4]
  have g6 : (yD h p1 p2 p3).get? (yC h p1 p2 p3).objs.size = some _ := Heap.get?_push_size _ rfl
  have g5 : (yD h p1 p2 p3).get? (yB h p1 p2 p3).objs.size = some _ := Heap.get?_push_of_some _ (Heap.get?_push_size _ rfl)
  have g4 : (yD h p1 p2 p3).get? (yA h p1 p2 p3).objs.size = some _ := Heap.get?_push_of_some _ (Heap.get?_push_of_some _ (Heap.get?_push_size _ rfl))
  have g3 : (yD h p1 p2 p3).get? ((h.push (itO p1)).push (itO p2)).objs.size = some _ := Heap.get?_push_of_some _ (Heap.get?_push_of_some _ (Heap.get?_push_of_some _ (Heap.get?_push_size _ rfl)))
  have g2 : (yD h p1 p2 p3).get? (h.push (itO p1)).objs.size = some _ := Heap.get?_push_of_some _ (Heap.get?_push_of_some _ (Heap.get?_push_of_some _ (Heap.get?_push_of_some _ (Heap.get?_push_size _ rfl))))
  have g1 : (yD h p1 p2 p3).get? h.objs.size = some _ := Heap.get?_push_of_some _ (Heap.get?_push_of_some _ (Heap.get?_push_of_some _ (Heap.get?_push_of_some _ (Heap.get?_push_of_some _ (Heap.get?_push_size _ rfl)))))
  rw [e5] at g6
  rw [e4] at g5
  rw [e3] at g4
  rw [e2] at g3
  rw [e1] at g2
  refine ⟨?_, ?_, ⟨_, _, _, g5⟩, ⟨_, g1, rfl, rfl⟩, ⟨_, g2, rfl, rfl⟩, ⟨_, g3, rfl, rfl⟩⟩
  · exact g6.trans (by rw [e3, e4])
  · exact g4.trans (by rw [e1, e2])
theorem y_kept (h : Heap) (p1 p2 p3 : Addr) (c : Addr) (o : Obj) (x : h.get? c = some o) : (yD h p1 p2 p3).get? c = some o :=
  Heap.get?_push_of_some _ (Heap.get?_push_of_some _ (Heap.get?_push_of_some _ (Heap.get?_push_of_some _ (Heap.get?_push_of_some _ (Heap.get?_push_of_some _ x)))))
theorem new_zip3 (p1 p2 p3 : Addr) (xs ys vs : Array Value) : Meets (Builtin.«zip.__new__» ⟨[.type "zip", .ref p1, .ref p2, .ref p3], []⟩) (fun _ R s => s.heap.IsTuple p1 xs ∧ s.heap.IsTuple p2 ys ∧ s.heap.IsTuple p3 vs ∧ R (.ok (.ret (.ref (yC s.heap p1 p2 p3).objs.size))) { s with heap := yD s.heap p1 p2 p3 }) :=
  .of_wp fun prog w A R s h => by
    obtain ⟨hp, g, d, tk, os⟩ := s
    obtain ⟨hl1, hl2, hl3, h⟩ := h
    have hsub := sub_zip
    have L1 : Heap.IsTuple (Shared.heap ⟨hp, g, d, tk, os⟩) p1 xs := hl1
    have L2 : Heap.IsTuple (Shared.heap ⟨hp.push (itO p1), g, d, tk, os⟩) p2 ys := Heap.IsTuple.push hl2 _
    have L3 : Heap.IsTuple (Shared.heap ⟨(hp.push (itO p1)).push (itO p2), g, d, tk, os⟩) p3 vs := Heap.IsTuple.push (Heap.IsTuple.push hl3 _) _
    wp_walk using wpAny_pyIter_tuple L1, wpAny_pyIter_tuple L2, wpAny_pyIter_tuple L3
    exact ⟨_, rfl, h⟩
theorem call_zip3 {p1 p2 p3 : Addr} {xs ys vs : Array Value} {Q : Value → Shared → Prop} (h1 : s.heap.IsTuple p1 xs) (h2 : s.heap.IsTuple p2 ys) (h3 : s.heap.IsTuple p3 vs)
    (k : ∀ h', Zip3 h' (s.heap.objs.size + 5) (s.heap.objs.size + 3) (s.heap.objs.size + 4) s.heap.objs.size (s.heap.objs.size + 1) (s.heap.objs.size + 2) p1 p2 p3 .none 0 → (∀ c o, s.heap.get? c = some o → h'.get? c = some o) → Q (.ref (s.heap.objs.size + 5)) { s with heap := h' }) :
    wpAny (model P w) A (call (.type "zip") [.ref p1, .ref p2, .ref p3]) Q E s := by
  refine callType_new F.called_zip (by decide) (by kernel_rfl) (by kernel_rfl) (fun obj => by kernel_rfl) F.entry_zip_new (new_zip3 p1 p2 p3 xs ys vs) ⟨h1, h2, h3, ?_⟩
  have Z := y_at s.heap p1 p2 p3
  have e5 : (yC s.heap p1 p2 p3).objs.size = s.heap.objs.size + 5 := by simp only [Heap.size_push]
  show _ ∧ _
  rw [e5]
  exact ⟨⟨_, Z.zip, rfl⟩, k _ Z fun c o x => y_kept s.heap p1 p2 p3 c o x⟩
end
end
section
open PySem PySem.Spec PyProof.Rows L2
theorem trip_out {X : Cx} {pins : List (Addr × Obj)} {σ : L2.St} {H : Hp} {s : Shared} {h' : Heap} {t' : Nat} {ch : List Addr} {x y z : V} {u v o : Value} (I : Inv X pins σ H s) (k : Kept ch s.heap h') (f : ∀ b ∈ ch, FpOk X pins H b) (lt : ∀ b ∈ ch, b < s.heap.objs.size)
    (hp : IsTrip h' s.heap.objs.size u v o) (rx : RelV x u) (ry : RelV y v) (rz : RelV z o) : Inv X pins σ (upd H s.heap.objs.size (.tup [x, y, z])) { s with heap := h', toks := t' } := by
  have I1 : Inv X pins σ (upd H s.heap.objs.size (.tup [x, y, z])) { s with heap := s.heap.push { cls := .type "tuple", data := .seq #[u, v, o] }, toks := s.toks } :=
    I.laid (fun b o e => Heap.get?_push_of_some _ e) (Nat.le_refl _) ⟨by show 3 ≤ sizeLine; decide, [u, v, o], .cons rx (.cons ry (.cons rz .nil)), ⟨_, Heap.get?_push_size _ rfl, rfl, _, rfl⟩⟩
  refine Inv.turnedL (s := { s with heap := s.heap.push { cls := .type "tuple", data := .seq #[u, v, o] }, toks := s.toks }) (ch := ch) I1 (fun c q n e => ?_) fun b hb => ?_
  · replace e : (s.heap.push { cls := .type "tuple", data := .seq #[u, v, o] }).get? c = some q := e
    by_cases z : c = s.heap.objs.size
    · subst z
      rw [Heap.get?_push_size s.heap (o := { cls := .type "tuple", data := .seq #[u, v, o] }) rfl] at e
      cases e
      exact hp
    · rw [Heap.get?_push_ne _ _ _ z] at e
      exact k c q n e
  · obtain ⟨f0, f1⟩ := f b hb
    exact ⟨by rw [upd_ne (Nat.ne_of_lt (lt b hb))]; exact f0, f1⟩
def Itz3 (K : PySem.W.Frag) (a b c : Addr) : It :=
  ⟨fun i H => ∃ xs ys vs x y v, SqT K H a xs ∧ SqT K H b ys ∧ SqT K H c vs ∧ xs[i]? = some x ∧ ys[i]? = some y ∧ vs[i]? = some v,
   fun i H u H' => ∃ t x y v, u = .ref t ∧ H t = none ∧ H' = upd H t (.tup [x, y, v]) ∧ ∀ xs ys vs, SqT K H a xs → SqT K H b ys → SqT K H c vs → xs[i]? = some x ∧ ys[i]? = some y ∧ vs[i]? = some v,
   fun i H => ∃ xs, SqT K H a xs ∧ xs.length ≤ i⟩
theorem turn_zip3 {P : Program} {w : World} {K : PySem.W.Frag} {es : List Expr} {k0 : Nat} {pos : Pos} (p1 p2 p3 z a o q r t : Addr) (D : Apart3 z a o q r t p1 p2 p3) :
    Turn P w K (.Tuple es k0 pos) (Itz3 K p1 p2 p3) [z, a, o, q, r, t] z (fun i h => Zip3 h z a o q r t p1 p2 p3 .none i) where
  mem := by simp
  obj := fun i h Z b hb => by
    obtain ⟨hz, hI, ⟨x, y, v, hO⟩, hq, hr, ht⟩ := Z
    simp only [List.mem_cons, List.mem_nil_iff, or_false, List.not_mem_nil] at hb
    rcases hb with rfl | rfl | rfl | rfl | rfl | rfl
    · exact ⟨_, hz, fun v e => by cases e⟩
    · exact ⟨_, hI, fun v e => by cases e⟩
    · exact ⟨_, hO, fun v e => by cases e⟩
    · exact IsIt.ex (b := true) hq
    · exact IsIt.ex (b := true) hr
    · exact IsIt.ex (b := true) ht
  keep := fun i h h' Z k => by
    obtain ⟨hz, hI, ⟨x, y, v, hO⟩, hq, hr, ht⟩ := Z
    exact ⟨k z (by simp) _ hz, k a (by simp) _ hI, ⟨x, y, v, k o (by simp) _ hO⟩, tit_at hq fun u e => k q (by simp) u e, tit_at hr fun u e => k r (by simp) u e, tit_at ht fun u e => k t (by simp) u e⟩
  item := by
    intro X hP hw hK hc i pins s σ H E I hf Z hg
    subst hP hw hK
    obtain ⟨xs, ys, vs, x, y, v, hxs, hys, hvs, hx, hy, hv⟩ := hg
    obtain ⟨its, rx, px, _⟩ := I.tuple hxs
    obtain ⟨jts, ry, py, _⟩ := I.tuple hys
    obtain ⟨kts, rv, pv, _⟩ := I.tuple hvs
    obtain ⟨u1, hu1, r1⟩ := rx.get hx
    obtain ⟨u2, hu2, r2⟩ := ry.get hy
    obtain ⟨u3, hu3, r3⟩ := rv.get hv
    have ltz : ∀ b ∈ [z, o, q, r, t], b < s.heap.objs.size := fun b hb => by
      obtain ⟨hz, hI, ⟨x, y, v, hO⟩, hq, hr, ht⟩ := id Z
      simp only [List.mem_cons, List.mem_nil_iff, or_false, List.not_mem_nil] at hb
      rcases hb with rfl | rfl | rfl | rfl | rfl
      · exact Heap.lt_size hz
      · exact Heap.lt_size hO
      · exact Heap.lt_size (IsIt.ex (b := true) hq).choose_spec.1
      · exact Heap.lt_size (IsIt.ex (b := true) hr).choose_spec.1
      · exact Heap.lt_size (IsIt.ex (b := true) ht).choose_spec.1
    have lta : a < s.heap.objs.size := Heap.lt_size Z.ins
    have hf5 : ∀ b ∈ [z, o, q, r, t], FpOk X pins H b := fun b hb => hf b (by simp only [List.mem_cons, List.mem_nil_iff, or_false, List.not_mem_nil] at hb ⊢; rcases hb with rfl | rfl | rfl | rfl | rfl <;> simp)
    refine zip3_item D Z (show s.heap.IsTuple p1 its.toArray from px) (show s.heap.IsTuple p2 jts.toArray from py) (show s.heap.IsTuple p3 kts.toArray from pv) (x := u1) (y := u2) (v := u3) (by simpa using hu1) (by simpa using hu2) (by simpa using hu3) fun h' Z' hp sz kk => ?_
    refine ⟨_, rfl, ?_⟩
    refine wpAny_letOwnedTupleGo_zip Z'.zip fun h2 hz2 s2 => ?_
    have nd := D.nd
    simp only [List.nodup_cons, List.mem_cons, List.mem_nil_iff, or_false, not_or, List.not_mem_nil, not_false_eq_true, List.nodup_nil, and_true] at nd
    obtain ⟨⟨za, zo, zq, zr, zt⟩, _⟩ := nd
    have k2 : Kept [z, o, q, r, t] s.heap h2 := kk.trans (Kept.of s2 (by simp))
    have hp2 : IsTrip h2 s.heap.objs.size u1 u2 u3 := s2.extBut _ _ (Nat.ne_of_gt (ltz z (by simp))) hp
    refine ⟨.ref s.heap.objs.size, upd H s.heap.objs.size (.tup [x, y, v]), trip_out (t' := s.toks) I k2 hf5 ltz hp2 r1 r2 r3, rfl, ⟨_, x, y, v, rfl, I.fresh, rfl, fun xs' ys' vs' h1 h2 h3 => ?_⟩, ?_, fun b hb => ?_⟩
    · rw [I.tuple_inj h1 hxs, I.tuple_inj h2 hys, I.tuple_inj h3 hvs]
      exact ⟨hx, hy, hv⟩
    · obtain ⟨_, hI, ⟨x1, y1, v1, hO⟩, hq, hr, ht⟩ := Z'
      exact ⟨hz2, s2.extBut _ _ (Ne.symm za) hI, ⟨x1, y1, v1, s2.extBut _ _ (Ne.symm zo) hO⟩, tit_at hq fun u e => s2.extBut _ _ (Ne.symm zq) e, tit_at hr fun u e => s2.extBut _ _ (Ne.symm zr) e, tit_at ht fun u e => s2.extBut _ _ (Ne.symm zt) e⟩
    · have lb : b < s.heap.objs.size := by
        by_cases e : b = a
        · rw [e]
          exact lta
        · exact ltz b (by simp only [List.mem_cons, List.mem_nil_iff, or_false, List.not_mem_nil] at hb ⊢; rcases hb with h | h | h | h | h | h <;> simp [h]; exact absurd h e)
      rw [upd_ne (Nat.ne_of_lt lb)]
      exact (hf b hb).1
  done := by
    intro X hP hw hK hc i pins s σ H E I hf Z hg
    subst hP hw hK
    obtain ⟨xs, hxs, hl⟩ := hg
    obtain ⟨its, rv, p, _⟩ := I.tuple hxs
    have e1 := rv.length
    have hf5 : ∀ b ∈ [z, o, q, r, t], FpOk X pins H b := fun b hb => hf b (by simp only [List.mem_cons, List.mem_nil_iff, or_false, List.not_mem_nil] at hb ⊢; rcases hb with rfl | rfl | rfl | rfl | rfl <;> simp)
    exact zip3_end (I.ok.hd hc) D Z (show s.heap.IsTuple p1 its.toArray from p) (by simp; omega) fun h' kk => ⟨rfl, I.turnedL (t' := s.toks) kk hf5⟩
  self := fun _ _ _ _ _ Z h => wpAny_pyIter_zip Z.zip h
theorem apart3_new {n p1 p2 p3 : Nat} (h1 : p1 < n) (h2 : p2 < n) (h3 : p3 < n) : Apart3 (n + 5) (n + 3) (n + 4) n (n + 1) (n + 2) p1 p2 p3 := by
  have no : ∀ p, p < n → p ∉ [n + 5, n + 4, n, n + 1, n + 2] := fun p hp h => by
    simp only [List.mem_cons, List.mem_nil_iff, or_false, List.not_mem_nil] at h
    omega
  refine ⟨?_, no _ h1, no _ h2, no _ h3⟩
  simp only [List.nodup_cons, List.mem_cons, List.mem_nil_iff, or_false, not_or, List.not_mem_nil, not_false_eq_true, List.nodup_nil, and_true]
  have ne : ∀ a b : Nat, a ≠ b → ¬ a = b := fun _ _ h => h
  exact ⟨⟨ne _ _ (by omega), ne _ _ (by omega), ne _ _ (by omega), ne _ _ (by omega), ne _ _ (by omega)⟩, ⟨ne _ _ (by omega), ne _ _ (by omega), ne _ _ (by omega), ne _ _ (by omega)⟩, ⟨ne _ _ (by omega), ne _ _ (by omega), ne _ _ (by omega)⟩, ⟨ne _ _ (by omega), ne _ _ (by omega)⟩, ne _ _ (by omega)⟩
def iZip3 (K : PySem.W.Frag) (ta : TA) : TI := fun σ H R => ta σ H fun vs H1 => ∃ a b c xs ys zs, vs = [.ref a, .ref b, .ref c] ∧ SqT K H1 a xs ∧ SqT K H1 b ys ∧ SqT K H1 c zs ∧ R (Itz3 K a b c) H1
theorem pi_zip3 {X : Cx} {es : List Expr} {k0 : Nat} {tp : Pos} {a b c : Expr} {ta : TA} {p pos : Pos} (hg : Gl X "zip") (hm : X.mg "zip" = none) (ha : PA X [a, b, c] ta) (hs : starEach [a, b, c] X.env = [(false, eval a X.env), (false, eval b X.env), (false, eval c X.env)] := by rfl) (hs2 : starEach [b, c] X.env = [(false, eval b X.env), (false, eval c X.env)] := by rfl) :
    PI X (.Tuple es k0 tp) (.Call (.Name "zip" p) [a, b, c] [] pos) (iZip3 X.K ta) := by
  intro pins s σ H R I h
  refine Call_ (ld_blt I hg hm boot_zip (PyProof.Rows.callWith_type1 (thn (ha pos pins s σ H _ I h) fun us s1 ⟨vs, H1, I1, r1, q1⟩ => ?_) (by rw [hs, hs2]) (by rw [hs2]; rfl)))
  obtain ⟨p1, p2, p3, xs, ys, zs, e, h1, h2, h3, q⟩ := q1
  subst e
  obtain ⟨its, _, t1, _⟩ := I1.tuple h1
  obtain ⟨jts, _, t2, _⟩ := I1.tuple h2
  obtain ⟨kts, _, t3, _⟩ := I1.tuple h3
  cases r1 with
  | cons r rr =>
    cases rr with
    | cons r' rr =>
      cases rr with
      | cons r'' rr =>
        cases rr
        cases r
        cases r'
        cases r''
        have l1 : p1 < s1.heap.objs.size := by obtain ⟨o, e, _⟩ := t1; exact Heap.lt_size e
        have l2 : p2 < s1.heap.objs.size := by obtain ⟨o, e, _⟩ := t2; exact Heap.lt_size e
        have l3 : p3 < s1.heap.objs.size := by obtain ⟨o, e, _⟩ := t3; exact Heap.lt_size e
        have ge : ∀ b ∈ [s1.heap.objs.size + 5, s1.heap.objs.size + 3, s1.heap.objs.size + 4, s1.heap.objs.size, s1.heap.objs.size + 1, s1.heap.objs.size + 2], s1.heap.objs.size ≤ b := fun b hb => by
          simp only [List.mem_cons, List.mem_nil_iff, or_false, List.not_mem_nil] at hb
          rcases hb with rfl | rfl | rfl | rfl | rfl | rfl <;> omega
        refine call_zip3 t1 t2 t3 fun h' Z kk => wpAny_pyIter_zip Z.zip ?_
        refine ⟨_, _, _, _, H1, rfl, I1.kept (t' := s1.toks) kk, turn_zip3 p1 p2 p3 _ _ _ _ _ _ (apart3_new l1 l2 l3), Z, fun b hb => ?_, q⟩
        exact I1.fpOk (ge b hb) (I1.hok.fresh (ge b hb))
section
variable {K : PySem.W.Frag} {H : Hp} {R : It → Hp → Prop} {a b c : Addr} {xs ys zs : List V} {vs : List V}
def Zip3R (K : PySem.W.Frag) (vs : List V) (H : Hp) (R : It → Hp → Prop) : Prop := ∃ a b c xs ys zs, vs = [.ref a, .ref b, .ref c] ∧ SqT K H a xs ∧ SqT K H b ys ∧ SqT K H c zs ∧ R (Itz3 K a b c) H
theorem zip3_ {ta : TA} {σ : L2.St} : iZip3 K ta σ H R = ta σ H fun vs H1 => Zip3R K vs H1 R := rfl
theorem Zip3R.go (h1 : SqT K H a xs) (h2 : SqT K H b ys) (h3 : SqT K H c zs) (q : R (Itz3 K a b c) H) : Zip3R K [.ref a, .ref b, .ref c] H R := ⟨a, b, c, xs, ys, zs, rfl, h1, h2, h3, q⟩
theorem ForR.trips {l m n : Nat} {tb : TS} {D : Ends} {σ : L2.St} {len : Nat} (e1 : xs.length = len) (e2 : ys.length = len) (e3 : zs.length = len) (Pv : Nat → L2.St → Hp → Prop) (h0 : Pv 0 σ H) (hl : ∀ i σ H, Pv i σ H → SqT K H a xs ∧ SqT K H b ys ∧ SqT K H c zs)
    (hs : ∀ i x y z t σ H, xs[i]? = some x → ys[i]? = some y → zs[i]? = some z → Pv i σ H → H t = none → tb { D with nx := Pv (i + 1), ct := Pv (i + 1), bk := D.nx } (((σ.set l (some x)).set m (some y)).set n (some z)) (upd H t (.tup [x, y, z]))) (hd : ∀ σ H, Pv len σ H → D.nx σ H) :
    ForR (Itz3 K a b c) (gTup K 3 (gCons (gName l) (gCons (gName m) (gCons (gName n) gNil)))) tb D σ H := by
  refine ⟨fun i k σ H => k = len - i ∧ i ≤ len ∧ Pv i σ H, ⟨_, rfl, Nat.zero_le _, h0⟩, fun i k σ' H' hw => ?_⟩
  obtain ⟨rfl, hi, p⟩ := hw
  obtain ⟨o1, o2, o3⟩ := hl i σ' H' p
  by_cases lt : i < len
  · refine .inr ⟨⟨xs, ys, zs, xs[i]'(by omega), ys[i]'(by omega), zs[i]'(by omega), o1, o2, o3, List.getElem?_eq_getElem _, List.getElem?_eq_getElem _, List.getElem?_eq_getElem _⟩, Pv (i + 1), fun σ2 H2 n2 => ⟨_, ?_, rfl, lt, n2⟩, fun v H2 y => ?_⟩
    · omega
    · obtain ⟨t, x, y, z, rfl, nt, rfl, h⟩ := y
      obtain ⟨q1, q2, q3⟩ := h xs ys zs o1 o2 o3
      exact gtup3 (SqT.of upd_same) (hs i x y z t σ' H' q1 q2 q3 p nt)
  · obtain rfl : i = len := by omega
    exact .inl ⟨⟨xs, o1, by omega⟩, hd σ' H' p⟩
end
end
--CUT--
theorem lit_dot : ("." : Str) = ⟨#[46]⟩ := by decide +kernel
def lowOf (a b : Int) : Int := a / SvM.sz b * SvM.sz b
def spBeg : Sp := fun vs H Q _ => ∃ a b : Int, vs = [.int a, .int b] ∧ 0 ≤ a ∧ 0 ≤ b ∧ b ≤ 32 ∧ ∀ p, H p = none → Q (.ref p) (upd H p (.tup [.int (lowOf a b), .int (lowOf a b + SvM.sz b - 1)]))
theorem ok_beginning (F : Fun K "beginning" "beginning" s_beginning f fd) (hG : ∃ u, mg "GREATEST_ADDRESS" = some u ∧ RelV (.int 4294967295) u) : FnOk P w K mg base CX0 1 f fd ["address", "bits"] spBeg := by
  refine F.ok sc_beginning (fun vs H Q E h => ?_) (fun cdv A outer s H vs Q E hr h => ?_)
  · obtain ⟨a, b, rfl, _⟩ := h
    rfl
  obtain ⟨a, b, rfl, ha, hb0, hb1, q⟩ := h
  obtain ⟨uG, m_GREATEST_ADDRESS, r_GREATEST_ADDRESS⟩ := hG
  refine ⟨_, (@pss_cons _ _ _ _ _ (@ps_set _ _ (2) _ _ _ _ sc_beginning.nd rfl (Or.inl rfl) (@pe_op _ _ _ _ _ _ _ _ op_shr (@pe_glob _ _ _ _ _ rfl m_GREATEST_ADDRESS r_GREATEST_ADDRESS (by decide)) (pv 1)) (by rfl) (by first | exact .inl rfl | exact .inr rfl | assumption)) (@pss_cons _ _ _ _ _ (@ps_set _ _ (3) _ _ _ _ sc_beginning.nd rfl (Or.inl rfl) (@pe_op _ _ _ _ _ _ _ _ op_or (pv 0) (pv 2)) (by rfl) (by first | exact .inl rfl | exact .inr rfl | assumption)) (@pss_one _ _ _ (@ps_ret _ _ _ _ (@pe_tup _ _ _ _ _ (@pa_cons _ _ _ _ _ (@pe_op _ _ _ _ _ _ _ _ op_sub (pv 3) (pv 2)) (@pa_cons _ _ _ _ _ (pv 3) pa_nil (by rfl)) (by rfl))))))), ?_⟩
  rw [st_beginning]
  walk_at "sv"
  refine ⟨hb0, ?_⟩
  rw [SvM.free_bits hb0 hb1, SvM.or_mask ha]
  have e : a / SvM.sz b * SvM.sz b + SvM.sz b - 1 - (SvM.sz b - 1) = lowOf a b := by unfold lowOf; omega
  rw [e]
  exact TupR.go (by simp) q
def spShared : Sp := fun vs H Q _ => ∃ a b : Int, vs = [.int a, .int b] ∧ Q (.int (32 - ((Builtin.Int.intBits (Builtin.bitXor a b) : Nat) : Int))) H
theorem ok_shared (F : Fun K "shared" "shared" s_shared f fd) (hG : ∃ u, mg "ADDRESS_BITS" = some u ∧ RelV (.int 32) u) : FnOk P w K mg base CX0 1 f fd ["one", "other"] spShared := by
  refine F.ok sc_shared (fun vs H Q E h => ?_) (fun cdv A outer s H vs Q E hr h => ?_)
  · obtain ⟨a, b, rfl, _⟩ := h
    rfl
  obtain ⟨a, b, rfl, q⟩ := h
  obtain ⟨uG, m_ADDRESS_BITS, r_ADDRESS_BITS⟩ := hG
  refine ⟨_, (@pss_one _ _ _ (@ps_ret _ _ _ _ (@pe_op _ _ _ _ _ _ _ _ op_sub (@pe_glob _ _ _ _ _ rfl m_ADDRESS_BITS r_ADDRESS_BITS (by decide)) (@pe_bm0 _ _ _ _ _ _ _ _ _ PySem.F.plainAttrs_int PySem.F.slot_int_bit_length PySem.F.type_int_bit_length mt_bits (@pe_op _ _ _ _ _ _ _ _ op_xor (pv 0) (pv 1)) (by rfl) (by rfl))))), ?_⟩
  rw [st_shared]
  walk_at "sv"
  exact q
def bo (lo hi : Int) : Int := 32 - ((Builtin.Int.intBits (Builtin.bitXor lo hi) : Nat) : Int)
theorem bo_range {lo hi : Int} (h0 : 0 ≤ lo) (h1 : 0 ≤ hi) (h2 : lo < 4294967296) (h3 : hi < 4294967296) : 0 ≤ bo lo hi ∧ bo lo hi ≤ 32 := by
  have z := SvM.xor_bits_le h0 h1 h2 h3
  unfold bo
  omega
def foundOf (lo hi : Int) : V := if lowOf lo (bo lo hi) = lo ∧ lowOf lo (bo lo hi) + SvM.sz (bo lo hi) - 1 = hi then .int (bo lo hi) else .non
def spBitsOf : Sp := fun vs H Q _ => ∃ lo hi : Int, vs = [.int lo, .int hi] ∧ 0 ≤ lo ∧ lo < 4294967296 ∧ 0 ≤ hi ∧ hi < 4294967296 ∧ ∀ H', Same H H' → Q (foundOf lo hi) H'
theorem ok_bits_of (F : Fun K "bits_of" "bits_of" s_bits_of f fd) (g_beginning : Fn P w K mg base "beginning" 1 ["address", "bits"] spBeg) (g_shared : Fn P w K mg base "shared" 1 ["one", "other"] spShared) :
    FnOk P w K mg base CX0 2 f fd ["low", "high"] spBitsOf := by
  refine F.ok sc_bits_of (fun vs H Q E h => ?_) (fun cdv A outer s H vs Q E hr h => ?_)
  · obtain ⟨a, b, rfl, _⟩ := h
    rfl
  obtain ⟨lo, hi, rfl, l0, l1, h0, h1, q⟩ := h
  obtain ⟨b0, b1⟩ := bo_range l0 h0 l1 h1
  refine ⟨_, (@pss_cons _ _ _ _ _ (@ps_set _ _ (2) _ _ _ _ sc_bits_of.nd rfl (Or.inl rfl) (@pe_fn _ _ _ _ _ _ _ _ _ _ _ g_shared hr (by decide) rfl (@pa_cons _ _ _ _ _ (pv 0) (@pa_cons _ _ _ _ _ (pv 1) pa_nil (by rfl)) (by rfl)) (by decide) (by rfl) (by rfl)) (by rfl) (by first | exact .inl rfl | exact .inr rfl | assumption)) (@pss_cons _ _ _ _ _ (@ps_if _ _ _ _ _ _ _ _ (@pt_cmpR _ _ _ _ _ _ _ _ (op_eqD hr.units) (@pe_fn _ _ _ _ _ _ _ _ _ _ _ g_beginning hr (by decide) rfl (@pa_cons _ _ _ _ _ (pv 0) (@pa_cons _ _ _ _ _ (pv 2) pa_nil (by rfl)) (by rfl)) (by decide) (by rfl) (by rfl)) (@pe_tup _ _ _ _ _ (@pa_cons _ _ _ _ _ (pv 0) (@pa_cons _ _ _ _ _ (pv 1) pa_nil (by rfl)) (by rfl))) (nomark _)) (@pss_one _ _ _ (@ps_ret _ _ _ _ (pv 2))) pss_nil) (@pss_one _ _ _ (@ps_ret _ _ _ _ pe_non)))), ?_⟩
  rw [st_bits_of]
  walk_at "sv"
  refine ⟨lo, hi, rfl, ?_⟩
  rw [show 32 - ((Builtin.Int.intBits (Builtin.bitXor lo hi) : Nat) : Int) = bo lo hi from rfl]
  walk_at "sv"
  refine ⟨lo, bo lo hi, rfl, l0, b0, b1, fun p hp => ?_⟩
  refine TupR.go (by simp) fun p2 hp2 => ?_
  have t1 := same_new hp2 (.tup [.int lo, .int hi]) p _ upd_same
  refine ⟨_, _, .tup (.inl t1) (.cons (.int _) (.cons (.int _) .nil)), .tup (.inl upd_same) (.cons (.int _) (.cons (.int _) .nil)), rfl, rfl, ?_⟩
  have s1 := (same_new hp (.tup [.int (lowOf lo (bo lo hi)), .int (lowOf lo (bo lo hi) + SvM.sz (bo lo hi) - 1)])).trans (same_new hp2 (.tup [.int lo, .int hi]))
  have q1 := q _ s1
  unfold foundOf at q1
  rw [eq_pair]
  walk_at "sv"
  refine BrS.dec (fun c => ?_) (fun c => ?_)
  · rw [if_pos c] at q1
    walk_at "sv"
    exact q1
  · rw [if_neg c] at q1
    walk_at "sv"
    exact q1
def Due (lo hi d : Int) : Prop := (d = -1 ∧ ∀ k : Int, 0 ≤ k → k ≤ 32 → ¬ (hi - lo + 1 = SvM.sz k ∧ lo % SvM.sz k = 0)) ∨ (0 ≤ d ∧ d ≤ 32 ∧ hi - lo + 1 = SvM.sz d ∧ lo % SvM.sz d = 0)
theorem due_found {lo hi d : Int} (h : Due lo hi d) (h0 : 0 ≤ lo) (h1 : 0 ≤ hi) (h2 : lo < 4294967296) (h3 : hi < 4294967296) : (d = -1 ∧ foundOf lo hi = .non) ∨ (0 ≤ d ∧ foundOf lo hi = .int d) := by
  rcases h with ⟨rfl, no⟩ | ⟨d0, d1, e, m⟩
  · refine .inl ⟨rfl, ?_⟩
    unfold foundOf
    rw [if_neg]
    intro c
    obtain ⟨b0, b1⟩ := bo_range h0 h1 h2 h3
    refine no (bo lo hi) b0 b1 ⟨by omega, ?_⟩
    exact Int.emod_eq_zero_of_dvd ⟨lo / SvM.sz (bo lo hi), by rw [Int.mul_comm]; exact c.1.symm⟩
  · refine .inr ⟨d0, ?_⟩
    have eb : bo lo hi = d := by
      have z := SvM.ends_bits (lo := lo) (hi := hi) (k := (32 - d).toNat) h0 m e
      unfold bo
      rw [z]
      omega
    have el : lowOf lo d = lo := by
      have dm := Int.mul_ediv_add_emod lo (SvM.sz d)
      unfold lowOf
      rw [Int.mul_comm]
      omega
    unfold foundOf
    rw [eb, el, if_pos ⟨rfl, by omega⟩]
def partT (a : Int) (k : Int) : Str := toString (a / 2 ^ k.toNat % 256)
def spShow (K : PySem.W.Frag) : Sp := fun vs H Q _ => ∃ a : Int, vs = [.int a] ∧ ∀ H', Same H H' → Q (.str (Str.join ⟨#[46]⟩ [partT a 24, partT a 16, partT a 8, partT a 0])) H'
def shiftV (a : Int) : V → V
  | .int k => .str (partT a k)
  | _ => .non
theorem num_len {n : Int} (h0 : 0 ≤ n) (h1 : n < 256) : (Str.ofString (toString n)).length ≤ 10 := by
  have := PySem.W.KT.len_num h0 (show n < 10 ^ 10 by omega)
  exact this
theorem ok_show (F : Fun K "show_address" "show_address" s_show_address f fd) (c_SHIFTS : ∃ a, mg "PART_SHIFTS" = some (.ref a) ∧ ∀ H, SqT K H a [.int 24, .int 16, .int 8, .int 0]) (c_SIZE : ∃ u, mg "PART_SIZE" = some u ∧ RelV (.int 256) u)
    (b_str : mg "str" = none) : FnOk P w K mg base CX0 1 f fd ["address"] (spShow K) := by
  refine F.ok sc_show_address (fun vs H Q E h => ?_) (fun cdv A outer s H vs Q E hr h => ?_)
  · obtain ⟨z, rfl, _⟩ := h
    rfl
  obtain ⟨a, rfl, q⟩ := h
  obtain ⟨pa, m_PART_SHIFTS, hT⟩ := c_SHIFTS
  have r_PART_SHIFTS : RelV (.ref pa) (.ref pa) := rfl
  obtain ⟨_, m_PART_SIZE, r_PART_SIZE⟩ := c_SIZE
  refine ⟨_, (@pss_one _ _ _ (@ps_ret _ _ _ _ (@pe_bm _ _ _ _ _ _ _ _ _ _ _ _ PySem.F.plainAttrs_str PySem.F.slot_str_join PySem.F.type_str_join mt_join pe_str (@pa_cons _ _ _ _ _ (@pe_comp _ _ (["shift"]) ([0]) _ _ _ _ _ _ _ _ _ rfl (COk.of (out := defScope s_show_address) (N := ["address"]) rfl rfl (by decide +kernel)) (@pi_tup _ _ _ _ (@pe_glob _ _ _ _ _ rfl m_PART_SHIFTS r_PART_SHIFTS (by decide))) (fun _ _ _ => (@pg_name _ _ (0) _ (show List.Nodup (["shift", "address"] : List Str) by decide +kernel) rfl (Or.inl rfl) (by first | exact .inl rfl | exact .inr rfl | assumption))) (fun _ _ _ => pifs_nil) (fun _ _ _ => (@pe_callTy _ _ _ _ _ _ _ _ _ call_strI rfl b_str bo_str (@pa_cons _ _ _ _ _ (@pe_op _ _ _ _ _ _ _ _ op_mod (@pe_op _ _ _ _ _ _ _ _ op_shr (pv 1) (pv 0)) (@pe_glob _ _ _ _ _ rfl m_PART_SIZE r_PART_SIZE (by decide))) pa_nil (by rfl)) (by decide) (by decide) (by rfl) (by rfl))) (by intro _; rfl)) pa_nil (by rfl)) (by rfl) (by rfl) (by rfl) (by rfl) (by rfl)))), ?_⟩
  rw [st_show_address]
  walk_at "sv"
  refine ItR.go (hT _) ?_
  refine CmpR.mapS (shiftV a) itt (by simp) (fun H' _ => hT H') (fun x H' Q' hx sm q' => ?_) (fun D H1 hD s1 hl1 => ?_)
  · have hx' : ∃ k : Int, x = .int k ∧ 0 ≤ k := by
      simp only [List.mem_cons, List.not_mem_nil, or_false] at hx
      rcases hx with rfl | rfl | rfl | rfl
      · exact ⟨24, rfl, by decide⟩
      · exact ⟨16, rfl, by decide⟩
      · exact ⟨8, rfl, by decide⟩
      · exact ⟨0, rfl, by decide⟩
    obtain ⟨k, rfl, k0⟩ := hx'
    walk_at "sv"
    refine ⟨k0, by decide, ?_⟩
    have p1 : 0 ≤ a / 2 ^ k.toNat % 256 := Int.emod_nonneg _ (by decide)
    have p2 : a / 2 ^ k.toNat % 256 < 256 := Int.emod_lt_of_pos _ (by decide)
    refine strI_go (log_small p1 (by omega)) ?_
    exact q' _ (Same.refl _)
  have e1 : ([.int 24, .int 16, .int 8, .int 0] : List V).map (shiftV a) = [partT a 24, partT a 16, partT a 8, partT a 0].map V.str := rfl
  rw [e1] at hl1
  walk_at "sv"
  rw [lit_dot]
  refine join_go (SqL.of hl1) (joinOk_small ?_) (q H1 s1)
  have pl : ∀ k, (partT a k).length ≤ 10 := fun k => num_len (Int.emod_nonneg _ (by decide)) (Int.emod_lt_of_pos _ (by decide))
  have p1 := pl 24
  have p2 := pl 16
  have p3 := pl 8
  have p4 := pl 0
  have c : (⟨#[46]⟩ : Str).length = 1 := rfl
  simp only [List.map_cons, List.map_nil, List.sum_cons, List.sum_nil, List.length_cons, List.length_nil, c]
  omega
def spFn (g : Int → Str) (ok : Int → Prop) : Sp := fun vs H Q _ => ∃ n, vs = [.int n] ∧ ok n ∧ ∀ H', Same H H' → Q (.str (g n)) H'
def endsT (g : Int → Str) (lo hi : Int) : Str := if lo = hi then g lo else g lo ++ ⟨#[45]⟩ ++ g hi
theorem lit_minus : ("-" : Str) = ⟨#[45]⟩ := by decide +kernel
def spEnds (P : Program) (w : World) (K : PySem.W.Frag) (mg : Str → Option Value) (base : Heap) : Sp := fun vs H Q _ => ∃ (p h : Addr) (lo hi : Int) (g : Int → Str) (ok : Int → Prop), vs = [.ref p, .ref h] ∧ H p = some (.tup [.int lo, .int hi]) ∧ ok lo ∧ ok hi ∧ (∀ n, ok n → (g n).length ≤ 100) ∧
  (∀ H', Same H H' → CalAt K H' h ∧ RunV P w K mg base 1 h (spFn g ok) H') ∧ ∀ H', Same H H' → Q (.str (endsT g lo hi)) H'
theorem ok_ends (F : Fun K "show_ends" "show_ends" s_show_ends f fd) : FnOk P w K mg base CX0 2 f fd ["stretch", "show_end"] (spEnds P w K mg base) := by
  refine F.ok sc_show_ends (fun vs H Q E h => ?_) (fun cdv A outer s H vs Q E hr h => ?_)
  · obtain ⟨_, _, _, _, _, _, rfl, _⟩ := h
    rfl
  obtain ⟨p, h, lo, hi, g, ok, rfl, hp, o1, o2, gl, hv, q⟩ := h
  refine ⟨_, (@pss_cons _ _ _ _ _ (@ps_if _ _ _ _ _ _ _ _ (@pt_cmpR _ _ _ _ _ _ _ _ op_eq (@pe_ix _ _ _ _ _ _ _ ix_tup (pv 0) pe_int (fun _ _ => rfl)) (@pe_ix _ _ _ _ _ _ _ ix_tup (pv 0) pe_int (fun _ _ => rfl)) (nomark _)) (@pss_one _ _ _ (@ps_ret _ _ _ _ (@pe_callV _ (1) _ _ _ _ _ _ _ _ hr (by decide) (pv 1) (@pa_cons _ _ _ _ _ (@pe_ix _ _ _ _ _ _ _ ix_tup (pv 0) pe_int (fun _ _ => rfl)) pa_nil (by rfl)) (by rfl) (by rfl)))) pss_nil) (@pss_one _ _ _ (@ps_ret _ _ _ _ (@pe_op _ _ _ _ _ _ _ _ op_addS (@pe_op _ _ _ _ _ _ _ _ op_addS (@pe_callV _ (1) _ _ _ _ _ _ _ _ hr (by decide) (pv 1) (@pa_cons _ _ _ _ _ (@pe_ix _ _ _ _ _ _ _ ix_tup (pv 0) pe_int (fun _ _ => rfl)) pa_nil (by rfl)) (by rfl) (by rfl)) pe_str) (@pe_callV _ (1) _ _ _ _ _ _ _ _ hr (by decide) (pv 1) (@pa_cons _ _ _ _ _ (@pe_ix _ _ _ _ _ _ _ ix_tup (pv 0) pe_int (fun _ _ => rfl)) pa_nil (by rfl)) (by rfl) (by rfl)))))), ?_⟩
  rw [st_show_ends]
  have l1 := gl lo o1
  have l2 := gl hi o2
  walk_at "ix"
  refine BrS.dec (fun c => ?_) (fun c => ?_)
  · walk_at "sv"
    refine ⟨h, rfl, (hv _ (Same.refl _)).1, ?_⟩
    walk_at "ix"
    refine ⟨fun o e => e, spFn g ok, (hv _ (Same.refl _)).2, lo, rfl, o1, fun H1 s1 => ?_⟩
    have e : endsT g lo hi = g lo := if_pos c
    rw [e] at q
    exact q _ s1
  · walk_at "sv"
    have e : endsT g lo hi = g lo ++ ⟨#[45]⟩ ++ g hi := if_neg c
    rw [e] at q
    refine ⟨h, rfl, (hv _ (Same.refl _)).1, ?_⟩
    walk_at "ix"
    refine ⟨fun o e => e, spFn g ok, (hv _ (Same.refl _)).2, lo, rfl, o1, fun H1 s1 => ?_⟩
    rw [lit_minus]
    have lm : (⟨#[45]⟩ : Str).length = 1 := rfl
    refine addS_go (by rw [lm]; omega) ?_
    have hp1 := s1 _ _ hp
    refine ⟨h, rfl, (hv _ s1).1, ?_⟩
    walk_at "ix"
    refine ⟨fun o e => e, spFn g ok, (hv _ s1).2, hi, rfl, o2, fun H2 s2 => ?_⟩
    refine addS_go (by rw [Str.length_append, lm]; omega) ?_
    exact q _ (s1.trans s2)
abbrev num (n : Int) : Str := Str.ofString (toString n)
theorem num_l {n : Int} (h0 : 0 ≤ n) (h1 : n ≤ 4294967296) : (Str.ofString (toString n)).length ≤ 10 := PySem.W.KT.len_num h0 (by omega)
def lamQ : Str := (envOfC "show_numbers" (defScope s_show_numbers) 0 0 .none).qual ++ "<lambda>"
abbrev lamA : Arguments := { posonlyargs := [], args := [{ arg := "end", annotation := none, pos := ⟨81, 37, 81, 40⟩ }], vararg := none, kwonlyargs := [], kw_defaults := [], kwarg := none, defaults := [] }
abbrev lamB : Expr := .Call (.Name "str" ⟨81, 42, 81, 45⟩) [.Name "end" ⟨81, 46, 81, 49⟩] [] ⟨81, 42, 81, 50⟩
abbrev lamS : Scope := { kind := .function, names := [("end", .local), ("str", .globalImplicit)], isGenerator := false, isCoroutine := false, more := [] }
theorem lam_num {h c' : Addr} {o : Obj} {H : Hp} (L : LamObj lamQ lamA lamB lamS c' o) (hf : H h = some (lamO h o)) (hc : H c' = some (codO c' lamQ)) (b_str : mg "str" = none) : CalAt K H h ∧ RunV P w K mg base 1 h (spFn num fun n => 0 ≤ n ∧ n ≤ 4294967295) H := by
  refine ⟨.inr ⟨o, ?_⟩, lam_run (k := 0) (N := ["end"]) (ps := ["end"]) L ⟨rfl, rfl, rfl, by decide +kernel, rfl, by decide +kernel, by decide +kernel⟩ hf hc (fun vs Q E h => ?_) (fun pm ctv us hl => ?_) (fun A outer s vs Q E hr h => ?_)⟩
  · obtain ⟨pm, ctv, rfl⟩ := L
    exact ⟨_, hf, rfl⟩
  · obtain ⟨n, rfl, _⟩ := h
    rfl
  · obtain ⟨u, rfl⟩ := us1 hl
    rfl
  · obtain ⟨n, rfl, hn, q⟩ := h
    refine ⟨_, pe_callTy call_strI rfl b_str bo_str (pa_cons (pv 0) pa_nil), ?_⟩
    exact ⟨_, rfl, strI_go (log_small hn.1 (by omega)) (q _ (Same.refl _))⟩
def SameB (T : Addr) (H H' : Hp) : Prop := ∀ a o, a ≠ T → H a = some o → H' a = some o
def TabOk (T : Addr) (H : Hp) : Prop := ∃ ps, H T = some (tabO T ps) ∧ (ps = #[] ∨ ∃ c', ps = #[rawInt 81, rawInt 30, .ref c'] ∧ H c' = some (codO c' lamQ))
def spNums (T : Addr) : Sp := fun vs H Q _ => ∃ (p : Addr) (lo hi : Int), vs = [.ref p] ∧ H p = some (.tup [.int lo, .int hi]) ∧ (0 ≤ lo ∧ lo ≤ 4294967295) ∧ (0 ≤ hi ∧ hi ≤ 4294967295) ∧ TabOk T H ∧ ∀ H', SameB T H H' → TabOk T H' → Q (.str (endsT num lo hi)) H'
theorem ok_nums {c T : Addr} (F : Fun K "show_numbers" "show_numbers" s_show_numbers f fd) (hc : fd.code = .ref c) (hT : ∀ h, K.In h → PySem.W.CodeHd h c T) (hB : BltAt mg base) (g_show_ends : Fn P w K mg base "show_ends" 2 ["stretch", "show_end"] (spEnds P w K mg base)) (b_str : mg "str" = none) :
    FnOk P w K mg base CX0 3 f fd ["stretch"] (spNums T) := by
  refine fun_okC F hc sc_show_numbers (fun vs H Q E h => ?_) (fun A outer s H vs Q E hr h => ?_)
  · obtain ⟨_, _, _, rfl, _⟩ := h
    rfl
  obtain ⟨p, lo, hi, rfl, hp, h1, h2, ⟨ps, hps, tab⟩, q⟩ := h
  refine ⟨_, (@pss_one _ _ _ (@ps_ret _ _ _ _ (@pe_fn _ _ _ _ _ _ _ _ _ _ _ g_show_ends hr (by decide) rfl (@pa_cons _ _ _ _ _ (pv 0) (@pa_cons _ _ _ _ _ (@pe_lam _ _ _ _ _ _ _ rfl hT hB rfl (by rfl)) pa_nil (by rfl)) (by rfl)) (by decide) (by rfl) (by rfl)))), ?_⟩
  rw [st_show_numbers]
  walk_at "sv"
  have key : ∀ (h c' : Addr) (o : Obj) (H1 : Hp), LamObj lamQ lamA lamB lamS c' o → H1 h = some (lamO h o) → H1 c' = some (codO c' lamQ) → SameB T H H1 → H1 p = some (.tup [.int lo, .int hi]) → (∃ ps, H1 T = some (tabO T ps) ∧ (ps = #[] ∨ ∃ c', ps = #[rawInt 81, rawInt 30, .ref c'] ∧ H1 c' = some (codO c' lamQ))) → spEnds P w K mg base [.ref p, .ref h] H1 Q E0 := fun h c' o H1 L hf hc' sb hp1 tk => by
    refine ⟨p, h, lo, hi, num, fun n => 0 ≤ n ∧ n ≤ 4294967295, rfl, hp1, h1, h2, fun n hn => Nat.le_trans (num_l hn.1 (by omega)) (by decide), fun H2 s2 => lam_num L (s2 _ _ hf) (s2 _ _ hc') b_str, fun H2 s2 => ?_⟩
    obtain ⟨ps, e, r⟩ := tk
    refine q H2 (fun a o ha e => s2 _ _ (sb a o ha e)) ⟨ps, s2 _ _ e, ?_⟩
    rcases r with r | ⟨c2, r, e2⟩
    · exact .inl r
    · exact .inr ⟨c2, r, s2 _ _ e2⟩
  have npT : p ≠ T := fun z => by
    rw [z, hps] at hp
    cases hp
  rcases tab with rfl | ⟨c', rfl, hc'⟩
  · refine ⟨#[], hps, trivial, .inl ⟨rfl, fun h c' o nh nc ne L => ?_⟩⟩
    have ncT : c' ≠ T := fun z => by rw [z, hps] at nc; cases nc
    have nhT : h ≠ T := fun z => by rw [z, hps] at nh; cases nh
    refine key h c' o _ L upd_same ((upd_ne (Ne.symm ne)).trans upd_same) (fun a u ha e => ?_) ?_ ⟨_, (upd_ne (Ne.symm nhT)).trans ((upd_ne (Ne.symm ncT)).trans upd_same), .inr ⟨c', rfl, (upd_ne (Ne.symm ne)).trans upd_same⟩⟩
    · rw [upd_ne (ne_of_none e nh), upd_ne (ne_of_none e nc), upd_ne ha]
      exact e
    · rw [upd_ne (ne_of_none hp nh), upd_ne (ne_of_none hp nc), upd_ne npT]
      exact hp
  · refine ⟨_, hps, ?_, .inr ⟨c', rfl, fun h o nh L => ?_⟩⟩
    · exact trivial
    · have s1 := same_new nh (lamO h o)
      exact key h c' o _ L upd_same (s1 _ _ hc') (fun a u _ e => s1 _ _ e) (s1 _ _ hp) ⟨_, s1 _ _ hps, .inr ⟨c', rfl, s1 _ _ hc'⟩⟩
def dotP (n : Int) : Str := Str.join ⟨#[46]⟩ [partT n 24, partT n 16, partT n 8, partT n 0]
theorem part_l (n k : Int) : (partT n k).length ≤ 10 := num_len (Int.emod_nonneg _ (by decide)) (Int.emod_lt_of_pos _ (by decide))
theorem dotP_l (n : Int) : (dotP n).length ≤ 43 := by
  have a := part_l n 24
  have b := part_l n 16
  have c := part_l n 8
  have d := part_l n 0
  show (partT n 24 ++ ⟨#[46]⟩ ++ (partT n 16 ++ ⟨#[46]⟩ ++ (partT n 8 ++ ⟨#[46]⟩ ++ partT n 0)) : Str).length ≤ 43
  have e : (⟨#[46]⟩ : Str).length = 1 := rfl
  simp only [Str.length_append, e]
  omega
def adrT (lo hi : Int) : Str := match foundOf lo hi with
  | .int b => if b = 32 then endsT dotP lo hi else dotP lo ++ ⟨#[47]⟩ ++ num b
  | _ => endsT dotP lo hi
theorem lit_slash : ("/" : Str) = ⟨#[47]⟩ := by decide +kernel
def spAdrs : Sp := fun vs H Q _ => ∃ (p : Addr) (lo hi : Int), vs = [.ref p] ∧ H p = some (.tup [.int lo, .int hi]) ∧ (0 ≤ lo ∧ lo ≤ 4294967295) ∧ (0 ≤ hi ∧ hi ≤ 4294967295) ∧ ∀ H', Same H H' → Q (.str (adrT lo hi)) H'
theorem ok_adrs (F : Fun K "show_addresses" "show_addresses" s_show_addresses f fd) (g_bits_of : Fn P w K mg base "bits_of" 2 ["low", "high"] spBitsOf) (g_show_ends : Fn P w K mg base "show_ends" 2 ["stretch", "show_end"] (spEnds P w K mg base)) (g_show_address : Fn P w K mg base "show_address" 1 ["address"] (spShow K)) (c_BITS : ∃ u, mg "ADDRESS_BITS" = some u ∧ RelV (.int 32) u) (b_str : mg "str" = none) :
    FnOk P w K mg base CX0 3 f fd ["stretch"] spAdrs := by
  refine F.ok sc_show_addresses (fun vs H Q E h => ?_) (fun cdv A outer s H vs Q E hr h => ?_)
  · obtain ⟨_, _, _, rfl, _⟩ := h
    rfl
  obtain ⟨p, lo, hi, rfl, hp, h1, h2, q⟩ := h
  obtain ⟨_, m_ADDRESS_BITS, r_ADDRESS_BITS⟩ := c_BITS
  obtain ⟨v_show_address, m_show_address, hv⟩ := Fn.val g_show_address
  have r_show_address : RelV (.ref v_show_address) (.ref v_show_address) := rfl
  refine ⟨_, (@pss_cons _ _ _ _ _ (@ps_set _ _ (1) _ _ _ _ sc_show_addresses.nd rfl (Or.inl rfl) (@pe_fn _ _ _ _ _ _ _ _ _ _ _ g_bits_of hr (by decide) rfl (@pa_cons _ _ _ _ _ (@pe_ix _ _ _ _ _ _ _ ix_tup (pv 0) pe_int (fun _ _ => rfl)) (@pa_cons _ _ _ _ _ (@pe_ix _ _ _ _ _ _ _ ix_tup (pv 0) pe_int (fun _ _ => rfl)) pa_nil (by rfl)) (by rfl)) (by decide) (by rfl) (by rfl)) (by rfl) (by first | exact .inl rfl | exact .inr rfl | assumption)) (@pss_cons _ _ _ _ _ (@ps_if _ _ _ _ _ _ _ _ (@PW.pt _ _ _ (@pw_or _ _ _ _ _ _ _ (@pt_cmpR _ _ _ _ _ _ _ _ op_isN (pv 1) pe_non (nomark _)) (@pw_or1 _ _ _ _ (@pt_cmpR _ _ _ _ _ _ _ _ op_eq (pv 1) (@pe_glob _ _ _ _ _ rfl m_ADDRESS_BITS r_ADDRESS_BITS (by decide)) (nomark _))))) (@pss_one _ _ _ (@ps_ret _ _ _ _ (@pe_fn _ _ _ _ _ _ _ _ _ _ _ g_show_ends hr (by decide) rfl (@pa_cons _ _ _ _ _ (pv 0) (@pa_cons _ _ _ _ _ (@pe_glob _ _ _ _ _ rfl m_show_address r_show_address (by decide)) pa_nil (by rfl)) (by rfl)) (by decide) (by rfl) (by rfl)))) pss_nil) (@pss_one _ _ _ (@ps_ret _ _ _ _ (@pe_op _ _ _ _ _ _ _ _ op_addS (@pe_op _ _ _ _ _ _ _ _ op_addS (@pe_fn _ _ _ _ _ _ _ _ _ _ _ g_show_address hr (by decide) rfl (@pa_cons _ _ _ _ _ (@pe_ix _ _ _ _ _ _ _ ix_tup (pv 0) pe_int (fun _ _ => rfl)) pa_nil (by rfl)) (by decide) (by rfl) (by rfl)) pe_str) (@pe_callTy _ _ _ _ _ _ _ _ _ call_strI rfl b_str bo_str (@pa_cons _ _ _ _ _ (pv 1) pa_nil (by rfl)) (by decide) (by decide) (by rfl) (by rfl))))))), ?_⟩
  rw [st_show_addresses]
  walk_at "ix"
  refine ⟨lo, hi, rfl, h1.1, by omega, h2.1, by omega, fun H1 s1 => ?_⟩
  have hp1 := s1 _ _ hp
  have ends : adrT lo hi = endsT dotP lo hi → spEnds P w K mg base [.ref p, .ref v_show_address] H1 Q E0 := fun e => by
    refine ⟨p, v_show_address, lo, hi, dotP, fun _ => True, rfl, hp1, trivial, trivial, fun n _ => Nat.le_trans (dotP_l n) (by decide), fun H2 _ => ⟨(hv H2).1, fun A outer s us vs Q E hr e0 r h => (hv H2).2 A outer s us vs Q E hr e0 r ?_⟩, fun H2 s2 => ?_⟩
    · obtain ⟨n, rfl, _, q⟩ := h
      exact ⟨n, rfl, q⟩
    · rw [← e]
      exact q _ (s1.trans s2)
  unfold adrT at ends q
  cases ef : foundOf lo hi with
  | int b =>
    rw [ef] at ends q
    walk_at "sv"
    refine BrO.dec (fun c => nomatch c) (fun _ => ?_)
    walk_at "sv"
    refine BrS.dec (fun c => ?_) (fun c => ?_)
    · walk_at "sv"
      exact ends (if_pos c)
    · walk_at "ix"
      refine ⟨lo, rfl, fun H2 s2 => ?_⟩
      have b01 : 0 ≤ b ∧ b ≤ 32 := by
        unfold foundOf at ef
        split at ef
        · cases ef
          exact bo_range h1.1 h2.1 (by omega) (by omega)
        · cases ef
      have lb := num_l b01.1 (by omega)
      have ld := dotP_l lo
      have q2 := q H2 (s1.trans s2)
      dsimp only at q2
      rw [if_neg c] at q2
      rw [lit_slash]
      have l1 : (⟨#[47]⟩ : Str).length = 1 := rfl
      refine addS_go (show (dotP lo).length + _ ≤ _ by rw [l1]; omega) ?_
      walk_at "sv"
      refine strI_go (log_small b01.1 (by omega)) ?_
      refine addS_go (show (dotP lo ++ ⟨#[47]⟩ : Str).length + _ ≤ _ by rw [Str.length_append, l1]; omega) ?_
      exact q2
  | non =>
    rw [ef] at ends q
    walk_at "sv"
    exact ends rfl
  | _ =>
    unfold foundOf at ef
    split at ef <;> cases ef
--CUT--
structure Txt (K : PySem.W.Frag) (C_Rule C_Word C_Back C_Call : Addr) : Prop where
  pg_Rule : PySem.W.plainGet K C_Rule Str.empty = true
  hd_Rule : PySem.W.hasDictIn K C_Rule = true
  po_Rule : PySem.W.plainOver K C_Rule = true
  sa_Rule : PySem.W.findIn K (.ref C_Rule) "__setattr__" = some (some (.builtin "object.__setattr__"))
  cl_Rule : PySem.W.findIn K (.ref C_Rule) "__class__" = some (some (.builtin "object.__class__"))
  ob_Rule : PySem.W.mroIn K C_Rule (.type "object") = some true
  nb_Rule : PySem.W.findIn K (.ref C_Rule) "box" = some none
  mk_Rule : PySem.W.makesIn K C_Rule = true
  kp_Rule : PySem.W.keepIn K (.ref C_Rule) = true
  pg_Word : PySem.W.plainGet K C_Word Str.empty = true
  hd_Word : PySem.W.hasDictIn K C_Word = true
  po_Word : PySem.W.plainOver K C_Word = true
  sa_Word : PySem.W.findIn K (.ref C_Word) "__setattr__" = some (some (.builtin "object.__setattr__"))
  cl_Word : PySem.W.findIn K (.ref C_Word) "__class__" = some (some (.builtin "object.__class__"))
  ob_Word : PySem.W.mroIn K C_Word (.type "object") = some true
  nb_Word : PySem.W.findIn K (.ref C_Word) "box" = some none
  mk_Word : PySem.W.makesIn K C_Word = true
  kp_Word : PySem.W.keepIn K (.ref C_Word) = true
  pg_Back : PySem.W.plainGet K C_Back Str.empty = true
  hd_Back : PySem.W.hasDictIn K C_Back = true
  po_Back : PySem.W.plainOver K C_Back = true
  sa_Back : PySem.W.findIn K (.ref C_Back) "__setattr__" = some (some (.builtin "object.__setattr__"))
  cl_Back : PySem.W.findIn K (.ref C_Back) "__class__" = some (some (.builtin "object.__class__"))
  ob_Back : PySem.W.mroIn K C_Back (.type "object") = some true
  nb_Back : PySem.W.findIn K (.ref C_Back) "box" = some none
  mk_Back : PySem.W.makesIn K C_Back = true
  kp_Back : PySem.W.keepIn K (.ref C_Back) = true
  pg_Call : PySem.W.plainGet K C_Call Str.empty = true
  hd_Call : PySem.W.hasDictIn K C_Call = true
  po_Call : PySem.W.plainOver K C_Call = true
  sa_Call : PySem.W.findIn K (.ref C_Call) "__setattr__" = some (some (.builtin "object.__setattr__"))
  cl_Call : PySem.W.findIn K (.ref C_Call) "__class__" = some (some (.builtin "object.__class__"))
  ob_Call : PySem.W.mroIn K C_Call (.type "object") = some true
  nb_Call : PySem.W.findIn K (.ref C_Call) "box" = some none
  mk_Call : PySem.W.makesIn K C_Call = true
  kp_Call : PySem.W.keepIn K (.ref C_Call) = true
  nw : PySem.W.findIn K (.ref C_Word) "word" = some none
  nn : PySem.W.findIn K (.ref C_Call) "name" = some none
  gs : PySem.W.specialIn K (.builtin "object.__class__") "__get__" = some (some (.builtin "getset_descriptor.__get__"))
  tk : PySem.W.takesIn K (.builtin "object.__class__") = some true
  i_Word_Rule : PySem.W.kitOne K (.ref C_Word) (.ref C_Rule) = some true
  i_Word_Word : PySem.W.kitOne K (.ref C_Word) (.ref C_Word) = some true
  i_Word_Back : PySem.W.kitOne K (.ref C_Word) (.ref C_Back) = some false
  i_Word_Call : PySem.W.kitOne K (.ref C_Word) (.ref C_Call) = some false
  i_Back_Rule : PySem.W.kitOne K (.ref C_Back) (.ref C_Rule) = some true
  i_Back_Word : PySem.W.kitOne K (.ref C_Back) (.ref C_Word) = some false
  i_Back_Back : PySem.W.kitOne K (.ref C_Back) (.ref C_Back) = some true
  i_Back_Call : PySem.W.kitOne K (.ref C_Back) (.ref C_Call) = some false
  i_Call_Rule : PySem.W.kitOne K (.ref C_Call) (.ref C_Rule) = some true
  i_Call_Word : PySem.W.kitOne K (.ref C_Call) (.ref C_Word) = some false
  i_Call_Back : PySem.W.kitOne K (.ref C_Call) (.ref C_Back) = some false
  i_Call_Call : PySem.W.kitOne K (.ref C_Call) (.ref C_Call) = some true
section
variable {C_Rule C_Word C_Back C_Call : Addr}
theorem Txt.cls_Word (T : Txt K C_Rule C_Word C_Back C_Call) : Cls K C_Word := ⟨T.pg_Word, T.hd_Word, T.po_Word, T.sa_Word⟩
theorem Txt.cls_Back (T : Txt K C_Rule C_Word C_Back C_Call) : Cls K C_Back := ⟨T.pg_Back, T.hd_Back, T.po_Back, T.sa_Back⟩
theorem Txt.cls_Call (T : Txt K C_Rule C_Word C_Back C_Call) : Cls K C_Call := ⟨T.pg_Call, T.hd_Call, T.po_Call, T.sa_Call⟩
end
inductive Rl where
  | word (w : Str)
  | back
  | call (n : Str)
def Rl.fs (p : Addr) : Rl → List (Str × V)
  | .word w => [("box", .ref p), ("word", .str w)]
  | .back => [("box", .ref p)]
  | .call n => [("box", .ref p), ("name", .str n)]
def Rl.told (p : Addr) : Rl → List V
  | .word w => [.str w, .ref p]
  | .back => [.str "back", .ref p]
  | .call n => [.str "call", .ref p, .str n]
def Rl.head : Rl → Str
  | .word w => w
  | .back => "back"
  | .call n => "call " ++ n
def Rl.cls (C_Word C_Back C_Call : Addr) : Rl → Addr
  | .word _ => C_Word
  | .back => C_Back
  | .call _ => C_Call
def Rl.ok : Rl → Prop
  | .word w => w ≠ "back" ∧ w ≠ "call" ∧ w.length ≤ 1000 ∧ PyData.strOk w = true
  | .back => True
  | .call n => n.length ≤ 1000 ∧ PyData.strOk n = true
theorem s_box_word : ("box" : Str) ≠ "word" := by decide
theorem s_box_name : ("box" : Str) ≠ "name" := by decide
theorem put_two {f g : Str} (h : g ≠ f) (v x : V) : putF f v [(g, x)] = [(g, x), (f, v)] := by
  simp only [putF, if_neg h]
theorem look_one (f : Str) (v : V) (r : List (Str × V)) : ((f, v) :: r).lookup f = some v := by
  rw [List.lookup_cons, beq_self_eq_true]
theorem look_two {f g : Str} (h : f ≠ g) (v x : V) : [(g, x), (f, v)].lookup f = some v := by
  rw [List.lookup_cons, beq_eq_false_iff_ne.mpr h]
  exact look_one f v []
theorem Rl.box (p : Addr) : ∀ r : Rl, (r.fs p).lookup ("box" : Str) = some (.ref p)
  | .word _ => look_one _ _ _
  | .back => look_one _ _ _
  | .call _ => look_one _ _ _
theorem Rl.none {m : Str} (h1 : m ≠ "box") (h2 : m ≠ "word") (h3 : m ≠ "name") (p : Addr) : ∀ r : Rl, (r.fs p).lookup m = none := fun r => by
  have e : ∀ (g : Str) (v : V) (l : List (Str × V)), m ≠ g → ((g, v) :: l).lookup m = l.lookup m := fun g v l h => by rw [List.lookup_cons, beq_eq_false_iff_ne.mpr h]
  cases r with
  | word w => rw [Rl.fs, e _ _ _ h1, e _ _ _ h2]; rfl
  | back => rw [Rl.fs, e _ _ _ h1]; rfl
  | call n => rw [Rl.fs, e _ _ _ h1, e _ _ _ h3]; rfl
def IsRule (C_Word C_Back C_Call : Addr) (H : Hp) (a : Addr) (r : Rl) (p : Addr) : Prop := ∃ dx, H a = some (.ins (r.cls C_Word C_Back C_Call) dx (r.fs p))
def spInit (K : PySem.W.Frag) : Sp := fun vs H Q _ => ∃ (a p C dx : Addr), vs = [.ref a, .ref p] ∧ H a = some (.ins C dx []) ∧ Cls K C ∧ NoAttr K C "box" ∧ Q .non (upd H a (.ins C dx [("box", .ref p)]))
theorem ok_Rule_init (F : Fun K "__init__" "Rule.__init__" s_Rule___init__ f fd) : FnOk P w K mg base CX0 1 f fd ["self", "box"] (spInit K) := by
  refine F.ok sc_Rule___init__ (fun vs H Q E h => ?_) (fun cdv A outer s H vs Q E hr h => ?_)
  · obtain ⟨_, _, _, _, rfl, _⟩ := h
    rfl
  obtain ⟨a, p, C, dx, rfl, ha, cl, na, q⟩ := h
  refine ⟨_, (@pss_one _ _ _ (@ps_fld _ _ _ _ _ _ _ _ (pv 0) (pv 1) rfl)), ?_⟩
  rw [st_Rule___init__]
  walk_at "sv"
  exact SFldR.go ha cl na (by simp) q
def spInitW (K : PySem.W.Frag) (C : Addr) (f : Str) : Sp := fun vs H Q _ => ∃ (a p dx : Addr) (w : Str), vs = [.ref a, .ref p, .str w] ∧ H a = some (.ins C dx []) ∧ Q .non (upd H a (.ins C dx [("box", .ref p), (f, .str w)]))
section
variable {C_Rule C_Word C_Back C_Call : Addr}
theorem ok_Word_init (F : Fun K "__init__" "Word.__init__" s_Word___init__ f fd) (gc_Rule___init__ : FnC P w K mg base C_Rule "__init__" 1 ["self", "box"] (spInit K)) (m_Rule : mg "Rule" = some (.ref C_Rule)) (T : Txt K C_Rule C_Word C_Back C_Call) : FnOk P w K mg base CX0 2 f fd ["self", "box", "word"] (spInitW K C_Word "word") := by
  refine F.ok sc_Word___init__ (fun vs H Q E h => ?_) (fun cdv A outer s H vs Q E hr h => ?_)
  · obtain ⟨_, _, _, _, rfl, _⟩ := h
    rfl
  obtain ⟨a, p, dx, w, rfl, ha, q⟩ := h
  refine ⟨_, (@pss_cons _ _ _ _ _ (@ps_expr _ _ _ _ (@pe_cm _ _ _ _ _ _ _ _ _ _ _ _ _ _ (@pe_glob _ _ (.ref C_Rule) _ _ rfl m_Rule rfl (by decide)) gc_Rule___init__ hr (by decide) (@pa_cons _ _ _ _ _ (pv 0) (@pa_cons _ _ _ _ _ (pv 1) pa_nil (by rfl)) (by rfl)) (by rfl) (by rfl) (by rfl)) (by rfl)) (@pss_one _ _ _ (@ps_fld _ _ _ _ _ _ _ _ (pv 0) (pv 2) rfl))), ?_⟩
  rw [st_Word___init__]
  walk_at "sv"
  refine ⟨a, p, C_Word, dx, rfl, ha, T.cls_Word, T.nb_Word, ?_⟩
  walk_at "sv"
  refine SFldR.go upd_same T.cls_Word T.nw (by simp) ?_
  rw [upd_upd, put_two s_box_word]
  exact q
theorem ok_Call_init (F : Fun K "__init__" "Call.__init__" s_Call___init__ f fd) (gc_Rule___init__ : FnC P w K mg base C_Rule "__init__" 1 ["self", "box"] (spInit K)) (m_Rule : mg "Rule" = some (.ref C_Rule)) (T : Txt K C_Rule C_Word C_Back C_Call) : FnOk P w K mg base CX0 2 f fd ["self", "box", "name"] (spInitW K C_Call "name") := by
  refine F.ok sc_Call___init__ (fun vs H Q E h => ?_) (fun cdv A outer s H vs Q E hr h => ?_)
  · obtain ⟨_, _, _, _, rfl, _⟩ := h
    rfl
  obtain ⟨a, p, dx, w, rfl, ha, q⟩ := h
  refine ⟨_, (@pss_cons _ _ _ _ _ (@ps_expr _ _ _ _ (@pe_cm _ _ _ _ _ _ _ _ _ _ _ _ _ _ (@pe_glob _ _ (.ref C_Rule) _ _ rfl m_Rule rfl (by decide)) gc_Rule___init__ hr (by decide) (@pa_cons _ _ _ _ _ (pv 0) (@pa_cons _ _ _ _ _ (pv 1) pa_nil (by rfl)) (by rfl)) (by rfl) (by rfl) (by rfl)) (by rfl)) (@pss_one _ _ _ (@ps_fld _ _ _ _ _ _ _ _ (pv 0) (pv 2) rfl))), ?_⟩
  rw [st_Call___init__]
  walk_at "sv"
  refine ⟨a, p, C_Call, dx, rfl, ha, T.cls_Call, T.nb_Call, ?_⟩
  walk_at "sv"
  refine SFldR.go upd_same T.cls_Call T.nn (by simp) ?_
  rw [upd_upd, put_two s_box_name]
  exact q
def isWord (r : Rl) : Prop := ∃ w, r = .word w
def isBack (r : Rl) : Prop := r = .back
def isCall (r : Rl) : Prop := ∃ n, r = .call n
theorem same_ins {H : Hp} {x dx : Addr} {o o' : HO} (nx : H x = none) (nd : H dx = none) (ne : dx ≠ x) : Same H (upd (upd H dx o) x o') := (same_new nd o).trans (same_new (by rw [upd_ne ne.symm]; exact nx) o')
def spRuleOf (C_Word C_Back C_Call : Addr) : Sp := fun vs H Q _ => ∃ (t p : Addr) (r : Rl), vs = [.ref t] ∧ H t = some (.tup (r.told p)) ∧ r.ok ∧ ∀ a H', H a = none → Same H H' → IsRule C_Word C_Back C_Call H' a r p → Q (.ref a) H'
theorem ok_rule_of (F : Fun K "rule_of" "rule_of" s_rule_of f fd) (gi_Back : FnI P w K mg base C_Back 1 ["self", "box"] (spInit K)) (gi_Word : FnI P w K mg base C_Word 2 ["self", "box", "word"] (spInitW K C_Word "word")) (gi_Call : FnI P w K mg base C_Call 2 ["self", "box", "name"] (spInitW K C_Call "name"))
    (m_Back : mg "Back" = some (.ref C_Back)) (m_Word : mg "Word" = some (.ref C_Word)) (m_Call : mg "Call" = some (.ref C_Call)) (T : Txt K C_Rule C_Word C_Back C_Call) : FnOk P w K mg base CX0 4 f fd ["told"] (spRuleOf C_Word C_Back C_Call) := by
  refine F.ok sc_rule_of (fun vs H Q E h => ?_) (fun cdv A outer s H vs Q E hr h => ?_)
  · obtain ⟨_, _, _, rfl, _⟩ := h
    rfl
  obtain ⟨t, p, r, rfl, ht, ok, q⟩ := h
  refine ⟨_, (@pss_cons _ _ _ _ _ (@ps_if _ _ _ _ _ _ _ _ (@pt_cmpR _ _ _ _ _ _ _ _ op_eq (@pe_ix _ _ _ _ _ _ _ ix_tup (pv 0) pe_int (fun _ _ => rfl)) pe_str (nomark _)) (@pss_one _ _ _ (@ps_ret _ _ _ _ (@pe_new _ _ _ _ _ _ _ _ _ _ _ _ gi_Back hr (by decide) rfl m_Back (@pa_cons _ _ _ _ _ (@pe_ix _ _ _ _ _ _ _ ix_tup (pv 0) pe_int (fun _ _ => rfl)) pa_nil (by rfl)) (by decide) (by rfl) (by rfl)))) pss_nil) (@pss_cons _ _ _ _ _ (@ps_if _ _ _ _ _ _ _ _ (@pt_cmpR _ _ _ _ _ _ _ _ op_eq (@pe_ix _ _ _ _ _ _ _ ix_tup (pv 0) pe_int (fun _ _ => rfl)) pe_str (nomark _)) (@pss_one _ _ _ (@ps_ret _ _ _ _ (@pe_new _ _ _ _ _ _ _ _ _ _ _ _ gi_Call hr (by decide) rfl m_Call (@pa_cons _ _ _ _ _ (@pe_ix _ _ _ _ _ _ _ ix_tup (pv 0) pe_int (fun _ _ => rfl)) (@pa_cons _ _ _ _ _ (@pe_ix _ _ _ _ _ _ _ ix_tup (pv 0) pe_int (fun _ _ => rfl)) pa_nil (by rfl)) (by rfl)) (by decide) (by rfl) (by rfl)))) pss_nil) (@pss_one _ _ _ (@ps_ret _ _ _ _ (@pe_new _ _ _ _ _ _ _ _ _ _ _ _ gi_Word hr (by decide) rfl m_Word (@pa_cons _ _ _ _ _ (@pe_ix _ _ _ _ _ _ _ ix_tup (pv 0) pe_int (fun _ _ => rfl)) (@pa_cons _ _ _ _ _ (@pe_ix _ _ _ _ _ _ _ ix_tup (pv 0) pe_int (fun _ _ => rfl)) pa_nil (by rfl)) (by rfl)) (by decide) (by rfl) (by rfl)))))), ?_⟩
  rw [st_rule_of]
  cases r with
  | word w =>
    obtain ⟨n1, n2, _⟩ := ok
    simp only [Rl.told] at ht
    walk_at "ix"
    rw [decide_eq_false n1]
    walk_at "ix"
    rw [decide_eq_false n2]
    walk_at "ix"
    intro x dx nx nd ne
    refine ⟨x, p, dx, w, rfl, upd_same, rfl, ?_⟩
    rw [upd_upd]
    exact q x _ nx (same_ins nx nd ne) ⟨dx, upd_same⟩
  | back =>
    simp only [Rl.told] at ht
    walk_at "ix"
    intro x dx nx nd ne
    refine ⟨x, p, C_Back, dx, rfl, upd_same, T.cls_Back, T.nb_Back, rfl, ?_⟩
    rw [upd_upd]
    exact q x _ nx (same_ins nx nd ne) ⟨dx, upd_same⟩
  | call n =>
    simp only [Rl.told] at ht
    walk_at "ix"
    rw [decide_eq_false (show ¬ ("call" : Str) = "back" by decide)]
    walk_at "ix"
    refine ixT_go (i := 2) (SqT.of ht) rfl ?_
    intro x dx nx nd ne
    refine ⟨x, p, dx, n, rfl, upd_same, rfl, ?_⟩
    rw [upd_upd]
    exact q x _ nx (same_ins nx nd ne) ⟨dx, upd_same⟩
end
section
variable {C_Rule C_Word C_Back C_Call : Addr}
def spHead (C : Addr) (ok : Rl → Prop) : Sp := fun vs H Q _ => ∃ (a p dx : Addr) (r : Rl), vs = [.ref a] ∧ H a = some (.ins C dx (r.fs p)) ∧ ok r ∧ r.ok ∧ Q (.str r.head) H
theorem ok_Word_head (F : Fun K "head" "Word.head" s_Word_head f fd) (T : Txt K C_Rule C_Word C_Back C_Call) : FnOk P w K mg base CX0 1 f fd ["self"] (spHead C_Word isWord) := by
  refine F.ok sc_Word_head (fun vs H Q E h => ?_) (fun cdv A outer s H vs Q E hr h => ?_)
  · obtain ⟨_, _, _, _, rfl, _⟩ := h
    rfl
  obtain ⟨a, p, dx, r, rfl, ha, ⟨w, rfl⟩, _, q⟩ := h
  refine ⟨_, (@pss_one _ _ _ (@ps_ret _ _ _ _ (@pe_fld _ _ _ _ _ (pv 0) rfl))), ?_⟩
  rw [st_Word_head]
  walk_at "sv"
  exact FldR.go ha T.cls_Word T.nw (look_two s_box_word.symm _ _) q
theorem ok_Back_head (F : Fun K "head" "Back.head" s_Back_head f fd) : FnOk P w K mg base CX0 1 f fd ["self"] (spHead C_Back isBack) := by
  refine F.ok sc_Back_head (fun vs H Q E h => ?_) (fun cdv A outer s H vs Q E hr h => ?_)
  · obtain ⟨_, _, _, _, rfl, _⟩ := h
    rfl
  obtain ⟨a, p, dx, r, rfl, ha, rfl, _, q⟩ := h
  refine ⟨_, (@pss_one _ _ _ (@ps_ret _ _ _ _ pe_str)), ?_⟩
  rw [st_Back_head]
  walk_at "sv"
  exact q
theorem ok_Call_head (F : Fun K "head" "Call.head" s_Call_head f fd) (T : Txt K C_Rule C_Word C_Back C_Call) : FnOk P w K mg base CX0 1 f fd ["self"] (spHead C_Call isCall) := by
  refine F.ok sc_Call_head (fun vs H Q E h => ?_) (fun cdv A outer s H vs Q E hr h => ?_)
  · obtain ⟨_, _, _, _, rfl, _⟩ := h
    rfl
  obtain ⟨a, p, dx, r, rfl, ha, ⟨n, rfl⟩, ok, q⟩ := h
  refine ⟨_, (@pss_one _ _ _ (@ps_ret _ _ _ _ (@pe_op _ _ _ _ _ _ _ _ op_addS pe_str (@pe_fld _ _ _ _ _ (pv 0) rfl)))), ?_⟩
  rw [st_Call_head]
  walk_at "sv"
  refine FldR.go ha T.cls_Call T.nn (look_two s_box_name.symm _ _) ?_
  have e5 : ("call " : Str).length = 5 := rfl
  have ok' : n.length ≤ 1000 := ok.1
  exact addS_go (by rw [e5]; omega) q
end
def allBox : List (Int × Int) := [(0, 3), (0, 255), (0, 4294967295), (0, 65535), (0, 4294967295), (0, 65535)]
def spEvery : Sp := fun vs H Q _ => vs = [] ∧ ∀ t H', Same H H' → IsBox H' t allBox → Q (.ref t) H'
theorem ok_every (F : Fun K "every" "every" s_every f fd) (c_ADDRESS : ∃ u, mg "GREATEST_ADDRESS" = some u ∧ RelV (.int 4294967295) u) (c_DOOR : ∃ u, mg "GREATEST_DOOR" = some u ∧ RelV (.int 65535) u) (c_TURN : ∃ u, mg "GREATEST_TURN" = some u ∧ RelV (.int 3) u) (c_KIND : ∃ u, mg "GREATEST_KIND" = some u ∧ RelV (.int 255) u) : FnOk P w K mg base CX0 1 f fd [] spEvery := by
  refine F.ok sc_every (fun vs H Q E h => ?_) (fun cdv A outer s H vs Q E hr h => ?_)
  · obtain ⟨rfl, _⟩ := h
    rfl
  obtain ⟨rfl, q⟩ := h
  obtain ⟨_, m_GREATEST_ADDRESS, r_GREATEST_ADDRESS⟩ := c_ADDRESS
  obtain ⟨_, m_GREATEST_DOOR, r_GREATEST_DOOR⟩ := c_DOOR
  obtain ⟨_, m_GREATEST_TURN, r_GREATEST_TURN⟩ := c_TURN
  obtain ⟨_, m_GREATEST_KIND, r_GREATEST_KIND⟩ := c_KIND
  refine ⟨_, (@pss_cons _ _ _ _ _ (@ps_set _ _ (0) _ _ _ _ sc_every.nd rfl (Or.inl rfl) (@pe_tup _ _ _ _ _ (@pa_cons _ _ _ _ _ pe_int (@pa_cons _ _ _ _ _ (@pe_glob _ _ _ _ _ rfl m_GREATEST_ADDRESS r_GREATEST_ADDRESS (by decide)) pa_nil (by rfl)) (by rfl))) (by rfl) (by first | exact .inl rfl | exact .inr rfl | assumption)) (@pss_cons _ _ _ _ _ (@ps_set _ _ (1) _ _ _ _ sc_every.nd rfl (Or.inl rfl) (@pe_tup _ _ _ _ _ (@pa_cons _ _ _ _ _ pe_int (@pa_cons _ _ _ _ _ (@pe_glob _ _ _ _ _ rfl m_GREATEST_DOOR r_GREATEST_DOOR (by decide)) pa_nil (by rfl)) (by rfl))) (by rfl) (by first | exact .inl rfl | exact .inr rfl | assumption)) (@pss_one _ _ _ (@ps_ret _ _ _ _ (@pe_tup _ _ _ _ _ (@pa_cons _ _ _ _ _ (@pe_tup _ _ _ _ _ (@pa_cons _ _ _ _ _ pe_int (@pa_cons _ _ _ _ _ (@pe_glob _ _ _ _ _ rfl m_GREATEST_TURN r_GREATEST_TURN (by decide)) pa_nil (by rfl)) (by rfl))) (@pa_cons _ _ _ _ _ (@pe_tup _ _ _ _ _ (@pa_cons _ _ _ _ _ pe_int (@pa_cons _ _ _ _ _ (@pe_glob _ _ _ _ _ rfl m_GREATEST_KIND r_GREATEST_KIND (by decide)) pa_nil (by rfl)) (by rfl))) (@pa_cons _ _ _ _ _ (pv 0) (@pa_cons _ _ _ _ _ (pv 1) (@pa_cons _ _ _ _ _ (pv 0) (@pa_cons _ _ _ _ _ (pv 1) pa_nil (by rfl)) (by rfl)) (by rfl)) (by rfl)) (by rfl)) (by rfl))))))), ?_⟩
  rw [st_every]
  walk_at "sv"
  refine TupR.go (by simp) fun a na => ?_
  have s1 := same_new na (.tup [.int 0, .int 4294967295])
  walk_at "sv"
  refine TupR.go (by simp) fun d nd => ?_
  have s2 := same_new nd (.tup [.int 0, .int 65535])
  walk_at "sv"
  refine TupR.go (by simp) fun b nb => ?_
  have s3 := same_new nb (.tup [.int 0, .int 3])
  walk_at "sv"
  refine TupR.go (by simp) fun c nc => ?_
  have s4 := same_new nc (.tup [.int 0, .int 255])
  walk_at "sv"
  refine TupR.go (by simp) fun t nt => ?_
  have s5 := same_new nt (.tup [.ref b, .ref c, .ref a, .ref d, .ref a, .ref d])
  have ha := s5 _ _ (s4 _ _ (s3 _ _ (s2 _ _ (upd_same (H := H) (a := a) (o := .tup [.int 0, .int 4294967295])))))
  have hd := s5 _ _ (s4 _ _ (s3 _ _ (upd_same (H := upd H a (.tup [.int 0, .int 4294967295])) (a := d) (o := .tup [.int 0, .int 65535]))))
  refine q t _ ((((s1.trans s2).trans s3).trans s4).trans s5) ⟨_, upd_same, .cons (s5 _ _ (s4 _ _ upd_same)) (.cons (s5 _ _ upd_same) (.cons ha (.cons hd (.cons ha (.cons hd .nil)))))⟩
--CUT--
section
variable {C_Rule C_Word C_Back C_Call : Addr}
def pairWs : List Str := ["turn", "kind", "from", "fromdoor", "to", "todoor"]
def sp : Str := ⟨#[32]⟩
theorem lit_sp : (" " : Str) = sp := by decide +kernel
def pairW (i : Nat) (b whole : Int × Int) : List Str := if b = whole then [] else [pairWs.getD i ⟨#[]⟩, if i = 2 ∨ i = 4 then adrT b.1 b.2 else endsT num b.1 b.2]
def pairsW (bs : List (Int × Int)) (n : Nat) : List Str := ((List.range n).map fun i => pairW i (bs.getD i (0, 0)) (allBox.getD i (0, 0))).flatten
def InB (bs : List (Int × Int)) : Prop := bs.length = 6 ∧ ∀ b ∈ bs, (0 ≤ b.1 ∧ b.1 ≤ 4294967295) ∧ 0 ≤ b.2 ∧ b.2 ≤ 4294967295
def spShRule (T : Addr) : Sp := fun vs H Q _ => ∃ (t p : Addr) (r : Rl) (bs : List (Int × Int)), vs = [.ref t] ∧ H t = some (.tup (r.told p)) ∧ r.ok ∧ IsBox H p bs ∧ InB bs ∧ TabOk T H ∧ ∀ H', SameB T H H' → TabOk T H' → Q (.str (Str.join sp (r.head :: pairsW bs 6))) H'
theorem pairW_len (i : Nat) (b c : Int × Int) : (pairW i b c).length ≤ 2 := by
  unfold pairW
  split
  · exact Nat.zero_le _
  · exact Nat.le_refl _
theorem pairsW_len (bs : List (Int × Int)) : ∀ n, (pairsW bs n).length ≤ 2 * n
  | 0 => Nat.le_refl _
  | n + 1 => by
    have h := pairsW_len bs n
    have k := pairW_len n (bs.getD n (0, 0)) (allBox.getD n (0, 0))
    unfold pairsW at h ⊢
    rw [List.range_succ, List.map_append, List.flatten_append, List.map_singleton, List.flatten_singleton, List.length_append]
    omega
theorem sum_le {m : Nat} : ∀ {ws : List Str}, (∀ x ∈ ws, x.length ≤ m) → (ws.map (·.length)).sum ≤ ws.length * m
  | [], _ => Nat.zero_le _
  | w :: ws, h => by
    have h1 := sum_le (ws := ws) fun x hx => h x (List.mem_cons_of_mem _ hx)
    have h2 := h w List.mem_cons_self
    rw [List.map_cons, List.sum_cons, List.length_cons, Nat.add_mul]
    omega
theorem head_l {r : Rl} (h : r.ok) : r.head.length ≤ 1100 := by
  cases r with
  | word w =>
    have := h.2.2.1
    show w.length ≤ 1100
    omega
  | back => decide
  | call n =>
    have := h.1
    have e : ("call " : Str).length = 5 := by decide
    show (("call " : Str) ++ n).length ≤ 1100
    rw [Str.length_append, e]
    omega
theorem endsT_l {g : Int → Str} {lo hi : Int} (h1 : (g lo).length ≤ 49) (h2 : (g hi).length ≤ 49) : (endsT g lo hi).length ≤ 99 := by
  unfold endsT
  split
  · omega
  · have e : (⟨#[45]⟩ : Str).length = 1 := rfl
    simp only [Str.length_append, e]
    omega
theorem adrT_l {lo hi : Int} (h1 : 0 ≤ lo ∧ lo ≤ 4294967295) (h2 : 0 ≤ hi ∧ hi ≤ 4294967295) : (adrT lo hi).length ≤ 99 := by
  have d := dotP_l lo
  have e := endsT_l (g := dotP) (lo := lo) (hi := hi) (Nat.le_trans d (by decide)) (Nat.le_trans (dotP_l hi) (by decide))
  unfold adrT
  cases ef : foundOf lo hi with
  | int b =>
    have b01 : 0 ≤ b ∧ b ≤ 32 := by
      unfold foundOf at ef
      split at ef
      · cases ef
        exact bo_range h1.1 h2.1 (by omega) (by omega)
      · cases ef
    have lb : (num b).length ≤ 10 := num_l b01.1 (by omega)
    have l1 : (⟨#[47]⟩ : Str).length = 1 := rfl
    dsimp only
    split
    · exact e
    · simp only [Str.length_append, l1]
      omega
  | _ => exact e
theorem pairsW_l {bs : List (Int × Int)} (ib : InB bs) (n : Nat) : ∀ x ∈ pairsW bs n, x.length ≤ 99 := fun x hx => by
  unfold pairsW at hx
  obtain ⟨ys, hy, hx⟩ := List.mem_flatten.mp hx
  obtain ⟨i, hi, rfl⟩ := List.mem_map.mp hy
  have hbd : (0 ≤ (bs.getD i (0, 0)).1 ∧ (bs.getD i (0, 0)).1 ≤ 4294967295) ∧ 0 ≤ (bs.getD i (0, 0)).2 ∧ (bs.getD i (0, 0)).2 ≤ 4294967295 := by
    rw [List.getD_eq_getElem?_getD]
    cases e : bs[i]? with
    | none => decide
    | some b => exact ib.2 b (List.mem_of_getElem? e)
  unfold pairW at hx
  split at hx
  · cases hx
  · simp only [List.mem_cons, List.not_mem_nil, or_false] at hx
    rcases hx with rfl | rfl
    · have : ∀ y ∈ pairWs, y.length ≤ 99 := by decide +kernel
      rw [List.getD_eq_getElem?_getD]
      cases e : pairWs[i]? with
      | none => exact Nat.zero_le _
      | some y => exact this y (List.mem_of_getElem? e)
    · split
      · exact adrT_l hbd.1 hbd.2
      · exact endsT_l (Nat.le_trans (num_l hbd.1.1 (by omega)) (by decide)) (Nat.le_trans (num_l hbd.2.1 (by omega)) (by decide))
theorem TabOk.same {T : Addr} {H H' : Hp} (h : TabOk T H) (s : Same H H') : TabOk T H' := by
  obtain ⟨ps, e, r⟩ := h
  refine ⟨ps, s _ _ e, ?_⟩
  rcases r with r | ⟨c2, r, e2⟩
  · exact .inl r
  · exact .inr ⟨c2, r, s _ _ e2⟩
theorem TabOk.put {T l : Addr} {H : Hp} {xs : List V} {o : HO} (h : TabOk T H) (hl : H l = some (.lst xs)) : TabOk T (upd H l o) := by
  obtain ⟨ps, e, r⟩ := h
  have n1 : T ≠ l := fun z => by
    rw [z, hl] at e
    cases e
  refine ⟨ps, (upd_ne n1).trans e, ?_⟩
  rcases r with r | ⟨c2, r, e2⟩
  · exact .inl r
  · exact .inr ⟨c2, r, (upd_ne fun z => by rw [z, hl] at e2; cases e2).trans e2⟩
theorem ok_shrule {T : Addr} (F : Fun K "show_rule" "show_rule" s_show_rule f fd) (g_rule_of : Fn P w K mg base "rule_of" 4 ["told"] (spRuleOf C_Word C_Back C_Call)) (gm_Word_head : FnM P w K mg base C_Word "head" 1 ["self"] (spHead C_Word isWord)) (gm_Back_head : FnM P w K mg base C_Back "head" 1 ["self"] (spHead C_Back isBack)) (gm_Call_head : FnM P w K mg base C_Call "head" 1 ["self"] (spHead C_Call isCall))
    (g_every : Fn P w K mg base "every" 1 [] spEvery) (g_show_addresses : Fn P w K mg base "show_addresses" 3 ["stretch"] spAdrs) (g_show_numbers : Fn P w K mg base "show_numbers" 3 ["stretch"] (spNums T)) (c_PAIR : ∃ a, mg "PAIR_WORDS" = some (.ref a) ∧ ∀ H, SqT K H a (pairWs.map V.str)) (c_ADR : ∃ a, mg "ADDRESS_WORDS" = some (.ref a) ∧ ∀ H, SqT K H a ([("from" : Str), "to"].map V.str)) (b_zip : mg "zip" = none) (Tx : Txt K C_Rule C_Word C_Back C_Call) :
    FnOk P w K mg base CX0 5 f fd ["told"] (spShRule T) := by
  refine F.ok sc_show_rule (fun vs H Q E h => ?_) (fun cdv A outer s H vs Q E hr h => ?_)
  · obtain ⟨_, _, _, _, rfl, _⟩ := h
    rfl
  obtain ⟨t, p, r, bs, rfl, ht, rok, hb, ib, tab, q⟩ := h
  obtain ⟨apw, m_PAIR_WORDS, hpw⟩ := c_PAIR
  have r_PAIR_WORDS : RelV (.ref apw) (.ref apw) := rfl
  obtain ⟨aaw, m_ADDRESS_WORDS, haw⟩ := c_ADR
  have r_ADDRESS_WORDS : RelV (.ref aaw) (.ref aaw) := rfl
  refine ⟨_, (@pss_cons _ _ _ _ _ (@ps_set _ _ (1) _ _ _ _ sc_show_rule.nd rfl (Or.inl rfl) (@pe_lst _ _ _ _ (@pa_cons _ _ _ _ _ (@pe_methA0 _ _ _ _ _ _ _ _ (@pe_fn _ _ _ _ _ _ _ _ _ _ _ g_rule_of hr (by decide) rfl (@pa_cons _ _ _ _ _ (pv 0) pa_nil (by rfl)) (by decide) (by rfl) (by rfl)) hr (by rfl)) pa_nil (by rfl))) (by rfl) (by first | exact .inl rfl | exact .inr rfl | assumption)) (@pss_cons _ _ _ _ _ (@ps_for _ _ _ _ _ _ _ _ PassesOwn.never rfl (@pi_zip3 _ _ _ _ _ _ _ _ _ _ rfl b_zip (@pa_cons _ _ _ _ _ (@pe_glob _ _ _ _ _ rfl m_PAIR_WORDS r_PAIR_WORDS (by decide)) (@pa_cons _ _ _ _ _ (@pe_ix _ _ _ _ _ _ _ ix_tup (pv 0) pe_int (fun _ _ => rfl)) (@pa_cons _ _ _ _ _ (@pe_fn0 _ _ _ _ _ _ _ _ g_every hr (by decide) rfl (by decide)) pa_nil (by rfl)) (by rfl)) (by rfl)) (by rfl) (by rfl)) (@pg_tup _ _ _ _ _ _ rfl (@pgs_cons _ _ _ _ _ (@pg_name _ _ (2) _ sc_show_rule.nd rfl (Or.inl rfl) (by first | exact .inl rfl | exact .inr rfl | assumption)) (@pgs_cons _ _ _ _ _ (@pg_name _ _ (3) _ sc_show_rule.nd rfl (Or.inl rfl) (by first | exact .inl rfl | exact .inr rfl | assumption)) (@pgs_cons _ _ _ _ _ (@pg_name _ _ (4) _ sc_show_rule.nd rfl (Or.inl rfl) (by first | exact .inl rfl | exact .inr rfl | assumption)) pgs_nil (by rfl)) (by rfl)) (by rfl)) (by rfl) (by rfl)) (@pss_one _ _ _ (@ps_if _ _ _ _ _ _ _ _ (@pt_cmpR _ _ _ _ _ _ _ _ (op_neD hr.units) (pv 3) (pv 4) (nomark _)) (@pss_cons _ _ _ _ _ (@ps_expr _ _ _ _ (@pe_bm _ _ _ _ _ _ _ _ _ _ _ _ PySem.F.plainAttrs_list PySem.F.slot_list_append PySem.F.type_list_append mt_append (pv 1) (@pa_cons _ _ _ _ _ (pv 2) pa_nil (by rfl)) (by rfl) (by rfl) (by rfl) (by rfl) (by rfl)) (by rfl)) (@pss_one _ _ _ (@ps_expr _ _ _ _ (@pe_bm _ _ _ _ _ _ _ _ _ _ _ _ PySem.F.plainAttrs_list PySem.F.slot_list_append PySem.F.type_list_append mt_append (pv 1) (@pa_cons _ _ _ _ _ (@pe_ifExp _ _ _ _ _ _ _ _ (@pt_cmpR _ _ _ _ _ _ _ _ (op_inL (K := K) rfl) (pv 2) (@pe_glob _ _ _ _ _ rfl m_ADDRESS_WORDS r_ADDRESS_WORDS (by decide)) (by with_unfolding_all rfl)) (@pe_fn _ _ _ _ _ _ _ _ _ _ _ g_show_addresses hr (by decide) rfl (@pa_cons _ _ _ _ _ (pv 3) pa_nil (by rfl)) (by decide) (by rfl) (by rfl)) (@pe_fn _ _ _ _ _ _ _ _ _ _ _ g_show_numbers hr (by decide) rfl (@pa_cons _ _ _ _ _ (pv 3) pa_nil (by rfl)) (by decide) (by rfl) (by rfl))) pa_nil (by rfl)) (by rfl) (by rfl) (by rfl) (by rfl) (by rfl)) (by rfl)))) pss_nil)) (by intro _; rfl)) (@pss_one _ _ _ (@ps_ret _ _ _ _ (@pe_bm _ _ _ _ _ _ _ _ _ _ _ _ PySem.F.plainAttrs_str PySem.F.slot_str_join PySem.F.type_str_join mt_join pe_str (@pa_cons _ _ _ _ _ (pv 1) pa_nil (by rfl)) (by rfl) (by rfl) (by rfl) (by rfl) (by rfl)))))), ?_⟩
  rw [st_show_rule]
  walk_at "sv"
  refine ⟨t, p, r, rfl, ht, rok, fun a H1 na s1 ir => ?_⟩
  obtain ⟨dx, ha⟩ := ir
  have lh : (r.fs p).lookup ("head" : Str) = none := Rl.none (by decide) (by decide) (by decide) p r
  have after : ∀ (σ : L2.St) (G : VK), G (.str r.head) H1 → MethR P w K mg base 4 "head" (.ref a) tNil σ H1 G := fun σ G g => by
    cases r with
    | word w1 =>
      refine MethR.go gm_Word_head ha Tx.cls_Word lh (by decide) ?_
      exact ⟨a, p, dx, _, rfl, ha, ⟨_, rfl⟩, rok, g⟩
    | back =>
      refine MethR.go gm_Back_head ha Tx.cls_Back lh (by decide) ?_
      exact ⟨a, p, dx, _, rfl, ha, rfl, rok, g⟩
    | call n1 =>
      refine MethR.go gm_Call_head ha Tx.cls_Call lh (by decide) ?_
      exact ⟨a, p, dx, _, rfl, ha, ⟨_, rfl⟩, rok, g⟩
  refine after _ _ ?_
  refine LstR.go (by simp) fun l nl => ?_
  have ht1 := s1 _ _ ht
  have hb1 := hb.same s1
  have s2 := same_new nl (.lst [.str r.head])
  rw [zip3_]
  walk_at "sv"
  have et : (r.told p)[1]? = some (.ref p) := by cases r <;> rfl
  refine ixT_go (i := 1) (SqT.of (s2 _ _ ht1)) et ?_
  walk_at "sv"
  refine ⟨rfl, fun ev H3 s3 hev => ?_⟩
  obtain ⟨vs, hvs, stv⟩ := (hb1.same s2).same s3
  obtain ⟨us, hus, stu⟩ := hev
  have hl3 : H3 l = some (.lst [.str r.head]) := s3 _ _ upd_same
  refine Zip3R.go (hpw _) (SqT.of hvs) (SqT.of hus) ?_
  have lv : vs.length = 6 := by rw [stv.len]; exact ib.1
  have lu : us.length = 6 := by rw [stu.len]; rfl
  have keep : SameB T H H3 := fun a o _ e => s3 _ _ (s2 _ _ (s1 _ _ e))
  have tab3 : TabOk T H3 := by
    obtain ⟨ps, e, r⟩ := tab
    have S : Same H H3 := (s1.trans s2).trans s3
    refine ⟨ps, S _ _ e, ?_⟩
    rcases r with r | ⟨c2, r, e2⟩
    · exact .inl r
    · exact .inr ⟨c2, r, S _ _ e2⟩
  have nlT : l ≠ T := fun z => by
    obtain ⟨ps, e, _⟩ := tab
    rw [z, s1 _ _ e] at nl
    cases nl
  have h3T : ∃ ps, H3 T = some (tabO T ps) := ⟨_, tab3.choose_spec.1⟩
  have tup3 : ∀ {H' : Hp} {a : Addr} {xs : List V}, SameB T (fun b => if b = l then none else H3 b) H' → H3 a = some (.tup xs) → H' a = some (.tup xs) := fun {H' a xs} sb e => by
    refine sb a _ (fun z => ?_) ((if_neg fun z => ?_).trans e)
    · obtain ⟨ps, e2⟩ := h3T
      rw [z, e2] at e
      cases e
    · rw [z, hl3] at e
      cases e
  refine ForR.trips (xs := pairWs.map V.str) (ys := vs) (zs := us) (len := 6) rfl lv lu (fun i σ H' => SameB T (fun b => if b = l then none else H3 b) H' ∧ H' l = some (.lst ((r.head :: pairsW bs i).map V.str)) ∧ TabOk T H' ∧ ∃ x y z, σ = [some (.ref t), some (.ref l), x, y, z]) ⟨fun a o _ e => ?_, hl3, tab3, none, none, none, rfl⟩ (fun i σ H' pv => ?_) (fun i x y z tt σ H' hx hy hz pv nt => ?_) (fun σ H' pv => ?_)
  · replace e : (if a = l then none else H3 a) = some o := e
    by_cases c : a = l
    · rw [if_pos c] at e
      cases e
    · rw [if_neg c] at e
      exact e
  · exact ⟨hpw _, SqT.of (tup3 pv.1 hvs), SqT.of (tup3 pv.1 hus)⟩
  · obtain ⟨sb, hl', tk, x0, y0, z0, rfl⟩ := pv
    obtain ⟨ya, lo, hi, rfl, eb, hya⟩ := stv.at hy
    obtain ⟨za, lo2, hi2, rfl, eb2, hza⟩ := stu.at hz
    obtain ⟨wd, ew, rfl⟩ : ∃ wd, pairWs[i]? = some wd ∧ x = .str wd := by
      rw [List.getElem?_map] at hx
      cases e : pairWs[i]? with
      | none => rw [e] at hx; cases hx
      | some v => rw [e] at hx; cases hx; exact ⟨v, rfl, rfl⟩
    have li : i < 6 := (List.getElem?_eq_some_iff.mp ew).1
    have nyl : ya ≠ l := fun z => by
      have h := tup3 sb hya
      rw [z, hl'] at h
      cases h
    have st := same_new nt (.tup [.str wd, .ref ya, .ref za])
    have hya' := st _ _ (tup3 sb hya)
    have hza' := st _ _ (tup3 sb hza)
    have hl2 := st _ _ hl'
    have eW : pairW i (bs.getD i (0, 0)) (allBox.getD i (0, 0)) = pairW i (lo, hi) (lo2, hi2) := by
      rw [List.getD_eq_getElem?_getD, List.getD_eq_getElem?_getD, eb, eb2]
      rfl
    have enext : pairsW bs (i + 1) = pairsW bs i ++ pairW i (lo, hi) (lo2, hi2) := by
      unfold pairsW
      rw [List.range_succ, List.map_append, List.flatten_append, List.map_singleton, List.flatten_singleton, eW]
    obtain ⟨bd1, bd2⟩ := ib.2 _ (List.mem_of_getElem? eb)
    walk_at "sv"
    refine ⟨_, _, IsPt.dt (ns := [lo, hi]) hya', IsPt.dt (ns := [lo2, hi2]) hza', pointD_shaped _, pointD_shaped _, ?_⟩
    refine ⟨_, rfl, ?_⟩
    have sb2 : SameB T (fun b => if b = l then none else H3 b) (upd H' tt (.tup [.str wd, .ref ya, .ref za])) := fun a o ha e => st _ _ (sb a o ha e)
    have tk2 := tk.same st
    rw [if_pos rfl]
    by_cases c : lo = lo2 ∧ hi = hi2
    · rw [(point_eqv _ _).mpr (by rw [c.1, c.2])]
      walk_at "sv"
      refine ⟨sb2, ?_, tk2, _, _, _, rfl⟩
      rw [enext, show pairW i (lo, hi) (lo2, hi2) = [] from if_pos (by rw [c.1, c.2]), List.append_nil]
      exact hl2
    · have ne : PyData.eqv (pointD [lo, hi]) (pointD [lo2, hi2]) = false := by
        cases e : PyData.eqv (pointD [lo, hi]) (pointD [lo2, hi2]) with
        | false => rfl
        | true =>
          have := (point_eqv _ _).mp e
          cases this
          exact absurd ⟨rfl, rfl⟩ c
      rw [ne]
      have len : (r.head :: pairsW bs i).length ≤ 13 := by
        have := pairsW_len bs i
        rw [List.length_cons]
        omega
      walk_at "sv"
      refine ⟨ty_lst hl2, ?_⟩
      refine app_go hl2 (by rw [List.length_map]; omega) ?_
      walk_at "sv"
      refine ⟨ty_lst upd_same, ?_⟩
      refine ⟨aaw, _, rfl, .inr (haw _), rfl, rfl, ?_⟩
      refine ⟨_, rfl, ?_⟩
      have inw : inV (.str wd) ([("from" : Str), "to"].map V.str) = decide (i = 2 ∨ i = 4) := by
        have ii : i = 0 ∨ i = 1 ∨ i = 2 ∨ i = 3 ∨ i = 4 ∨ i = 5 := by omega
        rcases ii with rfl | rfl | rfl | rfl | rfl | rfl <;> cases ew <;> decide +kernel
      rw [if_neg Bool.false_ne_true, inw]
      have hya4 : upd (upd H' tt (.tup [.str wd, .ref ya, .ref za])) l (.lst (V.str r.head :: List.map V.str (pairsW bs i) ++ [.str wd])) ya = some (.tup [.int lo, .int hi]) := (upd_ne nyl).trans hya'
      have ewd : pairWs.getD i ⟨#[]⟩ = wd := by rw [List.getD_eq_getElem?_getD, ew]; rfl
      have cne : ¬ ((lo, hi) = (lo2, hi2)) := fun e => c (by cases e; exact ⟨rfl, rfl⟩)
      have fin : ∀ (H5 : Hp) (sx : Str), SameB T (upd (upd H' tt (.tup [.str wd, .ref ya, .ref za])) l (.lst (V.str r.head :: List.map V.str (pairsW bs i) ++ [.str wd]))) H5 → TabOk T H5 → pairW i (lo, hi) (lo2, hi2) = [wd, sx] →
          rAppend (.ref l) [.str sx] H5 fun _ H6 => SameB T (fun b => if b = l then none else H3 b) H6 ∧ H6 l = some (.lst (V.str r.head :: List.map V.str (pairsW bs (i + 1)))) ∧ TabOk T H6 ∧ ∃ x y z, ([some (V.ref t), some (V.ref l), some (V.str wd), some (V.ref ya), some (V.ref za)] : L2.St) = [some (V.ref t), some (V.ref l), x, y, z] := fun H5 sx sb5 tk5 ep => by
        have hl5 := sb5 l _ nlT upd_same
        refine app_go hl5 (by simp only [List.length_append, List.length_cons, List.length_map, List.length_nil] at len ⊢; omega) ?_
        refine ⟨fun a o ha e => ?_, ?_, tk5.put hl5, _, _, _, rfl⟩
        · have nal : a ≠ l := fun z => by
            have e' : (if a = l then none else H3 a) = some o := e
            rw [if_pos z] at e'
            cases e'
          rw [upd_ne nal]
          exact sb5 a o ha ((upd_ne nal).trans (sb2 a o ha e))
        · rw [upd_same, enext, ep, List.map_append]
          simp
      refine IfR.dec (fun c2 => ?_) (fun c2 => ?_)
      · walk_at "sv"
        refine ⟨ya, lo, hi, rfl, hya4, bd1, bd2, fun H5 s5 => ?_⟩
        refine fin H5 _ (fun a o _ e => s5 _ _ e) ((tk2.put hl2).same s5) ?_
        unfold pairW
        rw [if_neg cne, ewd, if_pos c2]
      · walk_at "sv"
        refine ⟨ya, lo, hi, rfl, hya4, bd1, bd2, tk2.put hl2, fun H5 sb5 tk5 => ?_⟩
        refine fin H5 _ sb5 tk5 ?_
        unfold pairW
        rw [if_neg cne, ewd, if_neg c2]
  · obtain ⟨sb, hl', tk, x0, y0, z0, rfl⟩ := pv
    walk_at "sv"
    rw [lit_sp]
    refine join_go (ws := r.head :: pairsW bs 6) (SqL.of hl') (joinOk_small ?_) (q H' (fun a o ha e => ?_) tk)
    · have h1 := sum_le (m := 1100) (ws := r.head :: pairsW bs 6) fun x hx => by
        rcases List.mem_cons.mp hx with rfl | hx
        · exact head_l rok
        · exact Nat.le_trans (pairsW_l ib 6 x hx) (by decide)
      have h2 := pairsW_len bs 6
      have h3 : sp.length = 1 := rfl
      rw [List.length_cons] at h1 ⊢
      rw [h3]
      omega
    · have nal : a ≠ l := fun z => by
        rw [z] at e
        rw [s1 _ _ e] at nl
        cases nl
      exact sb a o ha ((if_neg nal).trans (keep a o ha e))
end
--CUT--
theorem ok_cell (F : Fun K "_law_cell_at" "_law_cell_at" s__law_cell_at f fd) (b_len : mg "len" = none) : FnOk P w K mg base CX0 1 f fd ["_law_script", "_law_k"] (spCell K) := by
  refine F.ok sc__law_cell_at (fun vs H Q E h => ?_) (fun cdv A outer s H vs Q E hr h => ?_)
  · obtain ⟨a, ns, k, rfl, _⟩ := h
    rfl
  obtain ⟨a, ns, k, rfl, hS, h0, q⟩ := h
  obtain ⟨n, rfl⟩ := Int.eq_ofNat_of_zero_le h0
  refine ⟨_, (@pss_cons _ _ _ _ _ (@ps_if _ _ _ _ _ _ _ _ (@pt_cmpR _ _ _ _ _ _ _ _ op_lt (pv 1) (@pe_callB _ _ _ _ _ _ _ _ _ call_lenR rfl b_len bo_len (@pa_cons _ _ _ _ _ (pv 0) pa_nil (by rfl)) (by decide) (by decide) (by rfl) (by rfl)) (nomark _)) (@pss_one _ _ _ (@ps_ret _ _ _ _ (@pe_ix _ _ _ _ _ _ _ ix_list (pv 0) (pv 1) (fun _ _ => rfl)))) pss_nil) (@pss_one _ _ _ (@ps_ret _ _ _ _ pe_int))), ?_⟩
  rw [st__law_cell_at]
  walk_at "sv"
  refine LenR.lst hS ?_
  walk_at "sv"
  rw [List.length_map]
  refine BrS.dec (fun c => ?_) (fun c => ?_)
  · walk_at "sv"
    refine ixL_go hS (v := .int (cell ns n)) ?_ q
    have hn : n < ns.length := by omega
    rw [List.getElem?_map, List.getElem?_eq_getElem hn]
    unfold cell
    rw [Int.toNat_natCast, List.getD_eq_getElem?_getD, List.getElem?_eq_getElem hn]
    rfl
  · walk_at "sv"
    have hn : ns.length ≤ n := by omega
    have e : cell ns n = 0 := by
      unfold cell
      rw [Int.toNat_natCast, List.getD_eq_getElem?_getD, List.getElem?_eq_none hn]
      rfl
    rw [e] at q
    exact q
def spStream : Sp := fun vs H Q _ => ∃ (c : Int) (k : Nat), vs = [.int c, .int (k : Int)] ∧ k ≤ 100 ∧ ∀ (l : Addr) (ds : List Int) (H' : Hp), H l = none → Same H H' → H' l = some (.lst (ds.map V.int)) → ds.length = k → (∀ d ∈ ds, 0 ≤ d ∧ d < 4294967311) → Q (.ref l) H'
theorem ok_stream (F : Fun K "_law_stream" "_law_stream" s__law_stream f fd) (b_range : mg "range" = none) : FnOk P w K mg base CX0 1 f fd ["_law_cell", "_law_many"] spStream := by
  refine F.ok sc__law_stream (fun vs H Q E h => ?_) (fun cdv A outer s H vs Q E hr h => ?_)
  · obtain ⟨_, _, rfl, _⟩ := h
    rfl
  obtain ⟨c, k, rfl, hk, q⟩ := h
  refine ⟨_, (@pss_cons _ _ _ _ _ (@ps_set _ _ (2) _ _ _ _ sc__law_stream.nd rfl (Or.inl rfl) (@pe_lst _ _ _ _ pa_nil) (by rfl) (by first | exact .inl rfl | exact .inr rfl | assumption)) (@pss_cons _ _ _ _ _ (@ps_set _ _ (3) _ _ _ _ sc__law_stream.nd rfl (Or.inl rfl) (@pe_op _ _ _ _ _ _ _ _ op_add (@pe_op _ _ _ _ _ _ _ _ op_mod (pv 0) pe_int) pe_int) (by rfl) (by first | exact .inl rfl | exact .inr rfl | assumption)) (@pss_cons _ _ _ _ _ (@ps_for _ _ _ _ _ _ _ _ PassesOwn.never rfl (@pi_range1 _ _ _ _ _ _ rfl b_range (@pa_cons _ _ _ _ _ (pv 1) pa_nil (by rfl)) (by rfl)) (@pg_name _ _ (4) _ sc__law_stream.nd rfl (Or.inl rfl) (by first | exact .inl rfl | exact .inr rfl | assumption)) (@pss_cons _ _ _ _ _ (@ps_set _ _ (3) _ _ _ _ sc__law_stream.nd rfl (Or.inl rfl) (@pe_op _ _ _ _ _ _ _ _ op_mod (@pe_op _ _ _ _ _ _ _ _ op_add (@pe_op _ _ _ _ _ _ _ _ op_add (@pe_op _ _ _ _ _ _ _ _ op_mul (pv 3) (pv 3)) (@pe_op _ _ _ _ _ _ _ _ op_mul pe_int (pv 3))) (pv 4)) pe_int) (by rfl) (by first | exact .inl rfl | exact .inr rfl | assumption)) (@pss_one _ _ _ (@ps_expr _ _ _ _ (@pe_bm _ _ _ _ _ _ _ _ _ _ _ _ PySem.F.plainAttrs_list PySem.F.slot_list_append PySem.F.type_list_append mt_append (pv 2) (@pa_cons _ _ _ _ _ (pv 3) pa_nil (by rfl)) (by rfl) (by rfl) (by rfl) (by rfl) (by rfl)) (by rfl)))) (by intro _; rfl)) (@pss_one _ _ _ (@ps_ret _ _ _ _ (pv 2)))))), ?_⟩
  rw [st__law_stream]
  walk_at "sv"
  refine LstR.go (by simp) fun l hl => ?_
  have s0 := same_new hl (.lst [])
  refine ⟨by decide, ?_⟩
  have m0 := Int.emod_nonneg c (show (4294967311 : Int) ≠ 0 by decide)
  have m1 := Int.emod_lt_of_pos c (show (0 : Int) < 4294967311 by decide)
  generalize c % 4294967311 = n0 at *
  refine RngR.go (by omega) (by omega) ?_
  rw [Int.toNat_natCast]
  refine ForR.range (fun i σ H' => Same H H' ∧ ∃ (ds : List Int) (n : Int) (y : Option V), H' l = some (.lst (ds.map V.int)) ∧ ds.length = i ∧ (∀ d ∈ ds, 0 ≤ d ∧ d < 4294967311) ∧ 0 ≤ n ∧ n < 4295015582 ∧ σ = [some (.int c), some (.int (k : Int)), some (.ref l), some (.int n), y]) ⟨s0, [], n0 + 48271, none, upd_same, rfl, (fun d hd => by cases hd), by omega, by omega, rfl⟩ (fun i σ H1 hi pv => ?_) (fun σ H1 pv => ?_)
  · obtain ⟨sm, ds, n, y, hl1, dl, al, n1, n2, rfl⟩ := pv
    walk_at "sv"
    refine ⟨.inl ⟨by omega, by omega⟩, .inl ⟨by decide, by decide⟩, by decide, ?_⟩
    generalize n * n + 69621 * n + (0 + (i : Int)) = z
    have z0 := Int.emod_nonneg z (show (4294967311 : Int) ≠ 0 by decide)
    have z1 := Int.emod_lt_of_pos z (show (0 : Int) < 4294967311 by decide)
    generalize z % 4294967311 = d at *
    refine ⟨ty_lst hl1, ?_⟩
    refine app_go hl1 (by rw [List.length_map]; omega) ?_
    refine ⟨sm.put hl, ds ++ [d], d, _, by rw [upd_same, List.map_append]; rfl, by rw [List.length_append, dl]; rfl, (fun x hx => ?_), z0, by omega, rfl⟩
    rcases List.mem_append.mp hx with hx | hx
    · exact al x hx
    · obtain rfl := List.mem_singleton.mp hx
      exact ⟨z0, z1⟩
  · obtain ⟨sm, ds, n, y, hl1, dl, al, n1, n2, rfl⟩ := pv
    walk_at "sv"
    exact q l ds H1 hl sm hl1 dl al
def topsI : List Int := [3, 255, 4294967295, 65535, 4294967295, 65535]
theorem tops_at {i : Nat} (h : i < 6) : ∃ t : Int, topsI[i]? = some t ∧ (topsI.map V.int)[i]? = some (.int t) ∧ 0 ≤ t ∧ t < 2 ^ 33 := by
  have e : i = 0 ∨ i = 1 ∨ i = 2 ∨ i = 3 ∨ i = 4 ∨ i = 5 := by omega
  rcases e with rfl | rfl | rfl | rfl | rfl | rfl <;> exact ⟨_, rfl, rfl, by decide, by decide⟩
theorem ints_at {ds : List Int} {i : Nat} (h : i < ds.length) : ∃ d, ds[i]? = some d ∧ (ds.map V.int)[i]? = some (.int d) := ⟨ds[i], List.getElem?_eq_getElem h, by rw [List.getElem?_map, List.getElem?_eq_getElem h]; rfl⟩
def spStretch : Sp := fun vs H Q _ => ∃ (top way a b : Int), vs = [.int top, .int way, .int a, .int b] ∧ 0 ≤ top ∧ top < 2 ^ 33 ∧ ∀ t lo hi H', H t = none → Same H H' → H' t = some (.tup [.int lo, .int hi]) → 0 ≤ lo → lo ≤ hi → hi ≤ top → Q (.ref t) H'
theorem ok_stretch (F : Fun K "_law_stretch" "_law_stretch" s__law_stretch f fd) (b_min : mg "min" = none) (b_max : mg "max" = none) : FnOk P w K mg base CX0 1 f fd ["_law_top", "_law_way", "_law_a", "_law_b"] spStretch := by
  refine F.ok sc__law_stretch (fun vs H Q E h => ?_) (fun cdv A outer s H vs Q E hr h => ?_)
  · obtain ⟨_, _, _, _, rfl, _⟩ := h
    rfl
  obtain ⟨top, way, a, b, rfl, t0, t1, q⟩ := h
  have fin : ∀ lo hi : Int, 0 ≤ lo → lo ≤ hi → hi ≤ top → TupR [.int lo, .int hi] H Q := fun lo hi h1 h2 h3 => TupR.go (by simp) fun t ht => q t lo hi _ ht (same_new ht _) upd_same h1 h2 h3
  refine ⟨_, (@pss_cons _ _ _ _ _ (@ps_set _ _ (4) _ _ _ _ sc__law_stretch.nd rfl (Or.inl rfl) (@pe_op _ _ _ _ _ _ _ _ op_mod (pv 2) (@pe_op _ _ _ _ _ _ _ _ op_add (pv 0) pe_int)) (by rfl) (by first | exact .inl rfl | exact .inr rfl | assumption)) (@pss_cons _ _ _ _ _ (@ps_set _ _ (5) _ _ _ _ sc__law_stretch.nd rfl (Or.inl rfl) (@pe_op _ _ _ _ _ _ _ _ op_mod (pv 3) (@pe_op _ _ _ _ _ _ _ _ op_add (pv 0) pe_int)) (by rfl) (by first | exact .inl rfl | exact .inr rfl | assumption)) (@pss_cons _ _ _ _ _ (@ps_if _ _ _ _ _ _ _ _ (@pt_cmpR _ _ _ _ _ _ _ _ op_eq (pv 1) pe_int (nomark _)) (@pss_one _ _ _ (@ps_ret _ _ _ _ (@pe_tup _ _ _ _ _ (@pa_cons _ _ _ _ _ (pv 4) (@pa_cons _ _ _ _ _ (pv 4) pa_nil (by rfl)) (by rfl))))) pss_nil) (@pss_cons _ _ _ _ _ (@ps_if _ _ _ _ _ _ _ _ (@pt_cmpR _ _ _ _ _ _ _ _ op_eq (pv 1) pe_int (nomark _)) (@pss_one _ _ _ (@ps_ret _ _ _ _ (@pe_tup _ _ _ _ _ (@pa_cons _ _ _ _ _ (@pe_callB _ _ _ _ _ _ _ _ _ (call_minR rfl) rfl b_min bo_min (@pa_cons _ _ _ _ _ (pv 4) (@pa_cons _ _ _ _ _ (pv 5) pa_nil (by rfl)) (by rfl)) (by decide) (by decide) (by rfl) (by rfl)) (@pa_cons _ _ _ _ _ (@pe_callB _ _ _ _ _ _ _ _ _ (call_maxR rfl) rfl b_max bo_max (@pa_cons _ _ _ _ _ (pv 4) (@pa_cons _ _ _ _ _ (pv 5) pa_nil (by rfl)) (by rfl)) (by decide) (by decide) (by rfl) (by rfl)) pa_nil (by rfl)) (by rfl))))) pss_nil) (@pss_cons _ _ _ _ _ (@ps_if _ _ _ _ _ _ _ _ (@pt_cmpR _ _ _ _ _ _ _ _ op_eq (pv 1) pe_int (nomark _)) (@pss_one _ _ _ (@ps_ret _ _ _ _ (@pe_tup _ _ _ _ _ (@pa_cons _ _ _ _ _ pe_int (@pa_cons _ _ _ _ _ (pv 4) pa_nil (by rfl)) (by rfl))))) pss_nil) (@pss_cons _ _ _ _ _ (@ps_if _ _ _ _ _ _ _ _ (@pt_cmpR _ _ _ _ _ _ _ _ op_eq (pv 1) pe_int (nomark _)) (@pss_one _ _ _ (@ps_ret _ _ _ _ (@pe_tup _ _ _ _ _ (@pa_cons _ _ _ _ _ (pv 4) (@pa_cons _ _ _ _ _ (pv 0) pa_nil (by rfl)) (by rfl))))) pss_nil) (@pss_cons _ _ _ _ _ (@ps_if _ _ _ _ _ _ _ _ (@pt_cmpR _ _ _ _ _ _ _ _ op_eq (pv 1) pe_int (nomark _)) (@pss_one _ _ _ (@ps_ret _ _ _ _ (@pe_tup _ _ _ _ _ (@pa_cons _ _ _ _ _ (pv 4) (@pa_cons _ _ _ _ _ (@pe_callB _ _ _ _ _ _ _ _ _ (call_minR rfl) rfl b_min bo_min (@pa_cons _ _ _ _ _ (pv 0) (@pa_cons _ _ _ _ _ (@pe_op _ _ _ _ _ _ _ _ op_add (pv 4) (@pe_op _ _ _ _ _ _ _ _ op_mod (pv 3) pe_int)) pa_nil (by rfl)) (by rfl)) (by decide) (by decide) (by rfl) (by rfl)) pa_nil (by rfl)) (by rfl))))) pss_nil) (@pss_cons _ _ _ _ _ (@ps_if _ _ _ _ _ _ _ _ (@PW.pt _ _ _ (@pw_and _ _ _ _ _ _ _ (@pt_cmpR _ _ _ _ _ _ _ _ op_eq (pv 1) pe_int (nomark _)) (@pw_and1 _ _ _ _ (@pt_cmpR _ _ _ _ _ _ _ _ op_eq (pv 0) pe_int (nomark _))))) (@pss_cons _ _ _ _ _ (@ps_set _ _ (6) _ _ _ _ sc__law_stretch.nd rfl (Or.inl rfl) (@pe_op _ _ _ _ _ _ _ _ op_shl pe_int (@pe_op _ _ _ _ _ _ _ _ op_mod (pv 3) pe_int)) (by rfl) (by first | exact .inl rfl | exact .inr rfl | assumption)) (@pss_one _ _ _ (@ps_ret _ _ _ _ (@pe_tup _ _ _ _ _ (@pa_cons _ _ _ _ _ (@pe_op _ _ _ _ _ _ _ _ op_mul (@pe_op _ _ _ _ _ _ _ _ op_divW (pv 4) (pv 6)) (pv 6)) (@pa_cons _ _ _ _ _ (@pe_op _ _ _ _ _ _ _ _ op_sub (@pe_op _ _ _ _ _ _ _ _ op_add (@pe_op _ _ _ _ _ _ _ _ op_mul (@pe_op _ _ _ _ _ _ _ _ op_divW (pv 4) (pv 6)) (pv 6)) (pv 6)) pe_int) pa_nil (by rfl)) (by rfl)))))) pss_nil) (@pss_one _ _ _ (@ps_ret _ _ _ _ (@pe_tup _ _ _ _ _ (@pa_cons _ _ _ _ _ pe_int (@pa_cons _ _ _ _ _ (pv 0) pa_nil (by rfl)) (by rfl))))))))))))), ?_⟩
  rw [st__law_stretch]
  walk_at "sv"
  refine ⟨by omega, by omega, ?_⟩
  have x0 := Int.emod_nonneg a (show top + 1 ≠ 0 by omega)
  have x1 := Int.emod_lt_of_pos a (show 0 < top + 1 by omega)
  have y0 := Int.emod_nonneg b (show top + 1 ≠ 0 by omega)
  have y1 := Int.emod_lt_of_pos b (show 0 < top + 1 by omega)
  generalize a % (top + 1) = x at *
  generalize b % (top + 1) = y at *
  refine BrS.dec (fun c => ?_) (fun c => ?_)
  · walk_at "sv"
    exact fin _ _ (by omega) (by omega) (by omega)
  walk_at "sv"
  refine BrS.dec (fun c => ?_) (fun c => ?_)
  · walk_at "sv"
    exact fin _ _ (by omega) (by omega) (by omega)
  walk_at "sv"
  refine BrS.dec (fun c => ?_) (fun c => ?_)
  · walk_at "sv"
    exact fin _ _ (by omega) (by omega) (by omega)
  walk_at "sv"
  refine BrS.dec (fun c => ?_) (fun c => ?_)
  · walk_at "sv"
    exact fin _ _ (by omega) (by omega) (by omega)
  walk_at "sv"
  refine BrS.dec (fun c => ?_) (fun c => ?_)
  · walk_at "sv"
    refine ⟨by decide, ?_⟩
    have b0 := Int.emod_nonneg b (show (3 : Int) ≠ 0 by decide)
    exact fin _ _ (by omega) (by omega) (by omega)
  walk_at "sv"
  refine BrA.dec (fun c => ?_) (fun c => ?_)
  · walk_at "sv"
    refine BrS.dec (fun c => ?_) (fun c => ?_)
    · walk_at "sv"
      have b0 := Int.emod_nonneg b (show (33 : Int) ≠ 0 by decide)
      have b1 := Int.emod_lt_of_pos b (show (0 : Int) < 33 by decide)
      refine ⟨by decide, ⟨b0, by omega, by decide⟩, ?_⟩
      generalize b % 33 = e at *
      have p0 : (1 : Int) * 2 ^ e.toNat ≤ 2 ^ 32 := by
        rw [Int.one_mul]
        exact_mod_cast Nat.pow_le_pow_right (show 0 < 2 by decide) (show e.toNat ≤ 32 by omega)
      have p1 : 0 < (1 : Int) * 2 ^ e.toNat := by
        rw [Int.one_mul]
        exact Int.pow_pos (by decide)
      have dv : (1 : Int) * 2 ^ e.toNat ∣ 4294967296 := by
        rw [Int.one_mul]
        exact ⟨2 ^ (32 - e.toNat), by rw [← Int.pow_add, show e.toNat + (32 - e.toNat) = 32 by omega]; decide⟩
      generalize (1 : Int) * 2 ^ e.toNat = sz at *
      have d0 : 0 ≤ x / sz := Int.ediv_nonneg x0 (by omega)
      have d1 : x / sz * sz ≤ x := Int.ediv_mul_le x (by omega)
      have d2 : 0 ≤ x / sz * sz := Int.mul_nonneg d0 (by omega)
      have d3 : x / sz ≤ x := Int.ediv_le_self sz x0
      refine ⟨⟨p1, by omega⟩, .inl ⟨by omega, by omega⟩, ⟨p1, by omega⟩, .inl ⟨by omega, by omega⟩, ?_⟩
      have d5 : x / sz * sz + sz ≤ 4294967296 := by
        obtain ⟨m, em⟩ := dv
        have lt : x / sz < m := by
          refine Int.ediv_lt_of_lt_mul p1 ?_
          rw [Int.mul_comm, ← em]
          omega
        have := Int.mul_le_mul_of_nonneg_right (show x / sz + 1 ≤ m by omega) (show 0 ≤ sz by omega)
        rw [Int.add_mul, Int.one_mul, Int.mul_comm m sz, ← em] at this
        exact this
      generalize x / sz * sz = u at *
      exact fin _ _ (by omega) (by omega) (by omega)
    · walk_at "sv"
      exact fin _ _ (by omega) (by omega) (by omega)
  · walk_at "sv"
    exact fin _ _ (by omega) (by omega) (by omega)
def wordsS : List Str := ["pass", "stop", "back", "call", "chain", "default", "turn", "kind", "from", "fromdoor", "to", "todoor"]
theorem words_at {i : Nat} (h : i < 12) : ∃ z : Str, (wordsS.map V.str)[i]? = some (.str z) ∧ z.length ≤ 1000 ∧ PyData.strOk z = true := by
  have e : i = 0 ∨ i = 1 ∨ i = 2 ∨ i = 3 ∨ i = 4 ∨ i = 5 ∨ i = 6 ∨ i = 7 ∨ i = 8 ∨ i = 9 ∨ i = 10 ∨ i = 11 := by omega
  rcases e with rfl | rfl | rfl | rfl | rfl | rfl | rfl | rfl | rfl | rfl | rfl | rfl <;> exact ⟨_, rfl, by decide, by decide +kernel⟩
def abc : Str := "abcdefghijklmnopqrstuvwxyz"
theorem abc_len : abc.cps.toList.length = 26 := by decide
def letS (d : Int) : Str := ⟨#[abc.cps.toList.getD (d % 26).toNat 0]⟩
def letV : V → V
  | .int d => .str (letS d)
  | _ => .non
theorem let_at (d : Int) : atI abc.cps.toList (d % 26) = some (abc.cps.toList.getD (d % 26).toNat 0) := by
  have m0 := Int.emod_nonneg d (show (26 : Int) ≠ 0 by decide)
  have m1 := Int.emod_lt_of_pos d (show (0 : Int) < 26 by decide)
  obtain ⟨n, en⟩ := Int.eq_ofNat_of_zero_le m0
  rw [en, Int.toNat_natCast]
  have hn : n < abc.cps.toList.length := by rw [abc_len]; omega
  refine atI_nat ?_
  rw [List.getD_eq_getElem?_getD, List.getElem?_eq_getElem hn]
  rfl
theorem let_ok (d : Int) : (letS d).length = 1 ∧ PyData.strOk (letS d) = true := by
  refine ⟨rfl, ?_⟩
  have m0 := Int.emod_nonneg d (show (26 : Int) ≠ 0 by decide)
  have m1 := Int.emod_lt_of_pos d (show (0 : Int) < 26 by decide)
  unfold letS
  generalize (d % 26).toNat = k
  have al : ∀ c ∈ abc.cps.toList, c < 1114112 := by decide
  have : abc.cps.toList.getD k 0 < 1114112 := by
    rw [List.getD_eq_getElem?_getD]
    cases e : abc.cps.toList[k]? with
    | none => decide
    | some c => exact al c (List.mem_of_getElem? e)
  show (#[abc.cps.toList.getD k 0] : Array Nat).all _ = true
  generalize abc.cps.toList.getD k 0 = c at this
  simp [this]
theorem strOk_app (a b : Str) : PyData.strOk (a ++ b) = (PyData.strOk a && PyData.strOk b) := by
  show (a.cps ++ b.cps).all _ = _
  rw [Array.all_append]
  rfl
theorem join_small : ∀ ws : List Str, (∀ x ∈ ws, x.length = 1 ∧ PyData.strOk x = true) → (Str.join "" ws).length = ws.length ∧ PyData.strOk (Str.join "" ws) = true ∧ (ws.map (·.length)).sum = ws.length
  | [], _ => ⟨rfl, by decide +kernel, rfl⟩
  | [x], h => by
    obtain ⟨h1, h2⟩ := h x List.mem_cons_self
    exact ⟨h1, h2, by simp [h1]⟩
  | x :: y :: r, h => by
    obtain ⟨h1, h2⟩ := h x List.mem_cons_self
    obtain ⟨i1, i2, i3⟩ := join_small (y :: r) fun z hz => h z (List.mem_cons_of_mem _ hz)
    have e : Str.join "" (x :: y :: r) = x ++ "" ++ Str.join "" (y :: r) := rfl
    refine ⟨?_, ?_, ?_⟩
    · rw [e, Str.length_append, Str.length_append, i1, h1, show ("" : Str).length = 0 from rfl, List.length_cons (a := x)]
      omega
    · rw [e, strOk_app, strOk_app, h2, i2]
      decide +kernel
    · rw [List.map_cons, List.sum_cons, i3, h1, List.length_cons (a := x)]
      omega
def spName : Sp := fun vs H Q _ => ∃ c : Int, vs = [.int c] ∧ ∀ (n : Str) H', Same H H' → n.length ≤ 1000 → PyData.strOk n = true → Q (.str n) H'
theorem ok_name (F : Fun K "_law_name" "_law_name" s__law_name f fd) (g__law_stream : Fn P w K mg base "_law_stream" 1 ["_law_cell", "_law_many"] spStream) : FnOk P w K mg base CX0 2 f fd ["_law_cell"] spName := by
  refine F.ok sc__law_name (fun vs H Q E h => ?_) (fun cdv A outer s H vs Q E hr h => ?_)
  · obtain ⟨_, rfl, _⟩ := h
    rfl
  obtain ⟨c, rfl, q⟩ := h
  refine ⟨_, (@pss_cons _ _ _ _ _ (@ps_set _ _ (1) _ _ _ _ sc__law_name.nd rfl (Or.inl rfl) (@pe_lst _ _ _ _ (@pa_consts _ _ _ rfl)) (by rfl) (by first | exact .inl rfl | exact .inr rfl | assumption)) (@pss_cons _ _ _ _ _ (@ps_set _ _ (2) _ _ _ _ sc__law_name.nd rfl (Or.inr rfl) pe_str (by rfl) (by first | exact .inl rfl | exact .inr rfl | assumption)) (@pss_cons _ _ _ _ _ (@ps_if _ _ _ _ _ _ _ _ (@pt_cmpR _ _ _ _ _ _ _ _ op_eq (@pe_op _ _ _ _ _ _ _ _ op_mod (pv 0) pe_int) pe_int (nomark _)) (@pss_one _ _ _ (@ps_ret _ _ _ _ (@pe_ix _ _ _ _ _ _ _ ix_list (pv 1) (@pe_op _ _ _ _ _ _ _ _ op_mod (@pe_op _ _ _ _ _ _ _ _ op_divW (pv 0) pe_int) pe_int) (fun _ _ => rfl)))) pss_nil) (@pss_one _ _ _ (@ps_ret _ _ _ _ (@pe_bm _ _ _ _ _ _ _ _ _ _ _ _ PySem.F.plainAttrs_str PySem.F.slot_str_join PySem.F.type_str_join mt_join pe_str (@pa_cons _ _ _ _ _ (@pe_comp _ _ (["_law_draw"]) ([2]) _ _ _ _ _ _ _ _ _ rfl (COk.of (out := defScope s__law_name) (N := ["_law_cell", "_law_words", "_law_letters"]) rfl rfl (by decide +kernel)) (@pi_list _ _ _ _ (@pe_fn _ _ _ _ _ _ _ _ _ _ _ g__law_stream hr (by decide) rfl (@pa_cons _ _ _ _ _ (pv 0) (@pa_cons _ _ _ _ _ (@pe_op _ _ _ _ _ _ _ _ op_add pe_int (@pe_op _ _ _ _ _ _ _ _ op_mod (@pe_op _ _ _ _ _ _ _ _ op_divW (pv 0) pe_int) pe_int)) pa_nil (by rfl)) (by rfl)) (by decide) (by rfl) (by rfl))) (fun _ _ _ => (@pg_name _ _ (0) _ (show List.Nodup (["_law_draw", "_law_letters"] : List Str) by decide +kernel) rfl (Or.inl rfl) (by first | exact .inl rfl | exact .inr rfl | assumption))) (fun _ _ _ => pifs_nil) (fun _ _ _ => (@pe_ix _ _ _ _ _ _ _ ix_str (pv 1) (@pe_op _ _ _ _ _ _ _ _ op_mod (pv 0) pe_int) (fun _ _ => rfl))) (by intro _; rfl)) pa_nil (by rfl)) (by rfl) (by rfl) (by rfl) (by rfl) (by rfl))))))), ?_⟩
  rw [st__law_name]
  have c0 := Int.emod_nonneg (c / 5) (show (12 : Int) ≠ 0 by decide)
  have c1 := Int.emod_lt_of_pos (c / 5) (show (0 : Int) < 12 by decide)
  obtain ⟨k, ek⟩ := Int.eq_ofNat_of_zero_le c0
  walk_at "sv"
  refine LstR.go (by simp) fun lw nw => ?_
  have s1 := same_new nw (.lst (wordsS.map V.str))
  have hw : upd H lw (.lst (wordsS.map V.str)) lw = some (.lst (wordsS.map V.str)) := upd_same
  refine ⟨by decide, ?_⟩
  refine BrS.dec (fun z => ?_) (fun z => ?_)
  · walk_at "sv"
    refine ⟨⟨by decide, by decide⟩, by decide, ?_⟩
    rw [ek]
    obtain ⟨y, ey, yl, yo⟩ := words_at (show k < 12 by omega)
    refine ixL_go (SqL.of hw) ey ?_
    exact q y _ s1 yl yo
  · walk_at "sv"
    refine ⟨⟨by decide, by decide⟩, by decide, ?_⟩
    rw [ek, show (1 : Int) + (k : Int) = ((k + 1 : Nat) : Int) by omega]
    refine ⟨c, k + 1, rfl, by omega, fun ld ds H2 nd s2 hd dl al => ?_⟩
    refine IlR.go (SqL.of hd) ?_
    refine CmpR.mapS letV itl (by rw [List.length_map]; omega) (fun H' sm => sm.seq (SqL.of hd)) (fun x H' Q' hx sm q' => ?_) (fun D H3 hD s3 hl3 => ?_)
    · obtain ⟨d, _, rfl⟩ := List.mem_map.mp hx
      walk_at "sv"
      refine ⟨by decide, ?_⟩
      exact ⟨abc, _, _, rfl, rfl, by decide, let_at d, q' _ (Same.refl _)⟩
    have ew : (ds.map V.int).map letV = (ds.map letS).map V.str := by
      rw [List.map_map, List.map_map]
      rfl
    rw [ew] at hl3
    have js := join_small (ds.map letS) fun x hx => by
      obtain ⟨d, _, rfl⟩ := List.mem_map.mp hx
      exact let_ok d
    walk_at "sv"
    refine join_go (SqL.of hl3) (joinOk_small (by rw [js.2.2, List.length_map, show ("" : Str).length = 0 from rfl]; omega)) ?_
    exact q _ _ ((s1.trans s2).trans s3) (by rw [js.1, List.length_map]; omega) js.2.1
--CUT--
theorem Strs.set {H : Hp} {vs : List V} {bs : List (Int × Int)} {a : Addr} {b : Int × Int} (h : Strs H vs bs) (e : H a = some (.tup [.int b.1, .int b.2])) : ∀ i, Strs H (vs.set i (.ref a)) (bs.set i b) := by
  induction h with
  | nil => exact fun _ => .nil
  | cons q _ ih =>
    intro i
    cases i with
    | zero =>
      rename_i r
      exact .cons e r
    | succ i => exact .cons q (ih i)
def Fit (bs : List (Int × Int)) : Prop := ∀ (i : Nat) (b : Int × Int) (t : Int), bs[i]? = some b → topsI[i]? = some t → 0 ≤ b.1 ∧ b.1 ≤ b.2 ∧ b.2 ≤ t
theorem Fit.add {bs : List (Int × Int)} {lo hi t : Int} (h : Fit bs) (ht : topsI[bs.length]? = some t) (h0 : 0 ≤ lo) (h1 : lo ≤ hi) (h2 : hi ≤ t) : Fit (bs ++ [(lo, hi)]) := fun i b u e et => by
  rw [List.getElem?_append] at e
  split at e
  · exact h i b u e et
  · rename_i ge
    have : i = bs.length := by
      have := (List.getElem?_eq_some_iff.mp e).1
      rw [List.length_singleton] at this
      omega
    subst this
    rw [Nat.sub_self] at e
    cases e
    rw [ht] at et
    cases et
    exact ⟨h0, h1, h2⟩
def spBox : Sp := fun vs H Q _ => ∃ c m : Int, vs = [.int c, .int m] ∧ ∀ p bs H', Same H H' → IsBox H' p bs → bs.length = 6 → Fit bs → Q (.ref p) H'
theorem ok_box (F : Fun K "_law_box" "_law_box" s__law_box f fd) (g__law_stream : Fn P w K mg base "_law_stream" 1 ["_law_cell", "_law_many"] spStream) (g__law_stretch : Fn P w K mg base "_law_stretch" 1 ["_law_top", "_law_way", "_law_a", "_law_b"] spStretch) (b_range : mg "range" = none) (b_tuple : mg "tuple" = none) : FnOk P w K mg base CX0 2 f fd ["_law_cell", "_law_more"] spBox := by
  refine F.ok sc__law_box (fun vs H Q E h => ?_) (fun cdv A outer s H vs Q E hr h => ?_)
  · obtain ⟨_, _, rfl, _⟩ := h
    rfl
  obtain ⟨c, m, rfl, q⟩ := h
  refine ⟨_, (@pss_cons _ _ _ _ _ (@ps_set _ _ (2) _ _ _ _ sc__law_box.nd rfl (Or.inl rfl) (@pe_fn _ _ _ _ _ _ _ _ _ _ _ g__law_stream hr (by decide) rfl (@pa_cons _ _ _ _ _ (pv 0) (@pa_cons _ _ _ _ _ pe_int pa_nil (by rfl)) (by rfl)) (by decide) (by rfl) (by rfl)) (by rfl) (by first | exact .inl rfl | exact .inr rfl | assumption)) (@pss_cons _ _ _ _ _ (@ps_set _ _ (3) _ _ _ _ sc__law_box.nd rfl (Or.inl rfl) (@pe_lst _ _ _ _ (@pa_consts _ _ _ rfl)) (by rfl) (by first | exact .inl rfl | exact .inr rfl | assumption)) (@pss_cons _ _ _ _ _ (@ps_set _ _ (4) _ _ _ _ sc__law_box.nd rfl (Or.inl rfl) (@pe_lst _ _ _ _ pa_nil) (by rfl) (by first | exact .inl rfl | exact .inr rfl | assumption)) (@pss_cons _ _ _ _ _ (@ps_for _ _ _ _ _ _ _ _ PassesOwn.never rfl (@pi_range1 _ _ _ _ _ _ rfl b_range (@pa_cons _ _ _ _ _ pe_int pa_nil (by rfl)) (by rfl)) (@pg_name _ _ (5) _ sc__law_box.nd rfl (Or.inl rfl) (by first | exact .inl rfl | exact .inr rfl | assumption)) (@pss_one _ _ _ (@ps_expr _ _ _ _ (@pe_bm _ _ _ _ _ _ _ _ _ _ _ _ PySem.F.plainAttrs_list PySem.F.slot_list_append PySem.F.type_list_append mt_append (pv 4) (@pa_cons _ _ _ _ _ (@pe_fn _ _ _ _ _ _ _ _ _ _ _ g__law_stretch hr (by decide) rfl (@pa_cons _ _ _ _ _ (@pe_ix _ _ _ _ _ _ _ ix_list (pv 3) (pv 5) (fun _ _ => rfl)) (@pa_cons _ _ _ _ _ (@pe_op _ _ _ _ _ _ _ _ op_mod (@pe_ix _ _ _ _ _ _ _ ix_list (pv 2) (@pe_op _ _ _ _ _ _ _ _ op_mul pe_int (pv 5)) (fun _ _ => rfl)) pe_int) (@pa_cons _ _ _ _ _ (@pe_ix _ _ _ _ _ _ _ ix_list (pv 2) (@pe_op _ _ _ _ _ _ _ _ op_add (@pe_op _ _ _ _ _ _ _ _ op_mul pe_int (pv 5)) pe_int) (fun _ _ => rfl)) (@pa_cons _ _ _ _ _ (@pe_ix _ _ _ _ _ _ _ ix_list (pv 2) (@pe_op _ _ _ _ _ _ _ _ op_add (@pe_op _ _ _ _ _ _ _ _ op_mul pe_int (pv 5)) pe_int) (fun _ _ => rfl)) pa_nil (by rfl)) (by rfl)) (by rfl)) (by rfl)) (by decide) (by rfl) (by rfl)) pa_nil (by rfl)) (by rfl) (by rfl) (by rfl) (by rfl) (by rfl)) (by rfl))) (by intro _; rfl)) (@pss_cons _ _ _ _ _ (@ps_if _ _ _ _ _ _ _ _ (@pt_cmpR _ _ _ _ _ _ _ _ op_eq (@pe_op _ _ _ _ _ _ _ _ op_mod (pv 1) pe_int) pe_int (nomark _)) (@pss_one _ _ _ (@ps_asg _ _ _ _ _ _ (@pe_ix _ _ _ _ _ _ _ ix_list (pv 4) pe_int (fun _ _ => rfl)) (@pg_sub _ _ _ _ _ _ _ (pv 4) pe_int set_list (by intro _; rfl)) (by rfl) (by rfl) (by rfl))) pss_nil) (@pss_one _ _ _ (@ps_ret _ _ _ _ (@pe_callTy _ _ _ _ _ _ _ _ _ call_tupleR rfl b_tuple bo_tuple (@pa_cons _ _ _ _ _ (pv 4) pa_nil (by rfl)) (by decide) (by decide) (by rfl) (by rfl))))))))), ?_⟩
  rw [st__law_box]
  walk_at "sv"
  refine ⟨c, 18, rfl, by decide, fun ld ds H1 nd s1 hd dl al => ?_⟩
  walk_at "sv"
  refine LstR.go (by simp) fun lt nt => ?_
  have s2 := same_new nt (.lst [.int 3, .int 255, .int 4294967295, .int 65535, .int 4294967295, .int 65535])
  have ht0 : upd H1 lt (.lst [.int 3, .int 255, .int 4294967295, .int 65535, .int 4294967295, .int 65535]) lt = some (.lst (topsI.map V.int)) := upd_same
  have hd2 := s2 _ _ hd
  have s12 := s1.trans s2
  generalize upd H1 lt (.lst [.int 3, .int 255, .int 4294967295, .int 65535, .int 4294967295, .int 65535]) = H2 at *
  refine LstR.go (by simp) fun l hl => ?_
  have s3 := same_new hl (.lst [])
  refine RngR.go (by decide) (by decide) ?_
  refine ForR.range (n := 6) (fun i σ H' => Same H2 H' ∧ ∃ (xs : List V) (bs : List (Int × Int)) (y : Option V), H' l = some (.lst xs) ∧ Strs H' xs bs ∧ bs.length = i ∧ Fit bs ∧ σ = [some (.int c), some (.int m), some (.ref ld), some (.ref lt), some (.ref l), y]) ⟨s3, [], [], none, upd_same, .nil, rfl, (fun i b t e => by simp at e), rfl⟩ (fun i σ H3 hi pv => ?_) (fun σ H3 pv => ?_)
  · obtain ⟨sm, xs, bs, y, hl1, hb, bl, low, rfl⟩ := pv
    obtain ⟨top, etp, et, t0, t1⟩ := tops_at hi
    obtain ⟨d1, _, e1⟩ := ints_at (show 3 * i < ds.length by omega)
    obtain ⟨d2, _, e2⟩ := ints_at (show 3 * i + 1 < ds.length by omega)
    obtain ⟨d3, _, e3⟩ := ints_at (show 3 * i + 2 < ds.length by omega)
    have hd3 := sm _ _ hd2
    walk_at "ix"
    refine ⟨ty_lst hl1, ?_⟩
    refine ixL_go (SqL.of (sm _ _ ht0)) et ?_
    refine ⟨.inl ⟨by decide, by decide⟩, ?_⟩
    rw [show (3 : Int) * (i : Int) = ((3 * i : Nat) : Int) by omega]
    refine ixL_go (SqL.of hd3) e1 ?_
    walk_at "ix"
    refine ⟨by decide, .inl ⟨by decide, by decide⟩, ?_⟩
    rw [show ((3 * i : Nat) : Int) + 1 = ((3 * i + 1 : Nat) : Int) from rfl]
    refine ixL_go (SqL.of hd3) e2 ?_
    walk_at "ix"
    refine ⟨.inl ⟨by decide, by decide⟩, ?_⟩
    rw [show ((3 * i : Nat) : Int) + 2 = ((3 * i + 2 : Nat) : Int) from rfl]
    refine ixL_go (SqL.of hd3) e3 ?_
    refine ⟨top, d1 % 9, d2, d3, rfl, t0, t1, fun t lo hi H4 nt s4 ht l0 l1 l2 => ?_⟩
    have hl4 := s4 _ _ hl1
    refine app_go hl4 (by rw [hb.len]; omega) ?_
    refine ⟨(sm.trans s4).put hl, _, bs ++ [(lo, hi)], _, upd_same, ((hb.same s4).snoc ht).upd hl4, by rw [List.length_append, bl]; rfl, low.add (by rw [bl]; exact etp) l0 l1 l2, rfl⟩
  · obtain ⟨sm, xs, bs, y, hl1, hb, bl, low, rfl⟩ := pv
    walk_at "sv"
    refine ⟨by decide, ?_⟩
    refine BrS.dec (fun c1 => ?_) (fun c1 => ?_)
    · walk_at "sv"
      obtain ⟨b2, e2⟩ : ∃ b, bs[2]? = some b := ⟨bs[2]'(by omega), List.getElem?_eq_getElem _⟩
      obtain ⟨a2, ea, ha⟩ := hb.ix e2
      refine ixL_go (i := 2) (SqL.of hl1) ea ?_
      refine setL_go (i := 4) hl1 (by rw [hb.len]; omega) ?_
      refine TupOf.lst (SqL.of upd_same) fun t ht => ?_
      have hs := (Strs.set hb ha 4).upd (o := .lst (xs.set 4 (.ref a2))) hl1
      have s4 := same_new ht (.tup (xs.set 4 (.ref a2)))
      refine q t (bs.set 4 b2) _ ((s12.trans (sm.put hl)).trans s4) ⟨_, upd_same, hs.same s4⟩ (by rw [List.length_set]; exact bl) fun i b u e et => ?_
      rw [List.getElem?_set] at e
      split at e
      · rename_i z
        split at e
        · cases e
          subst z
          exact low 2 b2 u e2 et
        · cases e
      · exact low i b u e et
    · walk_at "sv"
      refine TupOf.lst (SqL.of hl1) fun t ht => ?_
      have s4 := same_new ht (.tup xs)
      exact q t bs _ ((s12.trans sm).trans s4) ⟨xs, upd_same, hb.same s4⟩ bl low
--CUT--
def spAddr : Sp := fun vs H Q _ => ∃ n : Int, vs = [.int n] ∧ ∀ H', Same H H' → Q (.str (dotP n)) H'
def szs : List Int := [16777216, 65536, 256, 1]
theorem ok_addr (F : Fun K "_law_address" "_law_address" s__law_address f fd) (b_str : mg "str" = none) : FnOk P w K mg base CX0 1 f fd ["_law_number"] spAddr := by
  refine F.ok sc__law_address (fun vs H Q E h => ?_) (fun cdv A outer s H vs Q E hr h => ?_)
  · obtain ⟨_, rfl, _⟩ := h
    rfl
  obtain ⟨n, rfl, q⟩ := h
  refine ⟨_, (@pss_cons _ _ _ _ _ (@ps_set _ _ (1) _ _ _ _ sc__law_address.nd rfl (Or.inl rfl) (@pe_lst _ _ _ _ pa_nil) (by rfl) (by first | exact .inl rfl | exact .inr rfl | assumption)) (@pss_cons _ _ _ _ _ (@ps_for _ _ _ _ _ _ _ _ PassesOwn.never rfl (@pi_list _ _ _ _ (@pe_lst _ _ _ _ (@pa_cons _ _ _ _ _ pe_int (@pa_cons _ _ _ _ _ pe_int (@pa_cons _ _ _ _ _ pe_int (@pa_cons _ _ _ _ _ pe_int pa_nil (by rfl)) (by rfl)) (by rfl)) (by rfl)))) (@pg_name _ _ (2) _ sc__law_address.nd rfl (Or.inl rfl) (by first | exact .inl rfl | exact .inr rfl | assumption)) (@pss_one _ _ _ (@ps_expr _ _ _ _ (@pe_bm _ _ _ _ _ _ _ _ _ _ _ _ PySem.F.plainAttrs_list PySem.F.slot_list_append PySem.F.type_list_append mt_append (pv 1) (@pa_cons _ _ _ _ _ (@pe_callTy _ _ _ _ _ _ _ _ _ call_strI rfl b_str bo_str (@pa_cons _ _ _ _ _ (@pe_op _ _ _ _ _ _ _ _ op_mod (@pe_op _ _ _ _ _ _ _ _ op_divW (pv 0) (pv 2)) pe_int) pa_nil (by rfl)) (by decide) (by decide) (by rfl) (by rfl)) pa_nil (by rfl)) (by rfl) (by rfl) (by rfl) (by rfl) (by rfl)) (by rfl))) (by intro _; rfl)) (@pss_one _ _ _ (@ps_ret _ _ _ _ (@pe_bm _ _ _ _ _ _ _ _ _ _ _ _ PySem.F.plainAttrs_str PySem.F.slot_str_join PySem.F.type_str_join mt_join pe_str (@pa_cons _ _ _ _ _ (pv 1) pa_nil (by rfl)) (by rfl) (by rfl) (by rfl) (by rfl) (by rfl)))))), ?_⟩
  rw [st__law_address]
  walk_at "sv"
  refine LstR.go (by simp) fun l nl => ?_
  have s1 := same_new nl (.lst [])
  refine LstR.go (by simp) fun m nm => ?_
  have s2 := same_new nm (.lst (szs.map V.int))
  have hm : upd (upd H l (.lst [])) m (.lst (szs.map V.int)) m = some (.lst (szs.map V.int)) := upd_same
  have hl0 := s2 _ _ (upd_same (H := H) (a := l) (o := .lst []))
  have nml : m ≠ l := fun z => by
    rw [z, upd_same] at nm
    cases nm
  refine IlR.go (SqL.of hm) ?_
  refine ForR.items itl (fun i σ H' => H' m = some (.lst (szs.map V.int)) ∧ H' l = some (.lst (((szs.take i).map fun z => num (n / z % 256)).map V.str)) ∧ Same H H' ∧ ∃ y, σ = [some (.int n), some (.ref l), y]) ⟨hm, hl0, s1.trans s2, none, rfl⟩ (fun i σ H' pv => SqL.of pv.1) (fun i x σ H' hx pv => ?_) (fun σ H' pv => ?_)
  · obtain ⟨hm', hl', sm, y, rfl⟩ := pv
    rw [List.getElem?_map] at hx
    cases e : szs[i]? with
    | none => rw [e] at hx; cases hx
    | some z =>
      rw [e] at hx
      obtain rfl : x = .int z := (Option.some.inj hx).symm
      have zp : 0 < z ∧ z < 18446744073709551616 := by
        have : ∀ z ∈ szs, 0 < z ∧ z < 18446744073709551616 := by decide
        exact this z (List.mem_of_getElem? e)
      walk_at "sv"
      refine ⟨ty_lst hl', zp, by decide, ?_⟩
      have p1 : 0 ≤ n / z % 256 := Int.emod_nonneg _ (by decide)
      have p2 : n / z % 256 < 256 := Int.emod_lt_of_pos _ (by decide)
      refine strI_go (log_small p1 (by omega)) ?_
      have l4 : szs.length = 4 := rfl
      refine app_go hl' (by simp only [List.length_map, List.length_take]; omega) ?_
      refine ⟨(upd_ne nml).trans hm', ?_, sm.put nl, _, rfl⟩
      rw [upd_same, List.take_add_one, e, List.map_append, List.map_append]
      rfl
  · obtain ⟨hm', hl', sm, y, rfl⟩ := pv
    walk_at "sv"
    rw [lit_dot]
    refine join_go (ws := [num (n / 16777216 % 256), num (n / 65536 % 256), num (n / 256 % 256), num (n / 1 % 256)]) (SqL.of hl') (joinOk_small ?_) (q _ sm)
    have pl : ∀ k : Int, (num (k % 256)).length ≤ 10 := fun k => num_len (Int.emod_nonneg _ (by decide)) (Int.emod_lt_of_pos _ (by decide))
    have p1 := pl (n / 16777216)
    have p2 := pl (n / 65536)
    have p3 := pl (n / 256)
    have p4 := pl (n / 1)
    have c : (⟨#[46]⟩ : Str).length = 1 := rfl
    simp only [List.map_cons, List.map_nil, List.sum_cons, List.sum_nil, List.length_cons, List.length_nil, c]
    omega
theorem sz_32 : SvM.sz 32 = 1 := rfl
theorem adr_one {lo : Int} (h0 : 0 ≤ lo) (h1 : lo ≤ 4294967295) : adrT lo lo = dotP lo := by
  have d : Due lo lo 32 := .inr ⟨by decide, by decide, by rw [sz_32]; omega, by rw [sz_32]; omega⟩
  rcases due_found d h0 h0 (by omega) (by omega) with ⟨z, _⟩ | ⟨_, e⟩
  · cases z
  · unfold adrT
    rw [e]
    show (if (32 : Int) = 32 then endsT dotP lo lo else _) = _
    rw [if_pos rfl]
    exact if_pos rfl
theorem adr_bits {lo hi b : Int} (h0 : 0 ≤ lo) (h1 : lo ≤ 4294967295) (k0 : 0 ≤ hi) (k1 : hi ≤ 4294967295) (b0 : 0 ≤ b) (b1 : b < 32) (e1 : hi = lo + SvM.sz b - 1) (e2 : lo % SvM.sz b = 0) : adrT lo hi = dotP lo ++ ⟨#[47]⟩ ++ num b := by
  have d : Due lo hi b := .inr ⟨b0, by omega, by omega, e2⟩
  rcases due_found d h0 k0 (by omega) (by omega) with ⟨z, _⟩ | ⟨_, e⟩
  · omega
  · unfold adrT
    rw [e]
    show (if b = 32 then endsT dotP lo hi else _) = _
    rw [if_neg (by omega)]
theorem adr_none {lo hi : Int} (h0 : 0 ≤ lo) (h1 : lo ≤ 4294967295) (k0 : 0 ≤ hi) (k1 : hi ≤ 4294967295) (ne : lo ≠ hi) (no : ∀ b : Int, 0 ≤ b → b < 32 → ¬ (lo % SvM.sz b = 0 ∧ hi = lo + SvM.sz b - 1)) : adrT lo hi = dotP lo ++ ⟨#[45]⟩ ++ dotP hi := by
  have d : Due lo hi (-1) := .inl ⟨rfl, fun k a b ⟨e1, e2⟩ => by
    by_cases z : k = 32
    · rw [z, sz_32] at e1
      omega
    · exact no k a (by omega) ⟨e2, by omega⟩⟩
  rcases due_found d h0 k0 (by omega) (by omega) with ⟨_, e⟩ | ⟨z, _⟩
  · unfold adrT
    rw [e]
    exact if_neg ne
  · omega
def spWord14 : Sp := fun vs H Q _ => ∃ (key : Str) (lo hi : Int), vs = [.str key, .int lo, .int hi] ∧ (0 ≤ lo ∧ lo ≤ 4294967295) ∧ (0 ≤ hi ∧ hi ≤ 4294967295) ∧ ∀ H', Same H H' → Q (.str (if key = "from" ∨ key = "to" then adrT lo hi else endsT num lo hi)) H'
theorem ok_word14 (F : Fun K "_law_word" "_law_word" s__law_word f fd) (g__law_address : Fn P w K mg base "_law_address" 1 ["_law_number"] spAddr) (b_str : mg "str" = none) (b_range : mg "range" = none) : FnOk P w K mg base CX0 2 f fd ["_law_key", "_law_low", "_law_high"] spWord14 := by
  refine F.ok sc__law_word (fun vs H Q E h => ?_) (fun cdv A outer s H vs Q E hr h => ?_)
  · obtain ⟨_, _, _, rfl, _⟩ := h
    rfl
  obtain ⟨key, lo, hi, rfl, h1, h2, q⟩ := h
  have l1 := num_l h1.1 (by omega)
  have l2 := num_l h2.1 (by omega)
  have d1 := dotP_l lo
  have d2 := dotP_l hi
  have lm : (⟨#[45]⟩ : Str).length = 1 := rfl
  have ls : (⟨#[47]⟩ : Str).length = 1 := rfl
  refine ⟨_, (@pss_cons _ _ _ _ _ (@ps_if _ _ _ _ _ _ _ _ (@PW.pt _ _ _ (@pw_and _ _ _ _ _ _ _ (@pt_cmpR _ _ _ _ _ _ _ _ op_ne (pv 0) pe_str (nomark _)) (@pw_and1 _ _ _ _ (@pt_cmpR _ _ _ _ _ _ _ _ op_ne (pv 0) pe_str (nomark _))))) (@pss_cons _ _ _ _ _ (@ps_if _ _ _ _ _ _ _ _ (@pt_cmpR _ _ _ _ _ _ _ _ op_eq (pv 1) (pv 2) (nomark _)) (@pss_one _ _ _ (@ps_ret _ _ _ _ (@pe_callTy _ _ _ _ _ _ _ _ _ call_strI rfl b_str bo_str (@pa_cons _ _ _ _ _ (pv 1) pa_nil (by rfl)) (by decide) (by decide) (by rfl) (by rfl)))) pss_nil) (@pss_one _ _ _ (@ps_ret _ _ _ _ (@pe_op _ _ _ _ _ _ _ _ op_addS (@pe_op _ _ _ _ _ _ _ _ op_addS (@pe_callTy _ _ _ _ _ _ _ _ _ call_strI rfl b_str bo_str (@pa_cons _ _ _ _ _ (pv 1) pa_nil (by rfl)) (by decide) (by decide) (by rfl) (by rfl)) pe_str) (@pe_callTy _ _ _ _ _ _ _ _ _ call_strI rfl b_str bo_str (@pa_cons _ _ _ _ _ (pv 2) pa_nil (by rfl)) (by decide) (by decide) (by rfl) (by rfl)))))) pss_nil) (@pss_cons _ _ _ _ _ (@ps_if _ _ _ _ _ _ _ _ (@pt_cmpR _ _ _ _ _ _ _ _ op_eq (pv 1) (pv 2) (nomark _)) (@pss_one _ _ _ (@ps_ret _ _ _ _ (@pe_fn _ _ _ _ _ _ _ _ _ _ _ g__law_address hr (by decide) rfl (@pa_cons _ _ _ _ _ (pv 1) pa_nil (by rfl)) (by decide) (by rfl) (by rfl)))) pss_nil) (@pss_cons _ _ _ _ _ (@ps_for _ _ _ _ _ _ _ _ PassesOwn.never rfl (@pi_range1 _ _ _ _ _ _ rfl b_range (@pa_cons _ _ _ _ _ pe_int pa_nil (by rfl)) (by rfl)) (@pg_name _ _ (3) _ sc__law_word.nd rfl (Or.inl rfl) (by first | exact .inl rfl | exact .inr rfl | assumption)) (@pss_cons _ _ _ _ _ (@ps_set _ _ (4) _ _ _ _ sc__law_word.nd rfl (Or.inl rfl) (@pe_op _ _ _ _ _ _ _ _ op_shl pe_int (@pe_op _ _ _ _ _ _ _ _ op_sub pe_int (pv 3))) (by rfl) (by first | exact .inl rfl | exact .inr rfl | assumption)) (@pss_one _ _ _ (@ps_if _ _ _ _ _ _ _ _ (@PW.pt _ _ _ (@pw_and _ _ _ _ _ _ _ (@pt_cmpR _ _ _ _ _ _ _ _ op_eq (@pe_op _ _ _ _ _ _ _ _ op_mod (pv 1) (pv 4)) pe_int (nomark _)) (@pw_and1 _ _ _ _ (@pt_cmpR _ _ _ _ _ _ _ _ op_eq (pv 2) (@pe_op _ _ _ _ _ _ _ _ op_sub (@pe_op _ _ _ _ _ _ _ _ op_add (pv 1) (pv 4)) pe_int) (nomark _))))) (@pss_one _ _ _ (@ps_ret _ _ _ _ (@pe_op _ _ _ _ _ _ _ _ op_addS (@pe_op _ _ _ _ _ _ _ _ op_addS (@pe_fn _ _ _ _ _ _ _ _ _ _ _ g__law_address hr (by decide) rfl (@pa_cons _ _ _ _ _ (pv 1) pa_nil (by rfl)) (by decide) (by rfl) (by rfl)) pe_str) (@pe_callTy _ _ _ _ _ _ _ _ _ call_strI rfl b_str bo_str (@pa_cons _ _ _ _ _ (pv 3) pa_nil (by rfl)) (by decide) (by decide) (by rfl) (by rfl))))) pss_nil))) (by intro _; rfl)) (@pss_one _ _ _ (@ps_ret _ _ _ _ (@pe_op _ _ _ _ _ _ _ _ op_addS (@pe_op _ _ _ _ _ _ _ _ op_addS (@pe_fn _ _ _ _ _ _ _ _ _ _ _ g__law_address hr (by decide) rfl (@pa_cons _ _ _ _ _ (pv 1) pa_nil (by rfl)) (by decide) (by rfl) (by rfl)) pe_str) (@pe_fn _ _ _ _ _ _ _ _ _ _ _ g__law_address hr (by decide) rfl (@pa_cons _ _ _ _ _ (pv 2) pa_nil (by rfl)) (by decide) (by rfl) (by rfl)))))))), ?_⟩
  rw [st__law_word]
  have adr : (key = "from" ∨ key = "to") → ∀ H' x, Same H H' → adrT lo hi = x → Q (.str x) H' := fun c H' x s e => by
    have := q H' s
    rw [if_pos c, e] at this
    exact this
  have nums : ¬ (key = "from" ∨ key = "to") → ∀ x, endsT num lo hi = x → Q (.str x) H := fun c x e => by
    have := q H (Same.refl _)
    rw [if_neg c, e] at this
    exact this
  walk_at "sv"
  by_cases ck : key = "from" ∨ key = "to"
  · have t1 : (!decide (key = "from")) = true → (!decide (key = "to")) = false := fun e => by
      rcases ck with rfl | rfl
      · simp at e
      · simp
    have go : ∀ (u : L2.St → Hp → Prop) (v : L2.St → Hp → Prop) (σ : L2.St), v σ H → BrA (!decide (key = "from")) (tTest (tOp rNe (tVar 0) (tC (V.str "to")))) [some (V.str key), some (V.int lo), some (V.int hi), none, none] H fun b H1 => BrS b u v σ H1 := fun u v σ hv => by
      cases e : !decide (key = "from") with
      | false =>
        walk_at "sv"
        exact hv
      | true =>
        walk_at "sv"
        rw [t1 e]
        walk_at "sv"
        exact hv
    refine go _ _ _ ?_
    walk_at "sv"
    refine BrS.dec (fun c => ?_) (fun c => ?_)
    · walk_at "sv"
      refine ⟨lo, rfl, fun H1 s1 => adr ck H1 _ s1 ?_⟩
      rw [← c]
      exact adr_one h1.1 h1.2
    · walk_at "sv"
      refine RngR.go (by decide) (by decide) ?_
      refine ForR.range (n := 32) (fun i σ H' => H' = H ∧ (∀ b : Nat, b < i → ¬ (lo % SvM.sz b = 0 ∧ hi = lo + SvM.sz b - 1)) ∧ ∃ y z, σ = [some (.str key), some (.int lo), some (.int hi), y, z]) ⟨rfl, (fun b hb => absurd hb (Nat.not_lt_zero _)), none, none, rfl⟩ (fun i σ H' hi' pv => ?_) (fun σ H' pv => ?_)
      · obtain ⟨rfl, no, y, z, rfl⟩ := pv
        walk_at "sv"
        rw [Int.zero_add]
        have es : (1 : Int) * 2 ^ (32 - (i : Int)).toNat = SvM.sz i := Int.one_mul _
        have sp0 := SvM.sz_pos i
        refine ⟨⟨by omega, by omega, by decide⟩, by rw [es]; exact sp0, ?_⟩
        rw [es]
        have nxt : ¬ (lo % SvM.sz i = 0 ∧ hi = lo + SvM.sz i - 1) → ∀ b : Nat, b < i + 1 → ¬ (lo % SvM.sz b = 0 ∧ hi = lo + SvM.sz b - 1) := fun h b hb => by
          by_cases z : b = i
          · rw [z]
            exact h
          · exact no b (by omega)
        refine BrA.dec (fun c3 => ?_) (fun c3 => ?_)
        · walk_at "sv"
          refine BrS.dec (fun c4 => ?_) (fun c4 => ?_)
          · walk_at "sv"
            refine ⟨lo, rfl, fun H1 s1 => ?_⟩
            rw [lit_slash]
            refine addS_go (by rw [ls]; omega) ?_
            walk_at "sv"
            have lb := num_l (n := (i : Int)) (by omega) (by omega)
            refine strI_go (log_small (by omega) (by omega)) ?_
            refine addS_go (by rw [Str.length_append, ls]; omega) ?_
            exact adr ck H1 _ s1 (adr_bits h1.1 h1.2 h2.1 h2.2 (by omega) (by omega) c4 c3)
          · walk_at "sv"
            exact ⟨nxt (fun h => c4 h.2), _, _, rfl⟩
        · walk_at "sv"
          exact ⟨nxt (fun h => c3 h.1), _, _, rfl⟩
      · obtain ⟨rfl, no, y, z, rfl⟩ := pv
        walk_at "sv"
        refine ⟨lo, rfl, fun H1 s1 => ?_⟩
        rw [lit_minus]
        refine addS_go (by rw [lm]; omega) ?_
        walk_at "sv"
        refine ⟨hi, rfl, fun H2 s2 => ?_⟩
        refine addS_go (by rw [Str.length_append, lm]; omega) ?_
        refine adr ck H2 _ (s1.trans s2) (adr_none h1.1 h1.2 h2.1 h2.2 c fun b b0 b1 => ?_)
        obtain ⟨k, rfl⟩ := Int.eq_ofNat_of_zero_le b0
        exact no k (by omega)
  · have n1 : key ≠ "from" := fun e => ck (.inl e)
    have n2 : key ≠ "to" := fun e => ck (.inr e)
    rw [decide_eq_false n1]
    walk_at "sv"
    rw [decide_eq_false n2]
    walk_at "sv"
    refine BrS.dec (fun c => ?_) (fun c => ?_)
    · walk_at "sv"
      exact strI_go (log_small h1.1 (by omega)) (nums ck _ (if_pos c))
    · walk_at "sv"
      refine strI_go (log_small h1.1 (by omega)) ?_
      rw [lit_minus]
      refine addS_go (by rw [lm]; omega) ?_
      walk_at "sv"
      refine strI_go (log_small h2.1 (by omega)) ?_
      refine addS_go (by rw [Str.length_append, lm]; omega) ?_
      exact nums ck _ (if_neg c)
--CUT--
section
variable {C_Rule C_Word C_Back C_Call : Addr}
def hw : Rl → List Str
  | .word w => [w]
  | .back => ["back"]
  | .call n => ["call", n]
theorem hw_join (r : Rl) (ws : List Str) : Str.join sp (hw r ++ ws) = Str.join sp (r.head :: ws) := by
  cases r with
  | word w => rfl
  | back => rfl
  | call n =>
    have e : ("call " : Str) = "call" ++ sp := by decide +kernel
    cases ws with
    | nil =>
      show ("call" : Str) ++ sp ++ n = "call " ++ n
      rw [e]
    | cons c r =>
      show ("call" : Str) ++ sp ++ (n ++ sp ++ Str.join sp (c :: r)) = ("call " ++ n) ++ sp ++ Str.join sp (c :: r)
      rw [e]
      apply str_ext
      simp only [app_list, List.append_assoc]
theorem key_iff {i : Nat} {key : Str} (h : pairWs[i]? = some key) : (key = "from" ∨ key = "to") ↔ (i = 2 ∨ i = 4) := by
  have li : i < 6 := (List.getElem?_eq_some_iff.mp h).1
  have ii : i = 0 ∨ i = 1 ∨ i = 2 ∨ i = 3 ∨ i = 4 ∨ i = 5 := by omega
  rcases ii with rfl | rfl | rfl | rfl | rfl | rfl <;> cases h <;> decide +kernel
theorem hw_len (r : Rl) : (hw r).length ≤ 2 := by cases r <;> simp [hw]
theorem hw_l {r : Rl} (h : r.ok) : ∀ x ∈ hw r, x.length ≤ 1100 := fun x hx => by
  cases r with
  | word w =>
    rw [List.mem_singleton.mp hx]
    have := h.2.2.1
    omega
  | back =>
    rw [List.mem_singleton.mp hx]
    decide
  | call n =>
    have := h.1
    simp only [hw, List.mem_cons, List.not_mem_nil, or_false] at hx
    rcases hx with rfl | rfl
    · decide
    · omega
theorem Fit.inB {bs : List (Int × Int)} (h : Fit bs) (l : bs.length = 6) : InB bs := ⟨l, fun b hb => by
  obtain ⟨i, e⟩ := List.getElem?_of_mem hb
  have li : i < 6 := by
    rw [← l]
    exact (List.getElem?_eq_some_iff.mp e).1
  obtain ⟨t, et, _, t0, t1⟩ := tops_at li
  have tm : t ≤ 4294967295 := by
    have : ∀ x ∈ topsI, x ≤ 4294967295 := by decide
    exact this t (List.mem_of_getElem? et)
  obtain ⟨a, b, c⟩ := h i b t e et
  omega⟩
def spDue14 : Sp := fun vs H Q _ => ∃ (t p : Addr) (r : Rl) (bs : List (Int × Int)), vs = [.ref t] ∧ H t = some (.tup (r.told p)) ∧ r.ok ∧ IsBox H p bs ∧ bs.length = 6 ∧ Fit bs ∧ ∀ H', Same H H' → Q (.str (Str.join sp (r.head :: pairsW bs 6))) H'
theorem ok_due14 (F : Fun K "_law_due" "_law_due" s__law_due f fd) (g__law_word : Fn P w K mg base "_law_word" 2 ["_law_key", "_law_low", "_law_high"] spWord14) (b_range : mg "range" = none) : FnOk P w K mg base CX0 3 f fd ["_law_rule"] spDue14 := by
  refine F.ok sc__law_due (fun vs H Q E h => ?_) (fun cdv A outer s H vs Q E hr h => ?_)
  · obtain ⟨_, _, _, _, rfl, _⟩ := h
    rfl
  obtain ⟨t, p, r, bs, rfl, ht, rok, hb, bl, fit, q⟩ := h
  have ib := fit.inB bl
  refine ⟨_, (@pss_cons _ _ _ _ _ (@ps_set _ _ (1) _ _ _ _ sc__law_due.nd rfl (Or.inl rfl) (@pe_lst _ _ _ _ (@pa_cons _ _ _ _ _ (@pe_ix _ _ _ _ _ _ _ ix_tup (pv 0) pe_int (fun _ _ => rfl)) pa_nil (by rfl))) (by rfl) (by first | exact .inl rfl | exact .inr rfl | assumption)) (@pss_cons _ _ _ _ _ (@ps_if _ _ _ _ _ _ _ _ (@pt_cmpR _ _ _ _ _ _ _ _ op_eq (@pe_ix _ _ _ _ _ _ _ ix_tup (pv 0) pe_int (fun _ _ => rfl)) pe_str (nomark _)) (@pss_one _ _ _ (@ps_expr _ _ _ _ (@pe_bm _ _ _ _ _ _ _ _ _ _ _ _ PySem.F.plainAttrs_list PySem.F.slot_list_append PySem.F.type_list_append mt_append (pv 1) (@pa_cons _ _ _ _ _ (@pe_ix _ _ _ _ _ _ _ ix_tup (pv 0) pe_int (fun _ _ => rfl)) pa_nil (by rfl)) (by rfl) (by rfl) (by rfl) (by rfl) (by rfl)) (by rfl))) pss_nil) (@pss_cons _ _ _ _ _ (@ps_set _ _ (2) _ _ _ _ sc__law_due.nd rfl (Or.inl rfl) (@pe_lst _ _ _ _ (@pa_consts _ _ _ rfl)) (by rfl) (by first | exact .inl rfl | exact .inr rfl | assumption)) (@pss_cons _ _ _ _ _ (@ps_set _ _ (3) _ _ _ _ sc__law_due.nd rfl (Or.inl rfl) (@pe_lst _ _ _ _ (@pa_consts _ _ _ rfl)) (by rfl) (by first | exact .inl rfl | exact .inr rfl | assumption)) (@pss_cons _ _ _ _ _ (@ps_for _ _ _ _ _ _ _ _ PassesOwn.never rfl (@pi_range1 _ _ _ _ _ _ rfl b_range (@pa_cons _ _ _ _ _ pe_int pa_nil (by rfl)) (by rfl)) (@pg_name _ _ (4) _ sc__law_due.nd rfl (Or.inl rfl) (by first | exact .inl rfl | exact .inr rfl | assumption)) (@pss_cons _ _ _ _ _ (@ps_asg _ _ _ _ _ _ (@pe_ix _ _ _ _ _ _ _ ix_tup (@pe_ix _ _ _ _ _ _ _ ix_tup (pv 0) pe_int (fun _ _ => rfl)) (pv 4) (fun _ _ => rfl)) (@pg_tup _ _ _ _ _ _ rfl (@pgs_cons _ _ _ _ _ (@pg_name _ _ (5) _ sc__law_due.nd rfl (Or.inl rfl) (by first | exact .inl rfl | exact .inr rfl | assumption)) (@pgs_cons _ _ _ _ _ (@pg_name _ _ (6) _ sc__law_due.nd rfl (Or.inl rfl) (by first | exact .inl rfl | exact .inr rfl | assumption)) pgs_nil (by rfl)) (by rfl)) (by rfl) (by rfl)) (by rfl) (by rfl) (by rfl)) (@pss_one _ _ _ (@ps_if _ _ _ _ _ _ _ _ (@PW.pt _ _ _ (@pw_or _ _ _ _ _ _ _ (@pt_cmpR _ _ _ _ _ _ _ _ op_gt (pv 5) pe_int (nomark _)) (@pw_or1 _ _ _ _ (@pt_cmpR _ _ _ _ _ _ _ _ op_lt (pv 6) (@pe_ix _ _ _ _ _ _ _ ix_list (pv 2) (pv 4) (fun _ _ => rfl)) (nomark _))))) (@pss_cons _ _ _ _ _ (@ps_expr _ _ _ _ (@pe_bm _ _ _ _ _ _ _ _ _ _ _ _ PySem.F.plainAttrs_list PySem.F.slot_list_append PySem.F.type_list_append mt_append (pv 1) (@pa_cons _ _ _ _ _ (@pe_ix _ _ _ _ _ _ _ ix_list (pv 3) (pv 4) (fun _ _ => rfl)) pa_nil (by rfl)) (by rfl) (by rfl) (by rfl) (by rfl) (by rfl)) (by rfl)) (@pss_one _ _ _ (@ps_expr _ _ _ _ (@pe_bm _ _ _ _ _ _ _ _ _ _ _ _ PySem.F.plainAttrs_list PySem.F.slot_list_append PySem.F.type_list_append mt_append (pv 1) (@pa_cons _ _ _ _ _ (@pe_fn _ _ _ _ _ _ _ _ _ _ _ g__law_word hr (by decide) rfl (@pa_cons _ _ _ _ _ (@pe_ix _ _ _ _ _ _ _ ix_list (pv 3) (pv 4) (fun _ _ => rfl)) (@pa_cons _ _ _ _ _ (pv 5) (@pa_cons _ _ _ _ _ (pv 6) pa_nil (by rfl)) (by rfl)) (by rfl)) (by decide) (by rfl) (by rfl)) pa_nil (by rfl)) (by rfl) (by rfl) (by rfl) (by rfl) (by rfl)) (by rfl)))) pss_nil))) (by intro _; rfl)) (@pss_one _ _ _ (@ps_ret _ _ _ _ (@pe_bm _ _ _ _ _ _ _ _ _ _ _ _ PySem.F.plainAttrs_str PySem.F.slot_str_join PySem.F.type_str_join mt_join pe_str (@pa_cons _ _ _ _ _ (pv 1) pa_nil (by rfl)) (by rfl) (by rfl) (by rfl) (by rfl) (by rfl))))))))), ?_⟩
  rw [st__law_due]
  obtain ⟨k0, ek, kc⟩ : ∃ k0 : Str, (r.told p)[0]? = some (.str k0) ∧ (k0 = "call" ↔ ∃ n, r = .call n) := by
    cases r with
    | word w1 => exact ⟨w1, rfl, fun e => absurd e rok.2.1, fun ⟨_, e⟩ => by cases e⟩
    | back => exact ⟨"back", rfl, fun e => absurd e (by decide), fun ⟨_, e⟩ => by cases e⟩
    | call n => exact ⟨"call", rfl, fun _ => ⟨n, rfl⟩, fun _ => rfl⟩
  walk_at "sv"
  refine ixT_go (i := 0) (SqT.of ht) ek ?_
  refine LstR.go (by simp) fun l nl => ?_
  have s1 := same_new nl (.lst [.str k0])
  walk_at "sv"
  refine ixT_go (i := 0) (SqT.of (s1 _ _ ht)) ek ?_
  walk_at "sv"
  refine BrS.dec (fun c => ?_) (fun c => ?_)
  obtain ⟨n, er⟩ := kc.mp c
  walk_at "sv"
  refine ⟨ty_lst upd_same, ?_⟩
  refine ixT_go (i := 2) (v := .str n) (SqT.of (s1 _ _ ht)) (by rw [er]; rfl) ?_
  refine app_go upd_same (by simp) ?_
  obtain ⟨H1, eH, sm, hl1⟩ : ∃ H1, upd (upd H l (.lst [.str k0])) l (.lst ([.str k0] ++ [.str n])) = H1 ∧ Same H H1 ∧ H1 l = some (.lst ((hw r).map V.str)) := ⟨_, rfl, s1.put nl, by rw [upd_same, er, c]; rfl⟩
  rw [eH]
  rotate_left
  have nr : hw r = [k0] := by
    cases r with
    | word w1 => cases ek; rfl
    | back => cases ek; rfl
    | call n => exact absurd (kc.mpr ⟨n, rfl⟩) c
  obtain ⟨H1, eH, sm, hl1⟩ : ∃ H1, upd H l (.lst [.str k0]) = H1 ∧ Same H H1 ∧ H1 l = some (.lst ((hw r).map V.str)) := ⟨_, rfl, s1, by rw [upd_same, nr]; rfl⟩
  rw [eH]
  walk_at "sv"
  rotate_left
  all_goals
    walk_at "sv"
    refine LstR.go (by simp) fun lt nt => ?_
    have s2 := same_new nt (.lst (topsI.map V.int))
    have hlt : upd H1 lt (.lst [.int 3, .int 255, .int 4294967295, .int 65535, .int 4294967295, .int 65535]) lt = some (.lst (topsI.map V.int)) := upd_same
    walk_at "sv"
    refine LstR.go (by simp) fun lk nk => ?_
    have s3 := same_new nk (.lst (pairWs.map V.str))
    have hlk : upd (upd H1 lt (.lst [.int 3, .int 255, .int 4294967295, .int 65535, .int 4294967295, .int 65535])) lk (.lst [.str "turn", .str "kind", .str "from", .str "fromdoor", .str "to", .str "todoor"]) lk = some (.lst (pairWs.map V.str)) := upd_same
    have hlt2 := s3 _ _ hlt
    have hl2 := s3 _ _ (s2 _ _ hl1)
    have S := sm.trans (s2.trans s3)
    have n1 : lt ≠ l := Ne.symm (ne_of_none hl1 nt)
    have n2 : lk ≠ l := Ne.symm (ne_of_none (s2 _ _ hl1) nk)
    refine RngR.go (by decide) (by decide) ?_
    refine ForR.range (n := 6) (fun i σ H' => Same H H' ∧ H' lt = some (.lst (topsI.map V.int)) ∧ H' lk = some (.lst (pairWs.map V.str)) ∧ H' l = some (.lst ((hw r ++ pairsW bs i).map V.str)) ∧ ∃ y1 y2 y3, σ = [some (.ref t), some (.ref l), some (.ref lt), some (.ref lk), y1, y2, y3]) ⟨S, hlt2, hlk, hl2.trans (by rw [show pairsW bs 0 = [] from rfl, List.append_nil]), none, none, none, rfl⟩ (fun i σ H' hi pv => ?_) (fun σ H' pv => ?_)
    · obtain ⟨sm', ht', hk', hl', y1, y2, y3, rfl⟩ := pv
      obtain ⟨b, eb⟩ : ∃ b, bs[i]? = some b := ⟨bs[i]'(by omega), List.getElem?_eq_getElem _⟩
      obtain ⟨top, etp, et, t0, t1⟩ := tops_at hi
      obtain ⟨key, ew⟩ : ∃ k, pairWs[i]? = some k := ⟨pairWs[i]'hi, List.getElem?_eq_getElem _⟩
      obtain ⟨f0, f1, f2⟩ := fit i b top eb etp
      obtain ⟨bd1, bd2⟩ := ib.2 b (List.mem_of_getElem? eb)
      have eW : pairW i (bs.getD i (0, 0)) (allBox.getD i (0, 0)) = pairW i b (0, top) := by
        have ea : allBox.getD i (0, 0) = (0, top) := by
          have ii : i = 0 ∨ i = 1 ∨ i = 2 ∨ i = 3 ∨ i = 4 ∨ i = 5 := by omega
          rcases ii with rfl | rfl | rfl | rfl | rfl | rfl <;> cases etp <;> rfl
        rw [List.getD_eq_getElem?_getD, eb, ea]
        rfl
      have enext : pairsW bs (i + 1) = pairsW bs i ++ pairW i b (0, top) := by
        unfold pairsW
        rw [List.range_succ, List.map_append, List.flatten_append, List.map_singleton, List.flatten_singleton, eW]
      have ll := pairsW_len bs i
      have lh := hw_len r
      walk_at "sv"
      rw [Int.zero_add]
      refine ixT_go (i := 1) (SqT.of (sm' _ _ ht)) (show (r.told p)[1]? = some (.ref p) by cases r <;> rfl) ?_
      refine ixB_go (hb.same sm') eb fun a ha => ?_
      refine gtup2 (SqT.of ha) ?_
      walk_at "sv"
      have fin : b ≠ (0, top) → ∀ H5, Same (upd H' l (.lst ((hw r ++ pairsW bs i).map V.str ++ [.str key]))) H5 → rAppend (.ref l) [.str (if key = "from" ∨ key = "to" then adrT b.1 b.2 else endsT num b.1 b.2)] H5 fun _ H6 => Same H H6 ∧ H6 lt = some (.lst (topsI.map V.int)) ∧ H6 lk = some (.lst (pairWs.map V.str)) ∧ H6 l = some (.lst ((hw r ++ pairsW bs (i + 1)).map V.str)) ∧ ∃ y1 y2 y3, ([some (.ref t), some (.ref l), some (.ref lt), some (.ref lk), some (.int (i : Int)), some (.int b.1), some (.int b.2)] : L2.St) = [some (.ref t), some (.ref l), some (.ref lt), some (.ref lk), y1, y2, y3] := fun nb H5 s5 => by
        have hl5 := s5 _ _ (upd_same (H := H') (a := l))
        refine app_go hl5 (by simp only [List.length_append, List.length_map, List.length_cons, List.length_nil]; omega) ?_
        refine ⟨((sm'.put nl).trans s5).put nl, (upd_ne n1).trans (s5 _ _ ((upd_ne n1).trans ht')), (upd_ne n2).trans (s5 _ _ ((upd_ne n2).trans hk')), ?_, _, _, _, rfl⟩
        rw [upd_same, enext]
        unfold pairW
        rw [if_neg nb, List.getD_eq_getElem?_getD, ew]
        simp only [key_iff ew]
        simp
      by_cases cw : b = (0, top)
      · refine BrO.dec (fun c1 => absurd c1 (by rw [cw]; exact Int.lt_irrefl 0)) (fun c1 => ?_)
        walk_at "sv"
        refine ixL_go (SqL.of ht') et ?_
        walk_at "sv"
        refine BrS.dec (fun c2 => absurd c2 (by rw [cw]; exact Int.lt_irrefl _)) (fun c2 => ?_)
        walk_at "sv"
        refine ⟨sm', ht', hk', ?_, _, _, _, rfl⟩
        rw [enext, show pairW i b (0, top) = [] from if_pos cw, List.append_nil]
        exact hl'
      · refine BrO.dec (fun c1 => ?_) (fun c1 => ?_)
        walk_at "sv"
        rotate_left
        walk_at "sv"
        refine ixL_go (SqL.of ht') et ?_
        walk_at "sv"
        refine BrS.dec (fun c2 => ?_) (fun c2 => absurd (Prod.ext (show b.1 = 0 by omega) (show b.2 = top by omega)) cw)
        walk_at "sv"
        all_goals
          have ekv : (pairWs.map V.str)[i]? = some (.str key) := by rw [List.getElem?_map, ew]; rfl
          refine ⟨ty_lst hl', ?_⟩
          refine ixL_go (SqL.of hk') ekv ?_
          refine app_go hl' (by simp only [List.length_append, List.length_map]; omega) ?_
          walk_at "sv"
          refine ⟨ty_lst upd_same, ?_⟩
          refine ixL_go (SqL.of ((upd_ne n2).trans hk')) ekv ?_
          refine ⟨key, b.1, b.2, rfl, bd1, bd2, fun H5 s5 => ?_⟩
          exact fin cw H5 s5
    · obtain ⟨sm', ht', hk', hl', y1, y2, y3, rfl⟩ := pv
      walk_at "sv"
      rw [lit_sp]
      refine join_go (ws := hw r ++ pairsW bs 6) (SqL.of hl') (joinOk_small ?_) ?_
      · have h1 := sum_le (m := 1100) (ws := hw r ++ pairsW bs 6) fun x hx => by
          rcases List.mem_append.mp hx with hx | hx
          · exact hw_l rok x hx
          · exact Nat.le_trans (pairsW_l ib 6 x hx) (by decide)
        have h2 := pairsW_len bs 6
        have h4 := hw_len r
        have h3 : sp.length = 1 := rfl
        rw [List.length_append] at h1 ⊢
        rw [h3]
        omega
      · rw [hw_join]
        exact q _ sm'
end
--CUT--
section
variable {C_Rule C_Word C_Back C_Call : Addr}
theorem sb_tup {T : Addr} {H H' : Hp} {a : Addr} {xs : List V} (tk : TabOk T H) (sb : SameB T H H') (e : H a = some (.tup xs)) : H' a = some (.tup xs) := sb a _ (fun z => by
  obtain ⟨ps, e2, _⟩ := tk
  rw [z, e2] at e
  cases e) e
theorem sb_box {T : Addr} {H H' : Hp} {p : Addr} {bs : List (Int × Int)} (tk : TabOk T H) (sb : SameB T H H') (h : IsBox H p bs) : IsBox H' p bs := by
  obtain ⟨vs, e, st⟩ := h
  exact ⟨vs, sb_tup tk sb e, st.mono fun a xs e => sb_tup tk sb e⟩
theorem sb_sql {T : Addr} {H H' : Hp} {a : Addr} {xs : List V} (tk : TabOk T H) (sb : SameB T H H') (h : SqL K H a xs) : SqL K H' a xs := by
  obtain ⟨ps, eT, _⟩ := tk
  rcases h with (e | ⟨o, e⟩) | h
  · exact .inl (.inl (sb a _ (fun z => by rw [z, eT] at e; cases e) e))
  · exact .inl (.inr ⟨o, sb a _ (fun z => by rw [z, eT] at e; cases e) e⟩)
  · exact .inr h
def kws : List Str := ["pass", "stop", "back", "call"]
theorem ok_law {T : Addr} (F : Fun K "law" "law" s_law f fd) (g__law_cell_at : Fn P w K mg base "_law_cell_at" 1 ["_law_script", "_law_k"] (spCell K)) (g__law_box : Fn P w K mg base "_law_box" 2 ["_law_cell", "_law_more"] spBox) (g__law_name : Fn P w K mg base "_law_name" 2 ["_law_cell"] spName) (g_show_rule : Fn P w K mg base "show_rule" 5 ["told"] (spShRule T)) (g__law_due : Fn P w K mg base "_law_due" 3 ["_law_rule"] spDue14)
    (b_len : mg "len" = none) (b_range : mg "range" = none) (b_max : mg "max" = none) (b_min : mg "min" = none) (b_isinstance : mg "isinstance" = none) (b_str : mg "str" = none) : FnOk P w K mg base CX0 6 f fd ["_law_script"] (spLawT K T) := by
  refine F.ok sc_law (fun vs H Q E h => ?_) (fun cdv A outer s H vs Q E hr h => ?_)
  · obtain ⟨_, _, rfl, _⟩ := h
    rfl
  obtain ⟨sc, ns, rfl, hS, h63, hT, q⟩ := h
  refine ⟨_, (@pss_cons _ _ _ _ _ (@ps_for _ _ _ _ _ _ _ _ PassesOwn.never rfl (@pi_rangeS _ _ _ _ _ _ _ _ (3) (by decide) (by decide) rfl b_range (@pa_cons _ _ _ _ _ pe_int (@pa_cons _ _ _ _ _ (@pe_callB _ _ _ _ _ _ _ _ _ (call_maxR rfl) rfl b_max bo_max (@pa_cons _ _ _ _ _ pe_int (@pa_cons _ _ _ _ _ (@pe_callB _ _ _ _ _ _ _ _ _ (call_minR rfl) rfl b_min bo_min (@pa_cons _ _ _ _ _ (@pe_callB _ _ _ _ _ _ _ _ _ call_lenR rfl b_len bo_len (@pa_cons _ _ _ _ _ (pv 0) pa_nil (by rfl)) (by decide) (by decide) (by rfl) (by rfl)) (@pa_cons _ _ _ _ _ pe_int pa_nil (by rfl)) (by rfl)) (by decide) (by decide) (by rfl) (by rfl)) pa_nil (by rfl)) (by rfl)) (by decide) (by decide) (by rfl) (by rfl)) (@pa_cons _ _ _ _ _ pe_int pa_nil (by rfl)) (by rfl)) (by rfl)) (by rfl) (by rfl)) (@pg_name _ _ (1) _ sc_law.nd rfl (Or.inl rfl) (by first | exact .inl rfl | exact .inr rfl | assumption)) (@pss_cons _ _ _ _ _ (@ps_set _ _ (2) _ _ _ _ sc_law.nd rfl (Or.inl rfl) (@pe_fn _ _ _ _ _ _ _ _ _ _ _ g__law_cell_at hr (by decide) rfl (@pa_cons _ _ _ _ _ (pv 0) (@pa_cons _ _ _ _ _ (pv 1) pa_nil (by rfl)) (by rfl)) (by decide) (by rfl) (by rfl)) (by rfl) (by first | exact .inl rfl | exact .inr rfl | assumption)) (@pss_cons _ _ _ _ _ (@ps_set _ _ (3) _ _ _ _ sc_law.nd rfl (Or.inl rfl) (@pe_fn _ _ _ _ _ _ _ _ _ _ _ g__law_box hr (by decide) rfl (@pa_cons _ _ _ _ _ (@pe_fn _ _ _ _ _ _ _ _ _ _ _ g__law_cell_at hr (by decide) rfl (@pa_cons _ _ _ _ _ (pv 0) (@pa_cons _ _ _ _ _ (@pe_op _ _ _ _ _ _ _ _ op_add (pv 1) pe_int) pa_nil (by rfl)) (by rfl)) (by decide) (by rfl) (by rfl)) (@pa_cons _ _ _ _ _ (@pe_fn _ _ _ _ _ _ _ _ _ _ _ g__law_cell_at hr (by decide) rfl (@pa_cons _ _ _ _ _ (pv 0) (@pa_cons _ _ _ _ _ (@pe_op _ _ _ _ _ _ _ _ op_add (pv 1) pe_int) pa_nil (by rfl)) (by rfl)) (by decide) (by rfl) (by rfl)) pa_nil (by rfl)) (by rfl)) (by decide) (by rfl) (by rfl)) (by rfl) (by first | exact .inl rfl | exact .inr rfl | assumption)) (@pss_cons _ _ _ _ _ (@ps_set _ _ (4) _ _ _ _ sc_law.nd rfl (Or.inl rfl) (@pe_tup _ _ _ _ _ (@pa_cons _ _ _ _ _ (@pe_ix _ _ _ _ _ _ _ ix_list (@pe_lst _ _ _ _ (@pa_cons _ _ _ _ _ pe_str (@pa_cons _ _ _ _ _ pe_str (@pa_cons _ _ _ _ _ pe_str (@pa_cons _ _ _ _ _ pe_str pa_nil (by rfl)) (by rfl)) (by rfl)) (by rfl))) (@pe_op _ _ _ _ _ _ _ _ op_mod (pv 2) pe_int) (fun _ _ => rfl)) (@pa_cons _ _ _ _ _ (pv 3) pa_nil (by rfl)) (by rfl))) (by rfl) (by first | exact .inl rfl | exact .inr rfl | assumption)) (@pss_cons _ _ _ _ _ (@ps_if _ _ _ _ _ _ _ _ (@pt_cmpR _ _ _ _ _ _ _ _ op_eq (@pe_ix _ _ _ _ _ _ _ ix_tup (pv 4) pe_int (fun _ _ => rfl)) pe_str (nomark _)) (@pss_one _ _ _ (@ps_set _ _ (4) _ _ _ _ sc_law.nd rfl (Or.inl rfl) (@pe_op _ _ _ _ _ _ _ _ op_catA (pv 4) (@pe_tup _ _ _ _ _ (@pa_cons _ _ _ _ _ (@pe_fn _ _ _ _ _ _ _ _ _ _ _ g__law_name hr (by decide) rfl (@pa_cons _ _ _ _ _ (@pe_op _ _ _ _ _ _ _ _ op_divW (pv 2) pe_int) pa_nil (by rfl)) (by decide) (by rfl) (by rfl)) pa_nil (by rfl)))) (by rfl) (by first | exact .inl rfl | exact .inr rfl | assumption))) pss_nil) (@pss_cons _ _ _ _ _ (@ps_set _ _ (5) _ _ _ _ sc_law.nd rfl (Or.inl rfl) (@pe_fn _ _ _ _ _ _ _ _ _ _ _ g_show_rule hr (by decide) rfl (@pa_cons _ _ _ _ _ (pv 4) pa_nil (by rfl)) (by decide) (by rfl) (by rfl)) (by rfl) (by first | exact .inl rfl | exact .inr rfl | assumption)) (@pss_one _ _ _ (@ps_if _ _ _ _ _ _ _ _ (@PW.pt _ _ _ (@pw_or _ _ _ _ _ _ _ (@pt_not _ _ _ _ (@pt_val _ _ _ (@pe_callB _ _ _ _ _ _ _ _ _ call_isi rfl b_isinstance bo_isinstance (@pa_cons _ _ _ _ _ (pv 5) (@pa_cons _ _ _ _ _ (@pe_bltn _ _ (.ty "str") (.type "str") _ rfl b_str bo_str rfl (by decide) (by decide)) pa_nil (by rfl)) (by rfl)) (by decide) (by decide) (by rfl) (by rfl)) (by intro _; rfl))) (@pw_or1 _ _ _ _ (@pt_cmpR _ _ _ _ _ _ _ _ op_ne (pv 5) (@pe_fn _ _ _ _ _ _ _ _ _ _ _ g__law_due hr (by decide) rfl (@pa_cons _ _ _ _ _ (pv 4) pa_nil (by rfl)) (by decide) (by rfl) (by rfl)) (nomark _))))) (@pss_one _ _ _ (@ps_ret _ _ _ _ pe_bl)) pss_nil))))))) (by intro _; rfl)) (@pss_one _ _ _ (@ps_ret _ _ _ _ pe_bl))), ?_⟩
  rw [st_law]
  walk_at "sv"
  refine LenR.lst hS ?_
  walk_at "sv"
  rw [List.length_map]
  refine RngS.go (by omega) (by omega) ?_
  refine ForR.step (fun i σ H' => SqL K H' sc (ns.map V.int) ∧ TabOk T H' ∧ ∃ x1 x2 x3 x4 x5, σ = [some (.ref sc), x1, x2, x3, x4, x5]) ⟨hS, ⟨_, hT, .inl rfl⟩, none, none, none, none, none, rfl⟩ (fun i σ H1 hi pv => ?_) (fun σ H1 pv => ?_)
  · obtain ⟨hS1, tk1, x1, x2, x3, x4, x5, rfl⟩ := pv
    walk_at "sv"
    refine spCell.go hS1 (by omega) ?_
    walk_at "sv"
    refine spCell.go hS1 (by omega) ?_
    walk_at "sv"
    refine spCell.go hS1 (by omega) ?_
    walk_at "sv"
    refine ⟨_, _, rfl, fun p bs H2 s2 hb bl fit => ?_⟩
    walk_at "sv"
    refine LstR.go (by simp) fun lk nk => ?_
    have s3 := same_new nk (.lst (kws.map V.str))
    have hk : upd H2 lk (.lst [.str "pass", .str "stop", .str "back", .str "call"]) lk = some (.lst (kws.map V.str)) := upd_same
    generalize cell ns (0 + (i : Int) * 3) = c at *
    refine ⟨by decide, ?_⟩
    obtain ⟨j, ej, lj⟩ : ∃ j : Nat, c % 4 = j ∧ j < 4 := ⟨(c % 4).toNat, by omega, by omega⟩
    rw [ej]
    obtain ⟨kw, ekw⟩ : ∃ x, kws[j]? = some x := ⟨kws[j]'lj, List.getElem?_eq_getElem _⟩
    refine ixL_go (SqL.of hk) (show (kws.map V.str)[j]? = some (.str kw) by rw [List.getElem?_map, ekw]; rfl) ?_
    refine TupR.go (by simp) fun tq nq => ?_
    have s4 := same_new nq (.tup [.str kw, .ref p])
    walk_at "sv"
    refine ixT_go (i := 0) (SqT.of upd_same) rfl ?_
    walk_at "sv"
    have hb3 := (hb.same s3).same s4
    have S := s2.trans (s3.trans s4)
    refine BrS.dec (fun c1 => ?_) (fun c1 => ?_)
    walk_at "sv"
    refine ⟨⟨by decide, by decide⟩, ?_⟩
    refine ⟨_, rfl, fun n H3 s5 nl nok => ?_⟩
    refine TupR.go (by simp) fun tn nn => ?_
    have s6 := same_new nn (.tup [.str n])
    refine catA_go (xs := [.str kw, .ref p]) (ys := [.str n]) (s6 _ _ (s5 _ _ upd_same)) upd_same (by simp) fun tq2 H4 s7 h7 => ?_
    have SS : Same H1 H4 := S.trans (s5.trans (s6.trans s7))
    have hb4 : IsBox H4 p bs := ((hb3.same s5).same s6).same s7
    obtain ⟨r, hrt, rok⟩ : ∃ r : Rl, H4 tq2 = some (.tup (r.told p)) ∧ r.ok := ⟨.call n, by rw [h7, c1]; rfl, nl, nok⟩
    rotate_left
    obtain ⟨r, hrt, rok⟩ : ∃ r : Rl, upd (upd H2 lk (.lst [.str "pass", .str "stop", .str "back", .str "call"])) tq (.tup [.str kw, .ref p]) tq = some (.tup (r.told p)) ∧ r.ok := by
      have jj : j = 0 ∨ j = 1 ∨ j = 2 ∨ j = 3 := by omega
      rcases jj with rfl | rfl | rfl | rfl <;> cases ekw
      · exact ⟨.word "pass", upd_same, by decide, by decide, by decide, by decide +kernel⟩
      · exact ⟨.word "stop", upd_same, by decide, by decide, by decide, by decide +kernel⟩
      · exact ⟨.back, upd_same, trivial⟩
      · exact absurd rfl c1
    obtain ⟨H4, eH, SS, hb4⟩ : ∃ H4, upd (upd H2 lk (.lst [.str "pass", .str "stop", .str "back", .str "call"])) tq (.tup [.str kw, .ref p]) = H4 ∧ Same H1 H4 ∧ IsBox H4 p bs := ⟨_, rfl, S, hb3⟩
    rw [eH] at hrt ⊢
    obtain ⟨tq2, eq2⟩ : ∃ x, tq = x := ⟨_, rfl⟩
    rw [eq2] at hrt ⊢
    rotate_left
    all_goals
      have tk4 := tk1.same SS
      have hS4 := SS.seq hS1
      walk_at "sv"
      refine ⟨tq2, p, r, bs, rfl, hrt, rok, hb4, fit.inB bl, tk4, fun H5 sb5 tk5 => ?_⟩
      walk_at "sv"
      refine isi_str ?_
      walk_at "sv"
      refine ⟨tq2, p, r, bs, rfl, sb_tup tk4 sb5 hrt, rok, sb_box tk4 sb5 hb4, bl, fit, fun H6 s8 => ?_⟩
      walk_at "sv"
      exact ⟨s8.seq (sb_sql tk4 sb5 hS4), tk5.same s8, _, _, _, _, _, rfl⟩
  · obtain ⟨hS1, ⟨ps, e, _⟩, _⟩ := pv
    walk_at "sv"
    exact q _ _ e
end
end
theorem asm {l : PySem.W.OpenLaw} {w : World} {K : PySem.W.Frag} {mg : Str → Option Value} {fa : Addr} (hfa : mg "law" = some (.ref fa)) {C_Rule : Addr} {C_Word : Addr} {C_Back : Addr} {C_Call : Addr} {cT TT : Addr} (D_show_address : Def K mg "show_address" s_show_address) (D_beginning : Def K mg "beginning" s_beginning) (D_shared : Def K mg "shared" s_shared) (D_bits_of : Def K mg "bits_of" s_bits_of) (D_every : Def K mg "every" s_every) (D_rule_of : Def K mg "rule_of" s_rule_of) (D_show_ends : Def K mg "show_ends" s_show_ends) (D_show_numbers : DefT K mg "show_numbers" s_show_numbers cT TT) (D_show_addresses : Def K mg "show_addresses" s_show_addresses) (D_show_rule : Def K mg "show_rule" s_show_rule) (D__law_cell_at : Def K mg "_law_cell_at" s__law_cell_at) (D__law_stream : Def K mg "_law_stream" s__law_stream) (D__law_stretch : Def K mg "_law_stretch" s__law_stretch) (D__law_box : Def K mg "_law_box" s__law_box) (D__law_name : Def K mg "_law_name" s__law_name) (D__law_address : Def K mg "_law_address" s__law_address) (D__law_word : Def K mg "_law_word" s__law_word) (D__law_due : Def K mg "_law_due" s__law_due) (D_law : Def K mg "law" s_law) (c_PART_SHIFTS : ∃ a, mg "PART_SHIFTS" = some (.ref a) ∧ ∀ H, SqT K H a [.int 24, .int 16, .int 8, .int 0]) (c_PART_SIZE : ∃ u, mg "PART_SIZE" = some u ∧ RelV (.int 256) u) (c_ADDRESS_BITS : ∃ u, mg "ADDRESS_BITS" = some u ∧ RelV (.int 32) u) (c_GREATEST_ADDRESS : ∃ u, mg "GREATEST_ADDRESS" = some u ∧ RelV (.int 4294967295) u) (c_GREATEST_TURN : ∃ u, mg "GREATEST_TURN" = some u ∧ RelV (.int 3) u) (c_GREATEST_KIND : ∃ u, mg "GREATEST_KIND" = some u ∧ RelV (.int 255) u) (c_GREATEST_DOOR : ∃ u, mg "GREATEST_DOOR" = some u ∧ RelV (.int 65535) u) (c_PAIR_WORDS : ∃ a, mg "PAIR_WORDS" = some (.ref a) ∧ ∀ H, SqT K H a (pairWs.map V.str)) (c_ADDRESS_WORDS : ∃ a, mg "ADDRESS_WORDS" = some (.ref a) ∧ ∀ H, SqT K H a ([("from" : Str), "to"].map V.str)) (b_len : mg "len" = none) (b_range : mg "range" = none) (b_isinstance : mg "isinstance" = none) (b_int : mg "int" = none) (b_str : mg "str" = none) (b_max : mg "max" = none) (b_min : mg "min" = none) (b_tuple : mg "tuple" = none) (b_list : mg "list" = none) (b_zip : mg "zip" = none) (b_all : mg "all" = none) (m_Rule : mg "Rule" = some (.ref C_Rule)) (m_Word : mg "Word" = some (.ref C_Word)) (m_Back : mg "Back" = some (.ref C_Back)) (m_Call : mg "Call" = some (.ref C_Call))  (N_Rule___init__ : ClsDef K C_Rule "__init__" "Rule.__init__" s_Rule___init__) (I_Rule___init__ : MDef K C_Rule "__init__" "Rule.__init__" s_Rule___init__) (I_Back___init__ : MDef K C_Back "__init__" "Rule.__init__" s_Rule___init__) (I_Word___init__ : MDef K C_Word "__init__" "Word.__init__" s_Word___init__) (I_Call___init__ : MDef K C_Call "__init__" "Call.__init__" s_Call___init__) (M_Word_head : MDef K C_Word "head" "Word.head" s_Word_head) (M_Back_head : MDef K C_Back "head" "Back.head" s_Back_head) (M_Call_head : MDef K C_Call "head" "Call.head" s_Call_head) (T : Txt K C_Rule C_Word C_Back C_Call)  :
    ∃ (c T : Addr) (fd : FuncData), DefT K mg "show_numbers" s_show_numbers c T ∧ (∀ (s : Shared) (v : Value), BindsTo s fd ⟨[v], []⟩ [("_law_script", v)]) ∧ ∀ base : Heap, K.In base → base.Ns mainGlobals mg → BltAt mg base → FnOk l.prog w K mg base CX0 6 fa fd ["_law_script"] (spLawT K T) := by
  obtain ⟨f, fd, F, m⟩ := D_law.ex
  cases (hfa.symm.trans m)
  obtain ⟨oc, od, kV, doc, pm, an, cdv, ct, osl, e, lk, hcd⟩ := id F.ex
  subst e
  refine ⟨cT, TT, PySem.W.fnOf "law" "law" (defArgs s_law) (defBody s_law) (defScope s_law) .none kV doc pm an cdv ct, D_show_numbers, fun s v => .of_eq rfl, fun base _ _ hB => ?_⟩
  have g_show_address : Fn l.prog w K mg base "show_address" 1 ["address"] (spShow K) := D_show_address.fn (fun _ _ _ _ _ _ us hl => by obtain ⟨a0, rfl⟩ := Sv.us1 hl; rfl) fun _ _ F => ok_show F c_PART_SHIFTS c_PART_SIZE b_str
  have g_beginning : Fn l.prog w K mg base "beginning" 1 ["address", "bits"] spBeg := D_beginning.fn (fun _ _ _ _ _ _ us hl => by obtain ⟨a0, a1, rfl⟩ := Sv.us2 hl; rfl) fun _ _ F => ok_beginning F c_GREATEST_ADDRESS
  have g_shared : Fn l.prog w K mg base "shared" 1 ["one", "other"] spShared := D_shared.fn (fun _ _ _ _ _ _ us hl => by obtain ⟨a0, a1, rfl⟩ := Sv.us2 hl; rfl) fun _ _ F => ok_shared F c_ADDRESS_BITS
  have g_bits_of : Fn l.prog w K mg base "bits_of" 2 ["low", "high"] spBitsOf := D_bits_of.fn (fun _ _ _ _ _ _ us hl => by obtain ⟨a0, a1, rfl⟩ := Sv.us2 hl; rfl) fun _ _ F => ok_bits_of F g_beginning g_shared
  have gc_Rule___init__ : FnC l.prog w K mg base C_Rule "__init__" 1 ["self", "box"] (spInit K) := N_Rule___init__.fnC (fun _ _ _ _ _ _ us hl => by obtain ⟨a0, a1, rfl⟩ := Sv.us2 hl; rfl) fun _ _ F => ok_Rule_init F
  have gi_Rule : FnI l.prog w K mg base C_Rule 1 ["self", "box"] (spInit K) := I_Rule___init__.fnI T.mk_Rule T.kp_Rule (fun _ _ _ _ _ _ us hl => by obtain ⟨a0, a1, rfl⟩ := Sv.us2 hl; rfl) fun _ _ F => ok_Rule_init F
  have gi_Back : FnI l.prog w K mg base C_Back 1 ["self", "box"] (spInit K) := I_Back___init__.fnI T.mk_Back T.kp_Back (fun _ _ _ _ _ _ us hl => by obtain ⟨a0, a1, rfl⟩ := Sv.us2 hl; rfl) fun _ _ F => ok_Rule_init F
  have gi_Word : FnI l.prog w K mg base C_Word 2 ["self", "box", "word"] (spInitW K C_Word "word") := I_Word___init__.fnI T.mk_Word T.kp_Word (fun _ _ _ _ _ _ us hl => by obtain ⟨a0, a1, a2, rfl⟩ := Sv.us3 hl; rfl) fun _ _ F => ok_Word_init F gc_Rule___init__ m_Rule T
  have gi_Call : FnI l.prog w K mg base C_Call 2 ["self", "box", "name"] (spInitW K C_Call "name") := I_Call___init__.fnI T.mk_Call T.kp_Call (fun _ _ _ _ _ _ us hl => by obtain ⟨a0, a1, a2, rfl⟩ := Sv.us3 hl; rfl) fun _ _ F => ok_Call_init F gc_Rule___init__ m_Rule T
  have gm_Word_head : FnM l.prog w K mg base C_Word "head" 1 ["self"] (spHead C_Word isWord) := M_Word_head.fnM (fun _ _ _ _ _ _ us hl => by obtain ⟨a0, rfl⟩ := Sv.us1 hl; rfl) fun _ _ F => ok_Word_head F T
  have gm_Back_head : FnM l.prog w K mg base C_Back "head" 1 ["self"] (spHead C_Back isBack) := M_Back_head.fnM (fun _ _ _ _ _ _ us hl => by obtain ⟨a0, rfl⟩ := Sv.us1 hl; rfl) fun _ _ F => ok_Back_head F
  have gm_Call_head : FnM l.prog w K mg base C_Call "head" 1 ["self"] (spHead C_Call isCall) := M_Call_head.fnM (fun _ _ _ _ _ _ us hl => by obtain ⟨a0, rfl⟩ := Sv.us1 hl; rfl) fun _ _ F => ok_Call_head F T
  have g_every : Fn l.prog w K mg base "every" 1 [] spEvery := D_every.fn (fun _ _ _ _ _ _ us hl => match us, hl with | [], _ => rfl) fun _ _ F => ok_every F c_GREATEST_ADDRESS c_GREATEST_DOOR c_GREATEST_TURN c_GREATEST_KIND
  have g_rule_of : Fn l.prog w K mg base "rule_of" 4 ["told"] (spRuleOf C_Word C_Back C_Call) := D_rule_of.fn (fun _ _ _ _ _ _ us hl => by obtain ⟨a0, rfl⟩ := Sv.us1 hl; rfl) fun _ _ F => ok_rule_of F gi_Back gi_Word gi_Call m_Back m_Word m_Call T
  have g_show_ends : Fn l.prog w K mg base "show_ends" 2 ["stretch", "show_end"] (spEnds l.prog w K mg base) := D_show_ends.fn (fun _ _ _ _ _ _ us hl => by obtain ⟨a0, a1, rfl⟩ := Sv.us2 hl; rfl) fun _ _ F => ok_ends F
  have g_show_numbers : Fn l.prog w K mg base "show_numbers" 3 ["stretch"] (spNums TT) := by
    obtain ⟨f1, fd1, F1, m1, hc1⟩ := D_show_numbers.ex
    exact ⟨⟨f1, fd1, ok_nums F1 hc1 D_show_numbers.hd hB g_show_ends b_str, m1, F1.kp, F1.binds (fun _ _ _ _ _ _ us hl => by obtain ⟨a0, rfl⟩ := Sv.us1 hl; rfl)⟩⟩
  have g_show_addresses : Fn l.prog w K mg base "show_addresses" 3 ["stretch"] spAdrs := D_show_addresses.fn (fun _ _ _ _ _ _ us hl => by obtain ⟨a0, rfl⟩ := Sv.us1 hl; rfl) fun _ _ F => ok_adrs F g_bits_of g_show_ends g_show_address c_ADDRESS_BITS b_str
  have g_show_rule : Fn l.prog w K mg base "show_rule" 5 ["told"] (spShRule TT) := D_show_rule.fn (fun _ _ _ _ _ _ us hl => by obtain ⟨a0, rfl⟩ := Sv.us1 hl; rfl) fun _ _ F => ok_shrule F g_rule_of gm_Word_head gm_Back_head gm_Call_head g_every g_show_addresses g_show_numbers c_PAIR_WORDS c_ADDRESS_WORDS b_zip T
  have g__law_cell_at : Fn l.prog w K mg base "_law_cell_at" 1 ["_law_script", "_law_k"] (spCell K) := D__law_cell_at.fn (fun _ _ _ _ _ _ us hl => by obtain ⟨a0, a1, rfl⟩ := Sv.us2 hl; rfl) fun _ _ F => ok_cell F b_len
  have g__law_stream : Fn l.prog w K mg base "_law_stream" 1 ["_law_cell", "_law_many"] spStream := D__law_stream.fn (fun _ _ _ _ _ _ us hl => by obtain ⟨a0, a1, rfl⟩ := Sv.us2 hl; rfl) fun _ _ F => ok_stream F b_range
  have g__law_stretch : Fn l.prog w K mg base "_law_stretch" 1 ["_law_top", "_law_way", "_law_a", "_law_b"] spStretch := D__law_stretch.fn (fun _ _ _ _ _ _ us hl => by obtain ⟨a0, a1, a2, a3, rfl⟩ := Sv.us4 hl; rfl) fun _ _ F => ok_stretch F b_min b_max
  have g__law_box : Fn l.prog w K mg base "_law_box" 2 ["_law_cell", "_law_more"] spBox := D__law_box.fn (fun _ _ _ _ _ _ us hl => by obtain ⟨a0, a1, rfl⟩ := Sv.us2 hl; rfl) fun _ _ F => ok_box F g__law_stream g__law_stretch b_range b_tuple
  have g__law_name : Fn l.prog w K mg base "_law_name" 2 ["_law_cell"] spName := D__law_name.fn (fun _ _ _ _ _ _ us hl => by obtain ⟨a0, rfl⟩ := Sv.us1 hl; rfl) fun _ _ F => ok_name F g__law_stream
  have g__law_address : Fn l.prog w K mg base "_law_address" 1 ["_law_number"] spAddr := D__law_address.fn (fun _ _ _ _ _ _ us hl => by obtain ⟨a0, rfl⟩ := Sv.us1 hl; rfl) fun _ _ F => ok_addr F b_str
  have g__law_word : Fn l.prog w K mg base "_law_word" 2 ["_law_key", "_law_low", "_law_high"] spWord14 := D__law_word.fn (fun _ _ _ _ _ _ us hl => by obtain ⟨a0, a1, a2, rfl⟩ := Sv.us3 hl; rfl) fun _ _ F => ok_word14 F g__law_address b_str b_range
  have g__law_due : Fn l.prog w K mg base "_law_due" 3 ["_law_rule"] spDue14 := D__law_due.fn (fun _ _ _ _ _ _ us hl => by obtain ⟨a0, rfl⟩ := Sv.us1 hl; rfl) fun _ _ F => ok_due14 F g__law_word b_range
  exact ok_law F g__law_cell_at g__law_box g__law_name g_show_rule g__law_due b_len b_range b_max b_min b_isinstance b_str
theorem walk {l : PySem.W.OpenLaw} {q : Program} {loose : List Str} {XP : (Str → Option Value) → Heap → Prop} {YP : World → Heap → Prop} {d : DefRec} {K : Params → PySem.W.Frag} (hn : l.most = some 63) (hdf : d.params.defaults = [])
    (hY : ∀ (w : World) (h : Heap), YP w h → (K w.params).In h) (hd' : ((PyProof.Rows.recsOf q).find? (fun d => d.name == ("show_numbers" : Str))).isSome = true)
    (F : ∀ (w : World) (mg : Str → Option Value) (fa : Addr) (h : Heap), (K w.params).In h → h.Ns mainGlobals mg → mg d.name = some (.ref fa) →
      ∃ (c T : Addr) (fd : FuncData), DefT (K w.params) mg "show_numbers" s_show_numbers c T ∧ (∀ (s : Shared) (u : Value), BindsTo s fd ⟨[u], []⟩ [("_law_script", u)]) ∧ ∀ base : Heap, (K w.params).In base → base.Ns mainGlobals mg → BltAt mg base → FnOk l.prog w (K w.params) mg base CX0 6 fa fd ["_law_script"] (spLawT (K w.params) T)) :
    PySem.W.WalkO q loose XP YP l.row.toRowW d [] (fun f vs => PySem.call f vs) := walkT hn hdf ⟨rfl, by decide, by decide, rfl⟩ hY hd' F
end K14
open PySem PySem.W PyProof.Rows
set_option maxRecDepth 100000 in
set_option maxHeartbeats 0 in
theorem PySem.Challenge.cw_sieve_k14_a_rule_shown_holds : PySem.Challenge.rw_sieve_k14_a_rule_shown.Holds := by
  w_on; o_law; k_head; (case hw => w_witness2)
  k_fill
  refine K14.walk (l := PySem.Challenge.rw_sieve_k14_a_rule_shown) rfl rfl (fun w h Y => PySem.W.km_in_of Y) (by kernel_rfl) ?F
  case F =>
    intro w mg fa h KX G hmg
    refine' K14.asm hmg ?D0 ?D1 ?D2 ?D3 ?D4 ?D5 ?D6 ?D7 ?D8 ?D9 ?D10 ?D11 ?D12 ?D13 ?D14 ?D15 ?D16 ?D17 ?D18 ?c0 ?c1 ?c2 ?c3 ?c4 ?c5 ?c6 ?c7 ?c8 ?b0 ?b1 ?b2 ?b3 ?b4 ?b5 ?b6 ?b7 ?b8 ?b9 ?b10 ?m0 ?m1 ?m2 ?m3 ?e0 ?e1 ?e2 ?e3 ?e4 ?e5 ?e6 ?e7 ?tx
    case D0 => (refine' Sv.mk_def KX G ?a ?l ?c ?k); (case a => k_is); (case l => k_is); (case c => k_is); (case k => k_is)
    case D1 => (refine' Sv.mk_def KX G ?a ?l ?c ?k); (case a => k_is); (case l => k_is); (case c => k_is); (case k => k_is)
    case D2 => (refine' Sv.mk_def KX G ?a ?l ?c ?k); (case a => k_is); (case l => k_is); (case c => k_is); (case k => k_is)
    case D3 => (refine' Sv.mk_def KX G ?a ?l ?c ?k); (case a => k_is); (case l => k_is); (case c => k_is); (case k => k_is)
    case D4 => (refine' Sv.mk_def KX G ?a ?l ?c ?k); (case a => k_is); (case l => k_is); (case c => k_is); (case k => k_is)
    case D5 => (refine' Sv.mk_def KX G ?a ?l ?c ?k); (case a => k_is); (case l => k_is); (case c => k_is); (case k => k_is)
    case D6 => (refine' Sv.mk_def KX G ?a ?l ?c ?k); (case a => k_is); (case l => k_is); (case c => k_is); (case k => k_is)
    case D7 => (refine' K14.mk_defT KX G ?a ?l ?c ?k ?lc ?no ?ne); (case a => k_is); (case l => k_is); (case c => k_is); (case k => k_is); (case lc => k_is); (case no => first | k_is | kernel_rfl); (case ne => decide)
    case D8 => (refine' Sv.mk_def KX G ?a ?l ?c ?k); (case a => k_is); (case l => k_is); (case c => k_is); (case k => k_is)
    case D9 => (refine' Sv.mk_def KX G ?a ?l ?c ?k); (case a => k_is); (case l => k_is); (case c => k_is); (case k => k_is)
    case D10 => (refine' Sv.mk_def KX G ?a ?l ?c ?k); (case a => k_is); (case l => k_is); (case c => k_is); (case k => k_is)
    case D11 => (refine' Sv.mk_def KX G ?a ?l ?c ?k); (case a => k_is); (case l => k_is); (case c => k_is); (case k => k_is)
    case D12 => (refine' Sv.mk_def KX G ?a ?l ?c ?k); (case a => k_is); (case l => k_is); (case c => k_is); (case k => k_is)
    case D13 => (refine' Sv.mk_def KX G ?a ?l ?c ?k); (case a => k_is); (case l => k_is); (case c => k_is); (case k => k_is)
    case D14 => (refine' Sv.mk_def KX G ?a ?l ?c ?k); (case a => k_is); (case l => k_is); (case c => k_is); (case k => k_is)
    case D15 => (refine' Sv.mk_def KX G ?a ?l ?c ?k); (case a => k_is); (case l => k_is); (case c => k_is); (case k => k_is)
    case D16 => (refine' Sv.mk_def KX G ?a ?l ?c ?k); (case a => k_is); (case l => k_is); (case c => k_is); (case k => k_is)
    case D17 => (refine' Sv.mk_def KX G ?a ?l ?c ?k); (case a => k_is); (case l => k_is); (case c => k_is); (case k => k_is)
    case D18 => (refine' Sv.mk_def KX G ?a ?l ?c ?k); (case a => k_is); (case l => k_is); (case c => k_is); (case k => k_is)
    case c0 => (refine' Sv.mk_tup KX G ?a ?l ?z ?v); (case a => k_is); (case l => k_is); (case z => decide); (case v => exact (.cons ⟨_, rfl⟩ (.cons ⟨_, rfl⟩ (.cons ⟨_, rfl⟩ (.cons ⟨_, rfl⟩ .nil)))))
    case c1 => (refine' ⟨_, PySem.W.mg_of KX G ?a, ?r⟩); (case a => k_is); (case r => exact ⟨_, rfl⟩)
    case c2 => (refine' ⟨_, PySem.W.mg_of KX G ?a, ?r⟩); (case a => k_is); (case r => exact ⟨_, rfl⟩)
    case c3 => (refine' ⟨_, PySem.W.mg_of KX G ?a, ?r⟩); (case a => k_is); (case r => exact ⟨_, rfl⟩)
    case c4 => (refine' ⟨_, PySem.W.mg_of KX G ?a, ?r⟩); (case a => k_is); (case r => exact ⟨_, rfl⟩)
    case c5 => (refine' ⟨_, PySem.W.mg_of KX G ?a, ?r⟩); (case a => k_is); (case r => exact ⟨_, rfl⟩)
    case c6 => (refine' ⟨_, PySem.W.mg_of KX G ?a, ?r⟩); (case a => k_is); (case r => exact ⟨_, rfl⟩)
    case c7 => (refine' Sv.mk_tup KX G ?a ?l ?z ?v); (case a => k_is); (case l => k_is); (case z => decide); (case v => exact (.cons ⟨_, rfl⟩ (.cons ⟨_, rfl⟩ (.cons ⟨_, rfl⟩ (.cons ⟨_, rfl⟩ (.cons ⟨_, rfl⟩ (.cons ⟨_, rfl⟩ .nil)))))))
    case c8 => (refine' Sv.mk_tup KX G ?a ?l ?z ?v); (case a => k_is); (case l => k_is); (case z => decide); (case v => exact (.cons ⟨_, rfl⟩ (.cons ⟨_, rfl⟩ .nil)))
    case b0 => (refine' PySem.W.mg_none_of KX G ?a); (case a => k_is)
    case b1 => (refine' PySem.W.mg_none_of KX G ?a); (case a => k_is)
    case b2 => (refine' PySem.W.mg_none_of KX G ?a); (case a => k_is)
    case b3 => (refine' PySem.W.mg_none_of KX G ?a); (case a => k_is)
    case b4 => (refine' PySem.W.mg_none_of KX G ?a); (case a => k_is)
    case b5 => (refine' PySem.W.mg_none_of KX G ?a); (case a => k_is)
    case b6 => (refine' PySem.W.mg_none_of KX G ?a); (case a => k_is)
    case b7 => (refine' PySem.W.mg_none_of KX G ?a); (case a => k_is)
    case b8 => (refine' PySem.W.mg_none_of KX G ?a); (case a => k_is)
    case b9 => (refine' PySem.W.mg_none_of KX G ?a); (case a => k_is)
    case b10 => (refine' PySem.W.mg_none_of KX G ?a); (case a => k_is)
    case m0 => (refine' PySem.W.mg_of KX G ?a); (case a => k_is)
    case m1 => (refine' PySem.W.mg_of KX G ?a); (case a => k_is)
    case m2 => (refine' PySem.W.mg_of KX G ?a); (case a => k_is)
    case m3 => (refine' PySem.W.mg_of KX G ?a); (case a => k_is)
    case e0 => (refine' Sv.mk_cdef ?a ?l ?c ?k ?g ?r); (case a => k_is); (case l => k_is); (case c => k_is); (case k => k_is); (case g => k_is); (case r => k_is)
    case e1 => (refine' Sv.mk_mdef ?a ?l ?c ?k ?n); (case a => k_is); (case l => k_is); (case c => k_is); (case k => k_is); (case n => k_is)
    case e2 => (refine' Sv.mk_mdef ?a ?l ?c ?k ?n); (case a => k_is); (case l => k_is); (case c => k_is); (case k => k_is); (case n => k_is)
    case e3 => (refine' Sv.mk_mdef ?a ?l ?c ?k ?n); (case a => k_is); (case l => k_is); (case c => k_is); (case k => k_is); (case n => k_is)
    case e4 => (refine' Sv.mk_mdef ?a ?l ?c ?k ?n); (case a => k_is); (case l => k_is); (case c => k_is); (case k => k_is); (case n => k_is)
    case e5 => (refine' Sv.mk_mdef ?a ?l ?c ?k ?n); (case a => k_is); (case l => k_is); (case c => k_is); (case k => k_is); (case n => k_is)
    case e6 => (refine' Sv.mk_mdef ?a ?l ?c ?k ?n); (case a => k_is); (case l => k_is); (case c => k_is); (case k => k_is); (case n => k_is)
    case e7 => (refine' Sv.mk_mdef ?a ?l ?c ?k ?n); (case a => k_is); (case l => k_is); (case c => k_is); (case k => k_is); (case n => k_is)
    case tx => (constructor <;> first | k_is | kit_is)
