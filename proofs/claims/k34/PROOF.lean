import PyProof.Rows.All
import OpenK.KLine
import KE.RegKIsAll
import KE.KNestM
import KE.KItem
import KE.KFromBytes
import KE.KLam
import KE.KDictOf
import KE.KxBytes
import PyProof.ExcArgs
import PyProof.FitsBits
import Wide.FinOn
import Lean
import PyProof.EqAt
import PyProof.EqKinds
import PyProof.TupleCall
import PyProof.NeData
import PyProof.ZipIter
import PyProof.EnumMake
import KE.BitLaws
import KE.IntBitsLaws
import KE.KIntText
import KE.IntTextLaws
import PyProof.ExcClass3
import PyProof.ExcInit
import PyProof.InstStoreFacts
import PyProof.DictWalks
import KE.KDictList
import PyProof.Rows.SumAny
import PyProof.StrBlockI
import PyProof.SliceStr2
import KE.KRevIter
import PyProof.Rows.GenSrcRange
import PyProof.ListRange
import PyProof.AutoSeq1
import PyProof.ReprHeadsTuple
import PyProof.StrBlock2
import PySem.Challenge.RW_sieve_k34_whole_same_meaning
set_option Elab.async false
set_option linter.all false
set_option maxRecDepth 100000
/- signs: qa = pa_cons, qb0 = upd_same, qc = pss_cons, qd = pa_nil, qe = same_new, qf = pe_int, qg = pss_one, qh = defScope, qi = ps_set, qj = pe_op, qk = pt_cmpR, ql0 = ix_tup -/
abbrev Bsx:=List (Int×Int)
namespace L2
open PySem PySem.Spec PyProof.Rows
abbrev Key:=Sum Int Str
def qji:Key→Value→Bool
  | .inl k,v=>Value.isInt k v
  | .inr x,v=>Value.isStrOf x v
def keyH (w:World):Key→Int
  | .inl k=>hashInt k
  | .inr x=>hashStr w x
theorem qi2:∀ {k:Key} {v:Value},qji k v=true→(∃ i t,k=Sum.inl i∧v=Value.int i t)∨(∃ x t,k=Sum.inr x∧v=Value.str x t)
  | .inl i,v,h=>by
    obtain ⟨t,e⟩:=Value.isInt_shape (k:=i) (v:=v) h;exact .inl ⟨i,t,rfl,e⟩
  | .inr x,v,h=>by
    obtain ⟨t,e⟩:=Value.isStrOf_shape (x:=x) (v:=v) h;exact .inr ⟨x,t,rfl,e⟩
theorem qcs (i:Int)(t:Tok):qji (.inl i) (.int i t)=true:=by simp [qji,Value.isInt]
theorem qbs (x:Str)(t:Tok):qji (.inr x) (.str x t)=true:=by simp [qji,Value.isStrOf]
theorem key_ll (a b:Int):decide ((Sum.inl a:Key)=Sum.inl b)=(a == b):=by
  by_cases e:a=b
  · subst e; simp
  · have h:¬ (Sum.inl a:Key)=Sum.inl b:=fun q=>e (Sum.inl.inj q)
    rw [decide_eq_false h];exact (beq_eq_false_iff_ne.mpr e).symm
theorem key_rr (a b:Str):decide ((Sum.inr a:Key)=Sum.inr b)=decide (a=b):=by
  by_cases e:a=b
  · subst e; simp
  · have h:¬ (Sum.inr a:Key)=Sum.inr b:=fun q=>e (Sum.inr.inj q)
    rw [decide_eq_false h,decide_eq_false e]
theorem key_lr (a:Int)(b:Str):decide ((Sum.inl a:Key)=Sum.inr b)=false:=decide_eq_false (fun q=>nomatch q)
theorem key_rl (a:Str)(b:Int):decide ((Sum.inr a:Key)=Sum.inl b)=false:=decide_eq_false (fun q=>nomatch q)
def qm3 (prog:Program)(w:World):PySem.KeyKind prog w Key where
  is:=qji
  hash:=keyH w
  inj:=fun v a b ha hb=>by
    rcases qi2 ha with ⟨i,t,rfl,rfl⟩ | ⟨x,t,rfl,rfl⟩
    · rcases qi2 hb with ⟨j,u,rfl,e⟩ | ⟨y,u,rfl,e⟩
      · injection e with e1 _; rw [e1]
      · exact nomatch e
    · rcases qi2 hb with ⟨j,u,rfl,e⟩ | ⟨y,u,rfl,e⟩
      · exact nomatch e
      · injection e with e1 _; rw [e1]
  byValue:=fun k v h=>by
    rcases qi2 h with ⟨i,t,rfl,rfl⟩ | ⟨x,t,rfl,rfl⟩ <;> rfl
  pyHash:=fun hv h=>by
    rcases qi2 hv with ⟨i,t,rfl,rfl⟩ | ⟨x,t,rfl,rfl⟩
    · exact wpAny_pyHash_int h
    · exact wpAny_pyHash_str h
  eqBool:=fun hu hv h=>by
    rcases qi2 hu with ⟨i,t,rfl,rfl⟩ | ⟨x,t,rfl,rfl⟩
    · rcases qi2 hv with ⟨j,u,rfl,rfl⟩ | ⟨y,u,rfl,rfl⟩
      · rw [key_ll] at h; exact wpAny_eqBool_int h
      · rw [key_lr] at h; exact SeqAt.EqAt.int_str i t y u _ _ _ _ h
    · rcases qi2 hv with ⟨j,u,rfl,rfl⟩ | ⟨y,u,rfl,rfl⟩
      · rw [key_rl] at h; exact SeqAt.EqAt.str_int x t j u _ _ _ _ h
      · rw [key_rr] at h; exact wpAny_eqBool_str h
  «strs»:=fun k x t v h=>by
    rcases qi2 h with ⟨i,u,rfl,e⟩ | ⟨y,u,rfl,e⟩
    · exact nomatch e
    · injection e with e1 _
      subst e1
      cases v <;> rfl
theorem qco (prog:Program)(w:World)(k:Key)(v:Value):(qm3 prog w).is k v=qji k v:=rfl
theorem qrk (prog:Program)(w:World)(i:Int)(t:Tok):(qm3 prog w).is (.inl i) (.int i t)=true:=qcs i t
theorem qqk (prog:Program)(w:World)(x:Str)(t:Tok):(qm3 prog w).is (.inr x) (.str x t)=true:=qbs x t
end L2
namespace L2
open PySem PySem.Spec PyProof.Rows
variable {b:Addr}{us:List Value}
inductive V where
  | non | bl (b:Bool) | int (i:Int) | str (x:Str) | byt (b:Array UInt8) | flt (b:UInt64) | ref (a:Addr) | ty (n:String)
  deriving DecidableEq
def RelV:V→Value→Prop
  | .non,u=>u=Value.none
  | .bl b,u=>u=Value.bool b
  | .int i,u=>∃ t,u=Value.int i t
  | .str x,u=>∃ t,u=Value.str x t
  | .byt b,u=>∃ t,u=Value.bytes b t
  | .flt b,u=>∃ t,u=Value.float b t
  | .ref a,u=>u=Value.ref a
  | .ty n,u=>u=Value.type n
abbrev Vals:List V→List Value→Prop:=Paired RelV
theorem Vals.length {xs:List V}(r:Vals xs us):xs.length=us.length:=Paired.length r
theorem Vals.get:∀ {xs:List V} {us:List Value} {i:Nat} {x:V},Vals xs us→xs[i]?=some x→∃ u,us[i]?=some u∧RelV x u
  | _,_,_,_,.nil,e=>by simp at e
  | _,_,0,_,.cons r _,e=>by simp at e; subst e; exact ⟨_,rfl,r⟩
  | _,_,i+1,x,.cons _ t,e=>by
    obtain ⟨u,h1,h2⟩:=Vals.get (i:=i) (x:=x) t (by simpa using e);exact ⟨u,by simpa using h1,h2⟩
theorem Vals.set {x:V}{u:Value}(r:RelV x u):∀ {xs:List V} {us:List Value} (i:Nat),Vals xs us→Vals (xs.set i x) (us.set i u)
  | _,_,_,.nil=>.nil
  | _,_,0,.cons _ t=>.cons r t
  | _,_,i+1,.cons q t=>.cons q (Vals.set r i t)
theorem Vals.append:∀ {xs ys:List V} {us ws:List Value},Vals xs us→Vals ys ws→Vals (xs++ys) (us++ws)
  | _,_,_,_,.nil,s=>s
  | _,_,_,_,.cons r t,s=>.cons r (Vals.append t s)
theorem Vals.take:∀ {xs:List V} {us:List Value} (n:Nat),Vals xs us→Vals (xs.take n) (us.take n)
  | _,_,0,_=>.nil
  | _,_,_+1,.nil=>.nil
  | _,_,n+1,.cons r t=>.cons r (Vals.take n t)
theorem Vals.drop:∀ {xs:List V} {us:List Value} (n:Nat),Vals xs us→Vals (xs.drop n) (us.drop n)
  | _,_,0,r=>r
  | _,_,_+1,.nil=>.nil
  | _,_,n+1,.cons _ t=>Vals.drop n t
def RelO:Option V→Option Value→Prop
  | some v,some u=>RelV v u
  | none,none=>True
  | _,_=>False
def KV {κ:Type}:List (κ×V)→List (κ×Value)→Prop:=Paired fun (p:κ×V) (q:κ×Value)=>p.1=q.1∧RelV p.2 q.2
def kV:Key→V
  | .inl i=>.int i
  | .inr x=>.str x
inductive HO where
  | lst (xs:List V)
  | tup (xs:List V)
  | dK (kvs:List (Key×V)) | dT (kvs:List (List Key×V))
  | set (S:Int→Bool) (n:Nat)
  | ins (C dx:Addr) (fs:List (Str×V))
  | own (x:Addr)
  | xd (fs:List (Str×V))
  | met (f x:Addr)
  | rng (lo hi:Int)
  | frz (o:Obj) (u:HO)
  | tbl (ps:Array Value)
  | ext (φ:Heap→Prop)
abbrev Hp:=Addr→Option HO
def upd (H:Hp)(a:Addr)(o:HO):Hp:=fun b=>if b=a then some o else H b
theorem qb0 {H:Hp}{a:Addr}{o:HO}:upd H a o a=some o:=by unfold upd; rw [if_pos rfl]
theorem qt {H:Hp}{a:Addr}{o:HO}(h:b≠a):upd H a o b=H b:=by unfold upd; rw [if_neg h]
theorem qz6 {H:Hp}{a:Addr}{o u:HO}:upd (upd H a o) a u=upd H a u:=by
  funext b; unfold upd; split <;> rfl
theorem qmk {H:Hp}{a:Addr}{o u:HO}(h:H a=some o)(h':H b=some u)(d:o≠u):a≠b:=by
  intro e; subst e; rw [h] at h'; exact d (Option.some.inj h')
theorem qz {H:Hp}{a:Addr}{o:HO}(h:H a=some o)(h':H b=none):a≠b:=by
  intro e; subst e; rw [h] at h'; cases h'
section
variable (P:Program)(w:World)
def ObjOk (H:Hp)(h:Heap)(a:Addr):HO→Prop
  | .lst xs=>xs.length≤sizeLine∧∃ (its:List Value) (n:Nat),Vals xs its∧h.get? a=some { cls:=.type "list",data:=.seq its.toArray n }
  | .tup xs=>xs.length≤sizeLine∧∃ its:List Value,Vals xs its∧IsTup h a its.toArray
  | .dK kvs=>kvs.length≤sizeLine∧(a == sysModules)=false∧∃ vs,KV kvs vs∧h.DictOf (qm3 P w) a vs
  | .dT kvs=>kvs.length≤sizeLine∧(a == sysModules)=false∧∃ xs:List (List Key×Addr×Value),
      Paired (fun (p:List Key×V) (q:List Key×Addr×Value)=>p.1=q.1∧H q.2.1=some (.tup (p.1.map kV))∧RelV p.2 q.2.2) kvs xs ∧
      ∃ o es ep,h.get? a=some o∧o.ExactDict∧o.data=.dict es ep∧es.toList=xs.map (entryOfKey (tupleKind (qm3 P w)))∧(xs.map (·.1)).Nodup
  | .set S n=>h.SetOf (intKind P w) a S n
  | .ins C dx fs=>H dx=some (.own a)∧fs.length≤1000∧dx≠a∧h.get? a=some (PySem.W.instObj C dx) ∧
      ∃ mA,h.Ns1 dx mA∧(∀ f,RelO (fs.lookup f) (mA f))∧PySem.Within mA (fs.map (·.1))
  | .own _=>∃ o,h.get? a=some o
  | .xd fs=>∃ mA,h.Ns1 a mA∧∀ f,RelO (fs.lookup f) (mA f)
  | .rng lo hi=>∃ t u v,h.get? a=some { cls:=.type "range",data:=.fields #[.int lo t,.int hi u,.int 1 v] }
  | .frz o u=>h.get? a=some o∧ObjOk H h a u
  | .tbl ps=>h.get? a=some { cls:=.none,data:=.fields ps }
  | .met f x=>h.get? a=some (PySem.W.methodObj (.ref f) (.ref x))
  | .ext φ=>φ h∧(∃ o,h.get? a=some o)∧∀ h1 h2:Heap,φ h1→(∀ o,h1.get? a=some o→h2.get? a=some o)→φ h2
def HOk (H:Hp)(h:Heap):Prop:=∀ a o,H a=some o→ObjOk P w H h a o
end
section
variable {P:Program}{w:World}{H H':Hp}{h h':Heap}{a:Addr}{o:HO}
theorem ObjOk.lt (x:ObjOk P w H h a o):a<h.objs.size:=by
  cases o with
  | lst xs=>obtain ⟨_,_,_,_,e⟩:=x; exact Heap.lt_size e
  | tup xs=>obtain ⟨_,_,_,p⟩:=x; exact p.lt
  | dK kvs=>obtain ⟨_,_,_,_,o,_,_,e,_⟩:=x; exact Heap.lt_size e
  | dT kvs=>obtain ⟨_,_,_,_,o,_,_,e,_⟩:=x; exact Heap.lt_size e
  | set S n=>obtain ⟨o,_,_,_,e,_⟩:=x; exact Heap.lt_size e
  | ins C dx fs=>obtain ⟨_,_,_,e,_⟩:=x; exact Heap.lt_size e
  | own y=>obtain ⟨_,e⟩:=x; exact Heap.lt_size e
  | xd fs=>obtain ⟨_,⟨_,_,_,e,_⟩,_⟩:=x; exact Heap.lt_size e
  | rng lo hi=>obtain ⟨_,_,_,e⟩:=x; exact Heap.lt_size e
  | frz ob u=>obtain ⟨e,_⟩:=x; exact Heap.lt_size e
  | tbl ps=>exact Heap.lt_size (show h.get? a=some _ from x)
  | met f y=>exact Heap.lt_size (show h.get? a=some _ from x)
  | ext φ=>obtain ⟨_,⟨_,e⟩,_⟩:=x; exact Heap.lt_size e
theorem Paired.mapP {α β:Type}{F G:α→β→Prop}:∀ {l₁:List α} {l₂:List β},Paired F l₁ l₂→(∀ a b,F a b→G a b)→Paired G l₁ l₂
  | _,_,.nil,_=>.nil
  | _,_,.cons r t,f=>.cons (f _ _ r) (Paired.mapP t f)
theorem ObjOk.stay (x:ObjOk P w H h a o)(k:∀ b u,(b=a∨H b=some (.own a))→h.get? b=some u→h'.get? b=some u)
    (ho:∀ b,H b=some (.own a)→H' b=some (.own a)) (ht:∀ b xs,H b=some (.tup xs)→H' b=some (.tup xs)):ObjOk P w H' h' a o:=by
  induction o with
  | lst xs=>obtain ⟨z,its,n,r,e⟩:=x; exact ⟨z,its,n,r,k _ _ (.inl rfl) e⟩
  | tup xs=>obtain ⟨z,its,r,ob,e,c⟩:=x; exact ⟨z,its,r,ob,k _ _ (.inl rfl) e,c⟩
  | dK kvs=>obtain ⟨z,y,vs,r,ob,es,ep,e,c⟩:=x; exact ⟨z,y,vs,r,ob,es,ep,k _ _ (.inl rfl) e,c⟩
  | dT kvs =>
    obtain ⟨z,y,xs,r,ob,es,ep,e,c⟩:=x;exact ⟨z,y,xs,Paired.mapP r fun p q z=>⟨z.1,ht _ _ z.2.1,z.2.2⟩,ob,es,ep,k _ _ (.inl rfl) e,c⟩
  | set S n=>obtain ⟨ob,es,ep,t,e,c⟩:=x; exact ⟨ob,es,ep,t,k _ _ (.inl rfl) e,c⟩
  | ins C dx fs =>
    obtain ⟨d,z,ne,e,mA,⟨od,es,ep,e2,c⟩,r⟩:=x;exact ⟨ho _ d,z,ne,k _ _ (.inl rfl) e,mA,⟨od,es,ep,k _ _ (.inr d) e2,c⟩,r⟩
  | own y=>obtain ⟨ob,e⟩:=x; exact ⟨ob,k _ _ (.inl rfl) e⟩
  | xd fs=>obtain ⟨mA,⟨od,es,ep,e,c⟩,r⟩:=x; exact ⟨mA,⟨od,es,ep,k _ _ (.inl rfl) e,c⟩,r⟩
  | rng lo hi=>obtain ⟨t,u,v,e⟩:=x; exact ⟨t,u,v,k _ _ (.inl rfl) e⟩
  | frz ob u ih=>obtain ⟨e,q⟩:=x; exact ⟨k _ _ (.inl rfl) e,ih q⟩
  | tbl ps =>
    have e:h.get? a=some { cls:=.none,data:=.fields ps }:=x;show h'.get? a=some { cls:=.none,data:=.fields ps };exact k a _ (.inl rfl) e
  | met f y =>
    have e:h.get? a=some (PySem.W.methodObj (.ref f) (.ref y)):=x;show h'.get? a=some (PySem.W.methodObj (.ref f) (.ref y));exact k a _ (.inl rfl) e
  | ext φ=>obtain ⟨p,⟨o,e⟩,st⟩:=x; exact ⟨st _ _ p fun o q=>k _ _ (.inl rfl) q,⟨o,k _ _ (.inl rfl) e⟩,st⟩
theorem HOk.lt (x:HOk P w H h)(e:H a=some o):a<h.objs.size:=(x a o e).lt
theorem HOk.fresh (x:HOk P w H h)(e:h.objs.size≤a):H a=none:=by
  cases q:H a with
  | none=>rfl
  | some u=>exact absurd (Nat.lt_of_lt_of_le (x.lt q) e) (Nat.lt_irrefl _)
theorem HOk.kept (x:HOk P w H h)(k:∀ b u,h.get? b=some u→h'.get? b=some u):HOk P w H h':=fun a o e =>
  (x a o e).stay (fun b u _ q=>k b u q) (fun _ q=>q) fun _ _ q=>q
theorem HOk.laid (x:HOk P w H h)(k:∀ b u,h.get? b=some u→h'.get? b=some u)(hp:h.objs.size≤a)(new:ObjOk P w (upd H a o) h' a o):HOk P w (upd H a o) h':=fun b u e=>by
  have hn:=x.fresh hp
  by_cases hb:b=a
  · subst hb; rw [qb0] at e; cases e; exact new
  · rw [qt hb] at e
    exact (x b u e).stay (fun c v _ q=>k c v q) (fun c q=>by rw [qt (qz q hn)]; exact q) fun c xs q=>by rw [qt (qz q hn)]; exact q
end
def Rd (H:Hp)(a:Addr)(u:HO):Prop:=H a=some u∨∃ o,H a=some (.frz o u)
theorem Rd.of {H:Hp}{a:Addr}{u:HO}(h:H a=some u):Rd H a u:=.inl h
theorem Rd.ok {P:Program}{w:World}{H:Hp}{h:Heap}{a:Addr}{u:HO}(r:Rd H a u)(x:HOk P w H h):ObjOk P w H h a u:=by
  rcases r with r | ⟨o,r⟩
  · exact x a u r
  · obtain ⟨_,q⟩:=x a _ r
    exact q
def Mut:Option HO→Prop
  | some (.lst _)=>True
  | some (.dK _)=>True
  | some (.dT _)=>True
  | some (.set _ _)=>True
  | some (.ins _ _ _)=>True
  | some (.ext _)=>True
  | _=>False
section
variable {P:Program}{w:World}{H:Hp}{h h':Heap}{x e:Addr}{o':HO}
theorem HOk.write (ok:HOk P w H h)(mu:Mut (H x))(he:e=x∨H e=some (.own x))(k:∀ b u,b≠e→h.get? b=some u→h'.get? b=some u)(heo:∃ u,h'.get? e=some u)
    (new:ObjOk P w (upd H x o') h' x o'):HOk P w (upd H x o') h':=fun b u q=>by
  have nown:∀ c y,H c=some (.own y)→c≠x:=fun c y r z=>by subst z; rw [r] at mu; exact mu
  have ntup:∀ c xs,H c=some (.tup xs)→c≠x:=fun c xs r z=>by subst z; rw [r] at mu; exact mu
  by_cases hb:b=x
  · subst hb; rw [qb0] at q; cases q; exact new
  · rw [qt hb] at q
    by_cases hbe:b=e
    · have q':H b=some (.own x):=by
        rcases he with z | z
        · exact absurd (hbe.trans z) hb
        · rw [hbe]; exact z
      rw [q] at q'; cases q';obtain ⟨v,hv⟩:=heo;exact ⟨v,by rw [hbe]; exact hv⟩
    · refine (ok b u q).stay (fun c v hc r=>k c v ?_ r) (fun c r=>by rw [qt (nown c b r)]; exact r) fun c xs r=>by rw [qt (ntup c xs r)]; exact r
      rcases hc with rfl | hc
      · exact hbe
      · rintro rfl
        rcases he with z | z
        · exact nown c b hc z
        · rw [hc] at z; cases z; exact hb rfl
end
structure Un (fs ex:List Addr)(H H':Hp)(h h':Heap):Prop where
  keep:∀ b o,h.get? b=some o→H b=none→b∉fs→b∉ex→h'.get? b=some o
  slot:∀ b o,h.get? b=some o→H b=none→b∈fs→b∉ex→∃ sl,h'.get? b=some { o with slots:=sl }
  free:∀ b o,h.get? b=some o→H b=none→b∉ex→H' b=none
  there:∀ b o,h.get? b=some o→b∉ex→∃ o',h'.get? b=some o'
  tups:∀ b xs,H b=some (.tup xs)→H' b=some (.tup xs)
  frzs:∀ b o u,H b=some (.frz o u)→H' b=some (.frz o u)
  tbls:∀ b ps,H b=some (.tbl ps)→∃ more,H' b=some (.tbl (ps++more))
section
variable {fs fs' ex ex':List Addr}{H H1 H2:Hp}{h h1 h2 h':Heap}{a x e:Addr}{o:HO}
theorem Un.any (u:Un fs ex H H1 h h1){ob:Obj}(q:h.get? b=some ob)(n:H b=none)(hx:b∉ex):∃ sl,h1.get? b=some { ob with slots:=sl }:=by
  by_cases hb:b∈fs
  · exact u.slot b ob q n hb hx
  · exact ⟨ob.slots,u.keep b ob q n hb hx⟩
theorem Un.trans (a:Un fs ex H H1 h h1)(b:Un fs ex H1 H2 h1 h2):Un fs ex H H2 h h2 where
  keep:=fun c ob q n hc hx=>b.keep c ob (a.keep c ob q n hc hx) (a.free c ob q n hx) hc hx
  slot:=fun c ob q n hc hx=>by
    obtain ⟨sl,e1⟩:=a.slot c ob q n hc hx;obtain ⟨sl',e2⟩:=b.slot c _ e1 (a.free c ob q n hx) hc hx;exact ⟨sl',e2⟩
  free:=fun c ob q n hx=>by
    obtain ⟨o',e1⟩:=a.there c ob q hx;exact b.free c o' e1 (a.free c ob q n hx) hx
  there:=fun c ob q hx=>by
    obtain ⟨o',e1⟩:=a.there c ob q hx;exact b.there c o' e1 hx
  tups:=fun c xs q=>b.tups c xs (a.tups c xs q)
  frzs:=fun c ob xs q=>b.frzs c ob xs (a.frzs c ob xs q)
  tbls:=fun c ps q=>by
    obtain ⟨m1,e1⟩:=a.tbls c ps q;obtain ⟨m2,e2⟩:=b.tbls c _ e1;exact ⟨m1++m2,by rw [e2,Array.append_assoc]⟩
theorem Un.kept (k:∀ b u,h.get? b=some u→h'.get? b=some u):Un fs ex H H h h' :=
  ⟨fun b ob q _ _ _=>k b ob q,fun b ob q _ _ _=>⟨ob.slots,k b ob q⟩,fun _ _ _ n _=>n,fun b ob q _=>⟨ob,k b ob q⟩,fun _ _ q=>q,fun _ _ _ q=>q,fun _ ps q=>⟨#[],by rw [q]; simp⟩⟩
theorem Un.refl:Un fs ex H H h h:=Un.kept fun _ _ q=>q
theorem Un.laid (k:∀ b u,h.get? b=some u→h'.get? b=some u)(hp:h.objs.size≤a)(hn:H a=none):Un fs ex H (upd H a o) h h' where
  keep:=fun b u q _ _ _=>k b u q
  slot:=fun b u q _ _ _=>⟨u.slots,k b u q⟩
  free:=fun b u q n _=>by rw [qt (Nat.ne_of_lt (Nat.lt_of_lt_of_le (Heap.lt_size q) hp))]; exact n
  there:=fun b u q _=>⟨u,k b u q⟩
  tups:=fun b xs q=>by rw [qt (qz q hn)]; exact q
  frzs:=fun b u xs q=>by rw [qt (qz q hn)]; exact q
  tbls:=fun b ps q=>⟨#[],by rw [qt (qz q hn),q]; simp⟩
theorem Un.write (mu:Mut (H x))(he:e=x∨H e=some (.own x))(k:∀ b u,b≠e→h.get? b=some u→h'.get? b=some u)(heo:∃ u,h'.get? e=some u):Un fs ex H (upd H x o) h h':=by
  have hx:∀ b,H b=none→b≠x:=fun b n z=>by subst z; rw [n] at mu; exact mu
  have hb:∀ b,H b=none→b≠e:=fun b n z=>by
    subst z
    rcases he with r | r
    · exact hx b n r
    · rw [n] at r; cases r
  have hm:∀ b u,H b=some u→¬ Mut (some u)→b≠x:=fun b u q nm z=>by subst z; rw [q] at mu; exact nm mu
  refine ⟨fun b u q n _ _=>k b u (hb b n) q,fun b u q n _ _=>⟨u.slots,k b u (hb b n) q⟩,fun b u q n _=>by rw [qt (hx b n)]; exact n,fun b u q _=>?_,
    fun b xs q=>by rw [qt (hm b _ q fun z=>z)]; exact q,fun b u xs q=>by rw [qt (hm b _ q fun z=>z)]; exact q,fun b ps q=>⟨#[],by rw [qt (hm b _ q fun z=>z),q]; simp⟩⟩
  by_cases hbe:b=e
  · subst hbe; exact heo
  · exact ⟨u,k b u hbe q⟩
end
def trk (h:Heap)(H:Hp):List Addr:=(List.range h.objs.size).filter fun a=>(H a).isSome
def hidT (h:Heap)(H:Hp):Heap:=W.hideAll h (trk h H)
theorem qms (h:Heap)(H:Hp):(hidT h H).objs.size=h.objs.size:=W.hideAll_size _ _
theorem qkw {h:Heap}{H:Hp}{o:Obj}(e:h.get? b=some o)(n:H b=none):(hidT h H).get? b=some o :=
  PySem.W.hideAll_get _ e fun hm=>by
    have q:(H b).isSome=true:=(List.mem_filter.mp hm).2;rw [n] at q; simp at q
theorem of_hidT {h:Heap}{H:Hp}{o:Obj}(e:(hidT h H).get? b=some o):h.get? b=some o∧H b=none:=by
  have e':h.get? b=some o:=PySem.W.of_hideAll (trk h H) e;refine ⟨e',?_⟩
  cases q:H b with
  | none=>rfl
  | some x =>
    have hm:b∈trk h H:=List.mem_filter.mpr ⟨List.mem_range.mpr (Heap.lt_size e'),by simp [q]⟩;have z:(hidT h H).get? b=none:=PySem.W.hideAll_none (trk h H) hm;rw [z] at e; cases e
def allNews (g h:Heap)(L:Addr):List (Addr×Obj):=(List.range h.objs.size).filterMap fun a=>if a=L∨(g.get? a).isSome=true then none else (h.get? a).map fun o=>(a,o)
def rest (g h:Heap)(L d:Addr):List (Addr×Obj):=(allNews g h L).filter fun p=>decide (p.1≠d)
end L2
namespace L2
open PySem PySem.Spec PyProof.Rows
variable {E:Value→Shared→Prop}{a:Addr}{pins':List (Addr×Obj)}{t':Nat}
structure Mod (K:W.Frag)(mg:Str→Option Value)(base:Heap):Prop where
  kin:K.In base
  glob:base.Ns mainGlobals mg
  blt:∃ mb,base.Ns builtinsNs mb∧∀ x:Str,x≠"__name__"→mb x=bootBuiltins x
  nolimit:base.NoLimit
structure Cx where
  prog:Program
  w:World
  K:PySem.W.Frag
  mg:Str→Option Value
  base:Heap
  A:Around
  N:List Str
  s₀:Shared
  H₀:Hp
  env:Env
  outer:List Env
  stack:List Env
  ex:List Addr
  fn:Str→Bool
  calm:Bool
  pn:List (Addr×Obj)
  xe:Value→Shared→Prop
def frs (l:List Env):List Addr:=l.filterMap (·.frame)
abbrev Cx.fs (X:Cx):List Addr:=frs X.outer
def Vis (sc:Scope)(x:Str):Prop:=sc.names.lookup x=some .local∨sc.names.lookup x=some .cell∨sc.names.lookup x=some .free
def Loc (sc:Scope)(x:Str):Prop:=sc.names.lookup x=some .local∨sc.names.lookup x=some .cell
def Look (env:Env)(h:Heap)(m:Str→Option Value)(x:Str)(u:Value):Prop :=
  (env.kindOf x=some .local∧m x=some u)∨((env.kindOf x=some .cell∨env.kindOf x=some .free)∧∃ c,env.cells.lookup x=some c∧h.IsCell c (some u))
structure Cx.Ok (X:Cx):Prop where
  mod:Mod X.K X.mg X.base
  kind:X.env.scope.kind=.function
  glob:X.env.globals=mainGlobals
  blt:X.env.builtins=builtinsNs
  above:X.s₀.heap.objs.size≤X.env.locals
  inj:∀ x y c,X.env.cells.lookup x=some c→X.env.cells.lookup y=some c→x=y
  has:∀ x,(X.env.kindOf x=some .cell∨X.env.kindOf x=some .free)→∃ c,X.env.cells.lookup x=some c
  cab:∀ x c,X.fn x=true→X.env.cells.lookup x=some c→X.s₀.heap.objs.size≤c
  hd:X.calm=true→X.A.handled=none
  frames:X.A.frames=some X.stack
  stk:X.stack=X.outer∨(X.stack=X.env::X.outer∧X.env.frame=some X.env.locals)
  exf:∀ b∈X.ex,b≠X.env.locals∧∀ x c,X.env.cells.lookup x=some c→c≠b
  bs:∀ b o,X.base.get? b=some o→X.s₀.heap.get? b=some o∧X.H₀ b=none
  bsz:X.base.objs.size≤X.s₀.heap.objs.size
  noex:∀ b o,X.base.get? b=some o→b∉X.ex
  exfs:∀ b∈X.ex,b∉X.fs
  funs:X.s₀.heap.FunFrames X.base X.outer
  frf:∀ b∈X.fs,X.H₀ b=none
structure Inv (X:Cx)(pins:List (Addr×Obj))(σ:List (Option V))(H:Hp)(s:Shared):Prop where
  ok:X.Ok
  os:s.os=X.s₀.os
  bare:AllBare s.gens
  base:Un X.fs X.ex X.H₀ H X.s₀.heap s.heap
  loc:∃ m,s.heap.Ns X.env.locals m∧∀ (i:Nat) (x:Str) (v:V),X.N[i]?=some x→σ[i]?=some (some v)→Vis X.env.scope x→∃ u,RelV v u∧Look X.env s.heap m x u
  cell:∀ x c,X.env.cells.lookup x=some c→∃ v,s.heap.IsCell c v
  free:H X.env.locals=none
  freeC:∀ x c,X.env.cells.lookup x=some c→H c=none
  pin:∀ p∈X.pn++pins,s.heap.get? p.1=some p.2∧H p.1=none∧p.1≠X.env.locals∧p.1∉X.fs∧∀ v,p.2.data≠.cell v
  hok:HOk X.prog X.w H s.heap
  len:σ.length=X.N.length
section
variable {X:Cx}{pins:List (Addr×Obj)}{σ:List (Option V)}{H H':Hp}{s:Shared}{h':Heap}
theorem Cx.Ok.nofr (ok:X.Ok){b:Addr}{o:Obj}(e:X.base.get? b=some o):b∉X.fs:=fun hb=>by
  have:=(ok.funs.mem hb).1;rw [e] at this; cases this
theorem Inv.bs (I:Inv X pins σ H s):∀ b o,X.base.get? b=some o→s.heap.get? b=some o∧H b=none:=fun b o e =>
  ⟨I.base.keep b o (I.ok.bs b o e).1 (I.ok.bs b o e).2 (I.ok.nofr e) (I.ok.noex b o e),I.base.free b o (I.ok.bs b o e).1 (I.ok.bs b o e).2 (I.ok.noex b o e)⟩
theorem Inv.bk (I:Inv X pins σ H s):∀ b o,X.base.get? b=some o→s.heap.get? b=some o:=fun b o e=>(I.bs b o e).1
theorem Inv.mod (I:Inv X pins σ H s):Mod X.K X.mg X.base:=I.ok.mod
theorem Inv.kIn (I:Inv X pins σ H s):X.K.In s.heap:=I.ok.mod.kin.keeps I.bk
theorem Inv.fr (I:Inv X pins σ H s):∃ m,Fr X.base X.env.locals s.heap m :=
  let ⟨m,hn,_⟩:=I.loc
  ⟨m,hn,I.bk,Nat.le_trans I.ok.bsz I.ok.above⟩
theorem Inv.lt (I:Inv X pins σ H s):X.env.locals<s.heap.objs.size:=let ⟨_,hn,_⟩:=I.loc; hn.lt
theorem Inv.sz (I:Inv X pins σ H s):X.s₀.heap.objs.size≤s.heap.objs.size:=Nat.le_trans I.ok.above (Nat.le_of_lt I.lt)
theorem Inv.nofs (I:Inv X pins σ H s)(h:s.heap.objs.size≤a):a∉X.fs:=fun hb=>by
  obtain ⟨_,o,ho,_⟩:=I.ok.funs.mem hb;exact absurd (Nat.lt_of_lt_of_le (Heap.lt_size ho) (Nat.le_trans I.sz h)) (Nat.lt_irrefl _)
theorem Inv.cne (I:Inv X pins σ H s):∀ x c,X.env.cells.lookup x=some c→c≠X.env.locals:=fun x c e z=>by
  obtain ⟨v,o,ho,hd⟩:=I.cell x c e;obtain ⟨m,⟨o',es,ep,ho',hd',_⟩,_⟩:=I.loc;rw [z,ho'] at ho; cases ho; rw [hd'] at hd; cases hd
theorem Inv.funs (I:Inv X pins σ H s):s.heap.FunFrames X.base X.outer:=by
  have all:∀ (l:List Env),(∀ b∈frs l,b∈X.fs)→X.s₀.heap.FunFrames X.base l→s.heap.FunFrames X.base l:=by
    intro l
    induction l with
    | nil=>intro _ _; trivial
    | cons env r ih =>
      intro hs hl;obtain ⟨hk,⟨L,o,hf,hn,ho,hd⟩,hr⟩:=hl;have hL:L∈X.fs:=hs L (by unfold frs; rw [List.filterMap_cons,hf]; exact List.mem_cons_self);obtain ⟨sl,e⟩:=I.base.slot L o ho (I.ok.frf L hL) hL fun z=>I.ok.exfs L z hL;exact ⟨hk,⟨L,_,hf,hn,e,hd⟩,ih (fun b hb=>hs b (by unfold frs; rw [List.filterMap_cons,hf]; exact List.mem_cons_of_mem _ hb)) hr⟩
  exact all X.outer (fun _ hb=>hb) I.ok.funs
theorem Inv.stack (I:Inv X pins σ H s):s.heap.FunFrames X.base X.stack:=by
  rcases I.ok.stk with e | ⟨e,hf⟩
  · rw [e]; exact I.funs
  · rw [e]
    obtain ⟨m,hn,_⟩:=I.loc;refine .cons (by rw [I.ok.kind]; decide) hf hn ?_ I.funs;exact Heap.get?_none_of_le (Nat.le_trans I.ok.bsz I.ok.above)
theorem Inv.stkSub (I:Inv X pins σ H s):∀ b∈frs X.stack,b∈X.env.locals::X.fs:=fun b hb=>by
  rcases I.ok.stk with e | ⟨e,hf⟩
  · rw [e] at hb; exact List.mem_cons_of_mem _ hb
  · rw [e] at hb
    unfold frs at hb;rw [List.filterMap_cons,hf] at hb;exact hb
theorem Inv.stkFree (I:Inv X pins σ H s):∀ b∈frs X.stack,H b=none:=fun b hb=>by
  rcases List.mem_cons.mp (I.stkSub b hb) with e | hb
  · rw [e]; exact I.free
  · obtain ⟨_,o,ho,_⟩:=I.ok.funs.mem hb
    exact I.base.free b o ho (I.ok.frf b hb) fun z=>I.ok.exfs b z hb
theorem Inv.step {g':Array GenState}{t':Nat}{d':Drawn}{ch:List Addr}(I:Inv X pins σ H s)
    (hch:∀ b∈ch,(b∈X.ex∨X.s₀.heap.objs.size≤b)∧b≠X.env.locals∧(∀ x c,X.env.cells.lookup x=some c→c≠b)∧∀ p∈X.pn++pins,p.1≠b)
    (keep:∀ b o,b≠X.env.locals→b∉X.fs→b∉ch→s.heap.get? b=some o→H b=none→h'.get? b=some o)
    (slot:∀ b o,b≠X.env.locals→b∈X.fs→b∉ch→s.heap.get? b=some o→H b=none→∃ sl,h'.get? b=some { o with slots:=sl }) (free:∀ b o,b∉ch→s.heap.get? b=some o→H b=none→H' b=none)
    (there:∀ b o,b∉ch→s.heap.get? b=some o→∃ o',h'.get? b=some o')
    (tups:∀ b xs,H b=some (.tup xs)→H' b=some (.tup xs)) (frzs:∀ b o u,H b=some (.frz o u)→H' b=some (.frz o u)) (tbls:∀ b ps,H b=some (.tbl ps)→∃ more,H' b=some (.tbl (ps++more)))
    (ns:∀ m,s.heap.Ns X.env.locals m→h'.Ns X.env.locals m) (hok:HOk X.prog X.w H' h') (hg:AllBare g') :
    Inv X pins σ H' { s with heap:=h',gens:=g',drawn:=d',toks:=t' }:=by
  have neL:∀ b o,X.s₀.heap.get? b=some o→b≠X.env.locals:=fun b o e=>Nat.ne_of_lt (Nat.lt_of_lt_of_le (Heap.lt_size e) I.ok.above)
  have neC:∀ b o,X.s₀.heap.get? b=some o→b∉X.ex→b∉ch:=fun b o e hx hb=>by
    rcases (hch b hb).1 with z | z
    · exact hx z
    · exact absurd (Nat.lt_of_lt_of_le (Heap.lt_size e) z) (Nat.lt_irrefl _)
  have cellK:∀ x c,X.env.cells.lookup x=some c→∀ v,s.heap.IsCell c v→h'.IsCell c v:=fun x c e v ⟨o,ho,hd⟩=>by
    have nch:c∉ch:=fun z=>(hch c z).2.2.1 x c e rfl
    by_cases hc:c∈X.fs
    · obtain ⟨sl,q⟩:=slot c o (I.cne x c e) hc nch ho (I.freeC x c e)
      exact ⟨_,q,hd⟩
    · exact ⟨o,keep c o (I.cne x c e) hc nch ho (I.freeC x c e),hd⟩
  refine ⟨I.ok,I.os,hg,⟨fun b o e n hb hx=>?_,fun b o e n hb hx=>?_,fun b o e n hx=>?_,fun b o e hx=>?_,fun b xs e=>tups b xs (I.base.tups b xs e),fun b o xs e=>frzs b o xs (I.base.frzs b o xs e),fun b ps e=>?_⟩,?_,fun x c e=>?_,?_,fun x c e=>?_,fun p hp=>?_,hok,I.len⟩
  · exact keep b o (neL b o e) hb (neC b o e hx) (I.base.keep b o e n hb hx) (I.base.free b o e n hx)
  · obtain ⟨sl,e1⟩:=I.base.slot b o e n hb hx
    obtain ⟨sl',e2⟩:=slot b _ (neL b o e) hb (neC b o e hx) e1 (I.base.free b o e n hx);exact ⟨sl',e2⟩
  · obtain ⟨o',e1⟩:=I.base.there b o e hx
    exact free b o' (neC b o e hx) e1 (I.base.free b o e n hx)
  · obtain ⟨o',e1⟩:=I.base.there b o e hx
    exact there b o' (neC b o e hx) e1
  · obtain ⟨m1,e1⟩:=I.base.tbls b ps e
    obtain ⟨m2,e2⟩:=tbls b _ e1;exact ⟨m1++m2,by rw [e2,Array.append_assoc]⟩
  · obtain ⟨m,hn,hl⟩:=I.loc
    refine ⟨m,ns m hn,fun i x v e1 e2 e3=>?_⟩;obtain ⟨u,r,l⟩:=hl i x v e1 e2 e3;refine ⟨u,r,?_⟩
    rcases l with l | ⟨k,c,e,z⟩
    · exact .inl l
    · exact .inr ⟨k,c,e,cellK x c e _ z⟩
  · obtain ⟨v,z⟩:=I.cell x c e
    exact ⟨v,cellK x c e v z⟩
  · obtain ⟨m,⟨o,_,_,ho,_⟩,_⟩:=I.loc
    exact free _ o (fun z=>(hch _ z).2.1 rfl) ho I.free
  · obtain ⟨v,o,ho,hd⟩:=I.cell x c e
    exact free c o (fun z=>(hch c z).2.2.1 x c e rfl) ho (I.freeC x c e)
  · obtain ⟨e,n,ne,nf,d⟩:=I.pin p hp
    have nch:p.1∉ch:=fun z=>(hch p.1 z).2.2.2 p hp rfl;exact ⟨keep p.1 p.2 ne nf nch e n,free p.1 p.2 nch e n,ne,nf,d⟩
theorem Inv.un (I:Inv X pins σ H s)(u:Un X.fs [] H H' s.heap h')(hok:HOk X.prog X.w H' h'):Inv X pins σ H' { s with heap:=h',toks:=t' }:=by
  obtain ⟨m,⟨o,es,ep,ho,r⟩,_⟩:=id I.loc;obtain ⟨sl,hL⟩:=u.any ho I.free (by simp)
  exact I.step (g':=s.gens) (d':=s.drawn) (ch:=[]) (fun _ z=>nomatch z) (fun b o _ hb _ e n=>u.keep b o e n hb (by simp)) (fun b o _ hb _ e n=>u.slot b o e n hb (by simp)) (fun b o _ e n=>u.free b o e n (by simp)) (fun b o _ e=>u.there b o e (by simp)) u.tups u.frzs u.tbls (fun m' hm=>by
    obtain ⟨o',es',ep',ho',r'⟩:=hm;rw [ho] at ho'; cases ho'
    exact ⟨_,es',ep',hL,r'⟩) hok I.bare
theorem Inv.call {g':Array GenState}{t':Nat}{d':Drawn}{ch:List Addr}(I:Inv X pins σ H s)(u:Un (frs X.stack) ch H H' s.heap h')(hok:HOk X.prog X.w H' h')(hg:AllBare g')
    (hch:∀ b∈ch,(b∈X.ex∨X.s₀.heap.objs.size≤b)∧b≠X.env.locals∧(∀ x c,X.env.cells.lookup x=some c→c≠b)∧∀ p∈X.pn++pins,p.1≠b) :
    Inv X pins σ H' { s with heap:=h',gens:=g',drawn:=d',toks:=t' }:=by
  obtain ⟨m,⟨o,es,ep,ho,r⟩,_⟩:=id I.loc;obtain ⟨sl,hL⟩:=u.any ho I.free fun z=>(hch _ z).2.1 rfl
  exact I.step (ch:=ch) hch (fun b o hL hb hc e n=>u.keep b o e n (fun z=>(List.mem_cons.mp (I.stkSub b z)).elim hL hb) hc) (fun b o _ _ hc e n=>u.any e n hc) (fun b o hc e n=>u.free b o e n hc) (fun b o hc e=>u.there b o e hc) u.tups u.frzs u.tbls (fun m' hm=>by
    obtain ⟨o',es',ep',ho',r'⟩:=hm;rw [ho] at ho'; cases ho'
    exact ⟨_,es',ep',hL,r'⟩) hok hg
theorem Inv.turned {t':Nat}{it:Addr}(I:Inv X pins σ H s)(k:∀ b o,b≠it→s.heap.get? b=some o→h'.get? b=some o)(hn:H it=none)(hL:it≠X.env.locals)
    (h1:it∈X.ex∨X.s₀.heap.objs.size≤it) (h2:∀ x c,X.env.cells.lookup x=some c→c≠it) (h3:∀ p∈X.pn++pins,p.1≠it):Inv X pins σ H { s with heap:=h',toks:=t' }:=by
  have nit:∀ b u,H b=some u→b≠it:=fun b u e z=>by rw [z,hn] at e; cases e
  refine I.step (g':=s.gens) (d':=s.drawn) (ch:=[it]) (fun b hb=>?_) (fun b o _ _ hc e _=>k b o (fun z=>hc (by simp [z])) e) (fun b o _ _ hc e _=>⟨o.slots,k b o (fun z=>hc (by simp [z])) e⟩) (fun _ _ _ _ n=>n)
    (fun b o hc e=>⟨o,k b o (fun z=>hc (by simp [z])) e⟩) (fun _ _ e=>e) (fun _ _ _ e=>e) (fun b ps e=>⟨#[],by rw [e]; simp⟩) (fun m hm=>?_) (fun b u e=>?_) I.bare
  · have e:b=it:=by simpa using hb
    subst e;exact ⟨h1,hL,h2,h3⟩
  · obtain ⟨o,es,ep,ho,r⟩:=hm
    exact ⟨o,es,ep,k _ o (Ne.symm hL) ho,r⟩
  · refine (I.hok b u e).stay (fun c v hc q=>k c v ?_ q) (fun _ q=>q) fun _ _ q=>q
    rcases hc with z | z
    · rw [z]; exact nit b u e
    · exact nit c _ z
theorem Inv.tok (I:Inv X pins σ H s)(t:Nat):Inv X pins σ H { s with toks:=t }:=I.un (h':=s.heap) (t':=t) Un.refl I.hok
theorem Inv.kept (I:Inv X pins σ H s)(k:∀ b u,s.heap.get? b=some u→h'.get? b=some u):Inv X pins σ H { s with heap:=h',toks:=t' }:=I.un (Un.kept k) (I.hok.kept k)
theorem Inv.laid {o:HO}(I:Inv X pins σ H s)(k:∀ b u,s.heap.get? b=some u→h'.get? b=some u)(hp:s.heap.objs.size≤a)(new:ObjOk X.prog X.w (upd H a o) h' a o) :
    Inv X pins σ (upd H a o) { s with heap:=h',toks:=t' }:=I.un (Un.laid k hp (I.hok.fresh hp)) (I.hok.laid k hp new)
theorem Inv.write {x e:Addr}{o:HO}{t':Nat}(I:Inv X pins σ H s)(mu:Mut (H x))(he:e=x∨H e=some (.own x))(k:∀ b u,b≠e→s.heap.get? b=some u→h'.get? b=some u)(heo:∃ u,h'.get? e=some u)
    (new:ObjOk X.prog X.w (upd H x o) h' x o):Inv X pins σ (upd H x o) { s with heap:=h',toks:=t' }:=I.un (Un.write mu he k heo) (I.hok.write mu he k heo new)
theorem Inv.pins_of (I:Inv X pins σ H s)(h:∀ p∈pins',s.heap.get? p.1=some p.2∧H p.1=none∧p.1≠X.env.locals∧p.1∉X.fs∧∀ v,p.2.data≠.cell v):Inv X pins' σ H s :=
  ⟨I.ok,I.os,I.bare,I.base,I.loc,I.cell,I.free,I.freeC,fun p hp=>(List.mem_append.mp hp).elim (fun z=>I.pin p (List.mem_append_left _ z)) (h p),I.hok,I.len⟩
theorem qdm {N:List Str}(hN:N.Nodup){i j:Nat}{x:Str}(a:N[i]?=some x)(b:N[j]?=some x):i=j:=by
  obtain ⟨h1,e1⟩:=List.getElem?_eq_some_iff.mp a;obtain ⟨h2,e2⟩:=List.getElem?_eq_some_iff.mp b;exact (List.getElem_inj hN).mp (e1.trans e2.symm)
theorem qvg {M:Model}{A:Around}{E:Value→Shared→Prop}{i:Nat}{x:Str}{v:V}{u:Value}{Q:Unit→Shared→Prop}(I:Inv X pins σ H s)(hN:X.N.Nodup)(hi:X.N[i]?=some x)(hx:Loc X.env.scope x)(r:RelV v u)
    (h:∀ s',Inv X pins (σ.set i (some v)) H s'→(∃ a,Heap.SameBut a s.heap s'.heap∧(a=X.env.locals∨X.env.cells.lookup x=some a))→Q () s') (hf:X.fn x=true∨X.env.scope.names.lookup x=some .local:=by first | exact .inl rfl | exact .inr rfl | assumption):wpAny M A (storeName X.env x u) Q E s:=by
  obtain ⟨m,hn,hl⟩:=id I.loc
  have hcls:(X.env.scope.kind == .class || (X.env.scope.kind == .module && X.env.locals != X.env.globals))=false:=by rw [I.ok.kind]; rfl
  have hiσ:i<σ.length:=by rw [I.len]; exact (List.getElem?_eq_some_iff.mp hi).1
  have cne:=I.cne
  have tracked:∀ {a:Addr} {h':Heap},(∃ o,s.heap.get? a=some o∧H a=none)→Heap.SameBut a s.heap h'→HOk X.prog X.w H h':=fun {a h'} ha hs b ob e=>by
    obtain ⟨_,_,hfree⟩:=ha;refine (I.hok b ob e).stay (fun c w' hc q=>(hs.2 c ?_).trans q) (fun _ q=>q) fun _ _ q=>q
    rintro rfl
    rcases hc with rfl | hc
    · rw [hfree] at e; cases e
    · rw [hfree] at hc; cases hc
  rcases hx with hk | hk
  · refine wpAny_storeName_local hk hn (fun h' hn' hs=>?_) hcls
    obtain ⟨oL,_,_,hoL,_⟩:=id hn;refine h _ ⟨I.ok,I.os,I.bare,⟨fun b o e n hb hx=>?_,fun b o e n hb hx=>?_,I.base.free,fun b o e hx=>?_,I.base.tups,I.base.frzs,I.base.tbls⟩,⟨_,hn',fun j y v' e1 e2 e3=>?_⟩,fun y c e=>?_,I.free,I.freeC,fun p hp=>?_,tracked ⟨oL,hoL,I.free⟩ hs,by simpa using I.len⟩ ⟨_,hs,.inl rfl⟩
    · exact (hs.2 b (Nat.ne_of_lt (Nat.lt_of_lt_of_le (Heap.lt_size e) I.ok.above))).trans (I.base.keep b o e n hb hx)
    · obtain ⟨sl,e1⟩:=I.base.slot b o e n hb hx
      exact ⟨sl,(hs.2 b (Nat.ne_of_lt (Nat.lt_of_lt_of_le (Heap.lt_size e) I.ok.above))).trans e1⟩
    · obtain ⟨o',e1⟩:=I.base.there b o e hx
      exact ⟨o',(hs.2 b (Nat.ne_of_lt (Nat.lt_of_lt_of_le (Heap.lt_size e) I.ok.above))).trans e1⟩
    · by_cases hj:j=i
      · subst hj
        rw [hi] at e1; cases e1;rw [List.getElem?_set_self hiσ] at e2;cases e2;exact ⟨u,r,.inl ⟨hk,by simp⟩⟩
      · rw [List.getElem?_set_ne (Ne.symm hj)] at e2
        obtain ⟨u',r',q⟩:=hl j y v' e1 e2 e3;refine ⟨u',r',?_⟩
        rcases q with ⟨k,e⟩ | ⟨k,c,e,z⟩
        · refine .inl ⟨k,?_⟩
          have:y≠x:=fun e=>hj (qdm hN e1 (e▸hi));simp [this,e]
        · exact .inr ⟨k,c,e,z.sameBut hs (cne y c e)⟩
    · obtain ⟨w',z⟩:=I.cell y c e
      exact ⟨w',z.sameBut hs (cne y c e)⟩
    · obtain ⟨e,n,ne,nf,d⟩:=I.pin p hp
      exact ⟨(hs.2 p.1 ne).trans e,n,ne,nf,d⟩
  · have hfn:X.fn x=true:=by
      rcases hf with z | z
      · exact z
      · rw [z] at hk; cases hk
    obtain ⟨c,hc⟩:=I.ok.has x (.inl hk);obtain ⟨w',z⟩:=I.cell x c hc;refine wpAny_storeName_cell I.ok.kind hk hc z (fun h' hc' hs=>?_);obtain ⟨oc,hoc,hocd⟩:=id z;refine h { s with heap:=h' } ⟨I.ok,I.os,I.bare,⟨fun b o e n hb hx=>?_,fun b o e n hb hx=>?_,I.base.free,fun b o e hx=>?_,I.base.tups,I.base.frzs,I.base.tbls⟩,⟨m,hn.sameBut hs (Ne.symm (cne x c hc)),fun j y v' e1 e2 e3=>?_⟩,fun y c' e=>?_,I.free,I.freeC,fun p hp=>?_,tracked ⟨oc,hoc,I.freeC x c hc⟩ hs,by simpa using I.len⟩ ⟨c,hs,.inr hc⟩
    · exact (hs.2 b (Nat.ne_of_lt (Nat.lt_of_lt_of_le (Heap.lt_size e) (I.ok.cab x c hfn hc)))).trans (I.base.keep b o e n hb hx)
    · obtain ⟨sl,e1⟩:=I.base.slot b o e n hb hx
      exact ⟨sl,(hs.2 b (Nat.ne_of_lt (Nat.lt_of_lt_of_le (Heap.lt_size e) (I.ok.cab x c hfn hc)))).trans e1⟩
    · obtain ⟨o',e1⟩:=I.base.there b o e hx
      exact ⟨o',(hs.2 b (Nat.ne_of_lt (Nat.lt_of_lt_of_le (Heap.lt_size e) (I.ok.cab x c hfn hc)))).trans e1⟩
    · by_cases hj:j=i
      · subst hj
        rw [hi] at e1; cases e1;rw [List.getElem?_set_self hiσ] at e2;cases e2;exact ⟨u,r,.inr ⟨.inl hk,c,hc,hc'⟩⟩
      · rw [List.getElem?_set_ne (Ne.symm hj)] at e2
        obtain ⟨u',r',q⟩:=hl j y v' e1 e2 e3;refine ⟨u',r',?_⟩
        rcases q with q | ⟨k,c',e,z'⟩
        · exact .inl q
        · refine .inr ⟨k,c',e,z'.sameBut hs ?_⟩
          rintro rfl
          exact hj (qdm hN e1 (I.ok.inj _ _ _ e hc▸hi))
    · by_cases hcc:c'=c
      · subst hcc; exact ⟨_,hc'⟩
      · obtain ⟨w2,z2⟩:=I.cell y c' e
        exact ⟨w2,z2.sameBut hs hcc⟩
    · obtain ⟨e,n,ne,nf,d⟩:=I.pin p hp
      refine ⟨(hs.2 p.1 ?_).trans e,n,ne,nf,d⟩;intro q;rw [q,hoc] at e;have q':oc=p.2:=Option.some.inj e;exact d w' (by rw [← q']; exact hocd)
theorem qql {M:Model}{A:Around}{E:Value→Shared→Prop}{i:Nat}{x:Str}{v:V}{u:Value}{Q:Unit→Shared→Prop}(I:Inv X pins σ H s)(hN:X.N.Nodup)(hi:X.N[i]?=some x)(hx:Loc X.env.scope x)(r:RelV v u)
    (h:∀ s',Inv X pins (σ.set i (some v)) H s'→Q () s') (hf:X.fn x=true∨X.env.scope.names.lookup x=some .local:=by first | exact .inl rfl | exact .inr rfl | assumption):wpAny M A (storeName X.env x u) Q E s :=
  qvg I hN hi hx r (fun s' I' _=>h s' I') hf
theorem Inv.call' {s':Shared}{ch:List Addr}(I:Inv X pins σ H s)(ho:s'.os=s.os)(u:Un (frs X.stack) ch H H' s.heap s'.heap)(hok:HOk X.prog X.w H' s'.heap)(hg:AllBare s'.gens)
    (hch:∀ b∈ch,(b∈X.ex∨X.s₀.heap.objs.size≤b)∧b≠X.env.locals∧(∀ x c,X.env.cells.lookup x=some c→c≠b)∧∀ p∈X.pn++pins,p.1≠b):Inv X pins σ H' s':=by
  obtain ⟨h',g',d',t',o'⟩:=s';have e:o'=s.os:=ho;subst e;exact I.call (g':=g') (t':=t') (d':=d') u hok hg hch
end
abbrev XK:=Value→Option Addr→Hp→Prop
abbrev St:=List (Option V)
abbrev VK:=V→Hp→Prop
abbrev TE:=St→Hp→VK→Prop
abbrev TT:=St→Hp→(Bool→Hp→Prop)→Prop
abbrev TA:=St→Hp→(List V→Hp→Prop)→Prop
structure Ends where
  nx:St→Hp→Prop
  rt:VK
  bk:St→Hp→Prop:=fun _ _=>False
  ct:St→Hp→Prop:=fun _ _=>False
abbrev TS:=Ends→St→Hp→Prop
def EP (X:Cx)(pins:List (Addr×Obj))(σ:St)(Q:VK)(u:Value)(s':Shared):Prop:=∃ v H',Inv X pins σ H' s'∧RelV v u∧Q v H'
def TP (X:Cx)(pins:List (Addr×Obj))(σ:St)(Q:Bool→Hp→Prop)(b:Bool)(s':Shared):Prop:=∃ H',Inv X pins σ H' s'∧Q b H'
def AP (X:Cx)(pins:List (Addr×Obj))(σ:St)(Q:List V→Hp→Prop)(us:List Value)(s':Shared):Prop:=∃ vs H',Inv X pins σ H' s'∧Vals vs us∧Q vs H'
def SP (X:Cx)(pins:List (Addr×Obj))(D:Ends)(f:Flow)(s':Shared):Prop :=
  match f with
  | .next=>∃ σ' H',Inv X pins σ' H' s'∧D.nx σ' H'
  | .brk=>∃ σ' H',Inv X pins σ' H' s'∧D.bk σ' H'
  | .cont=>∃ σ' H',Inv X pins σ' H' s'∧D.ct σ' H'
  | .ret u=>∃ v σ' H',Inv X pins σ' H' s'∧RelV v u∧D.rt v H'
def PE (X:Cx)(e:Expr)(t:TE):Prop :=
  ∀ (pins:List (Addr×Obj)) (s:Shared) (σ:St) (H:Hp) (Q:VK),Inv X pins σ H s→t σ H Q→wpAny (model X.prog X.w) X.A (eval e X.env) (EP X pins σ Q) X.xe s
def PT (X:Cx)(e:Expr)(t:TT):Prop :=
  ∀ (pins:List (Addr×Obj)) (s:Shared) (σ:St) (H:Hp) (Q:Bool→Hp→Prop),Inv X pins σ H s→t σ H Q→wpAny (model X.prog X.w) X.A (isTrue e X.env (eval e X.env)) (TP X pins σ Q) X.xe s
def PW (X:Cx)(e:Expr)(t:TT):Prop :=
  ∀ (whole:Sem Value) (pins:List (Addr×Obj)) (s:Shared) (σ:St) (H:Hp) (Q:Bool→Hp→Prop),Inv X pins σ H s→t σ H Q→wpAny (model X.prog X.w) X.A (isTrue e X.env whole) (TP X pins σ Q) X.xe s
theorem PW.pt {X:Cx}{e:Expr}{t:TT}(h:PW X e t):PT X e t:=h _
def PA (X:Cx)(es:List Expr)(t:TA):Prop :=
  ∀ (pos:Pos) (pins:List (Addr×Obj)) (s:Shared) (σ:St) (H:Hp) (Q:List V→Hp→Prop),Inv X pins σ H s→t σ H Q→wpAny (model X.prog X.w) X.A (spliced (backTo pos (starEach es X.env))) (AP X pins σ Q) X.xe s
def PS (X:Cx)(st:Stmt)(t:TS):Prop :=
  ∀ (pins:List (Addr×Obj)) (s:Shared) (σ:St) (H:Hp) (D:Ends),Inv X pins σ H s→t D σ H→wpAny (model X.prog X.w) X.A (exec st X.env) (SP X pins D) X.xe s
def PSs (X:Cx)(st:List Stmt)(t:TS):Prop :=
  ∀ (pins:List (Addr×Obj)) (s:Shared) (σ:St) (H:Hp) (D:Ends),Inv X pins σ H s→t D σ H→wpAny (model X.prog X.w) X.A (execs st X.env) (SP X pins D) X.xe s
theorem thn {α:Type}{t:Sem α}{Q Q':α→Shared→Prop}{M:Model}{A:Around}{s:Shared}(h:wpAny M A t Q E s)(hQ:∀ a s,Q a s→Q' a s):wpAny M A t Q' E s:=wpAny_mono h hQ fun _ _ x=>x
end L2
namespace L2
open PySem PySem.Spec PyProof.Rows
variable {t:TE}{u:Value}{x:Str}
section
variable {X:Cx}
theorem bin {a b:Expr}{ta tb:TE}(ha:PE X a ta)(hb:PE X b tb){pins:List (Addr×Obj)}{s:Shared}{σ:St}{H:Hp}{R:V→V→Hp→Prop}(I:Inv X pins σ H s)(h:ta σ H fun x H1=>tb σ H1 fun y H2=>R x y H2)
    {α:Type} {Q:α→Shared→Prop} {f:Value→Value→Sem α}
    (hf:∀ v u s2 x y H2,Inv X pins σ H2 s2→RelV x v→RelV y u→R x y H2→wpAny (model X.prog X.w) X.A (f v u) Q X.xe s2) :
    wpAny (model X.prog X.w) X.A (eval a X.env) (fun v s₁=>wpAny (model X.prog X.w) X.A (eval b X.env) (fun u s₂=>wpAny (model X.prog X.w) X.A (f v u) Q X.xe s₂) X.xe s₁) X.xe s:=by
  refine thn (ha pins s σ H _ I h) fun v s1 ⟨x,H1,I1,r1,q1⟩=>?_;refine thn (hb pins s1 σ H1 _ I1 q1) fun u s2 ⟨y,H2,I2,r2,q2⟩=>?_;exact hf v u s2 x y H2 I2 r1 r2 q2
def tVar (i:Nat):TE:=fun σ H Q=>∃ v,σ[i]?=some (some v)∧Q v H
def tC (v:V):TE:=fun _ H Q=>Q v H
theorem pe_var {i:Nat}{pos:Pos}(hN:X.N[i]?=some x)(hv:Vis X.env.scope x)(hd:(x == ("__debug__":Str))=false:=by decide)(hcd:(x == ("__classdict__":Str))=false:=by decide):PE X (.Name x pos) (tVar i):=by
  intro pins s σ H Q I h;obtain ⟨v,e,h⟩:=h;obtain ⟨m,hn,hl⟩:=I.loc;obtain ⟨u,r,l⟩:=hl i x v hN e hv;have fin:EP X pins σ Q u s:=⟨v,H,I,r,h⟩
  rcases l with ⟨hk,hm⟩ | ⟨hk,c,hc,hcell⟩
  · exact wpAny_Name (wpAny_loadName_local I.ok.kind hk hn hm fin) hd
  · rcases hk with hk | hk
    · exact wpAny_Name (wpAny_loadName_cell I.ok.kind hk hc hcell fin) hd
    · exact wpAny_Name (wpAny_loadName_free I.ok.kind hk hc hcell fin hcd) hd
theorem qf {i j pos}:PE X (.Constant (.int i) j pos) (tC (.int i)):=fun _ _ _ H _ I h=>wpAny_Constant_int ⟨.int i,H,I.tok _,⟨_,rfl⟩,h⟩
theorem qf9 {b j pos}:PE X (.Constant (.bool b) j pos) (tC (.bl b)):=fun _ _ _ H _ I h=>Constant_bool ⟨.bl b,H,I,rfl,h⟩
theorem qw5 {j pos}:PE X (.Constant .none j pos) (tC .non):=fun _ _ _ H _ I h=>Constant_none ⟨.non,H,I,rfl,h⟩
theorem qq1 {x j pos}:PE X (.Constant (.str x) j pos) (tC (.str x)):=fun _ _ _ H _ I h=>Calls.Constant_str ⟨.str x,H,I.tok _,⟨_,rfl⟩,h⟩
def Gl (X:Cx)(x:Str):Prop:=X.env.kindOf x=some .globalImplicit
theorem qcg {E:Value→Shared→Prop}{pins:List (Addr×Obj)}{s:Shared}{σ:St}{H:Hp}{x:Str}{u:Value}{pos:Pos}{Q:Value→Shared→Prop}(I:Inv X pins σ H s)(hg:Gl X x)(hm:X.mg x=some u)(h:Q u s)
    (hd:(x == ("__debug__":Str))=false:=by decide):wpAny (model X.prog X.w) X.A (eval (.Name x pos) X.env) Q E s :=
  Calls.Name_function_global I.ok.kind hg (Calls.loadGlobal_global (by rw [I.ok.glob]; exact I.mod.glob.keeps I.bk) hm h) hd
theorem qvc {E:Value→Shared→Prop}{pins:List (Addr×Obj)}{s:Shared}{σ:St}{H:Hp}{x:Str}{u:Value}{pos:Pos}{Q:Value→Shared→Prop}(I:Inv X pins σ H s)(hg:Gl X x)(hm:X.mg x=none)(hv:bootBuiltins x=some u)(h:Q u s)
    (hn:x≠"__name__":=by decide) (hd:(x == ("__debug__":Str))=false:=by decide):wpAny (model X.prog X.w) X.A (eval (.Name x pos) X.env) Q E s:=by
  obtain ⟨mb,h1,h2⟩:=I.mod.blt;exact Calls.Name_function_global I.ok.kind hg (Calls.loadGlobal_builtin (by rw [I.ok.glob]; exact I.mod.glob.keeps I.bk) hm (by rw [I.ok.blt]; exact h1.keeps I.bk) ((h2 x hn).trans hv) h) hd
theorem qu3 {v:V}{pos:Pos}(hg:Gl X x)(hm:X.mg x=some u)(r:RelV v u)(hd:(x == ("__debug__":Str))=false:=by decide):PE X (.Name x pos) (tC v) :=
  fun _ _ _ H _ I h=>qcg I hg hm ⟨v,H,I,r,h⟩ hd
theorem qxq {v:V}{pos:Pos}(hg:Gl X x)(hm:X.mg x=none)(hv:bootBuiltins x=some u)(r:RelV v u)(hn:x≠"__name__":=by decide)(hd:(x == ("__debug__":Str))=false:=by decide):PE X (.Name x pos) (tC v) :=
  fun _ _ _ H _ I h=>qvc I hg hm hv ⟨v,H,I,r,h⟩ hn hd
variable {a b:Expr}{ta tb:TE}{pos:Pos}
def PC (X:Cx)(op:CmpOp)(a b:Expr)(t:TE):Prop :=
  ∀ (pins:List (Addr×Obj)) (s:Shared) (σ:St) (H:Hp) (Q:VK),Inv X pins σ H s→t σ H Q →
    wpAny (model X.prog X.w) X.A (eval a X.env) (fun v s₁=>wpAny (model X.prog X.w) X.A (eval b X.env) (fun u s₂=>wpAny (model X.prog X.w) X.A (compareOp op v u) (EP X pins σ Q) X.xe s₂) X.xe s₁) X.xe s
def tB (t:TE):TT:=fun σ H Q=>t σ H fun x H1=>∃ c,x=.bl c∧Q c H1
theorem qlq {op:CmpOp}(h:PC X op a b t)(h1:behindInMarks op b=false:=by first | exact nobehind _ (by decide) (by decide) | rfl):PT X (.Compare a [op] [b] pos) (tB t):=by
  intro pins s σ H Q I hw;refine wpAny_isTrue_Compare1 (thn (h pins s σ H _ I hw) fun v s1 h1=>thn h1 fun u s2 h2=>thn h2 fun c s3 ⟨x,H1,I1,r1,q1⟩=>?_) h1;obtain ⟨d,rfl,q⟩:=q1;cases r1;exact wpAny_truthy_bool ⟨H1,I1,q⟩
theorem qh6 {e:Expr}(h:PE X e t)(he:∀ whole,isTrue e X.env whole=(do let v ← whole; standAt e.pos; holding [v] (truthy v)):=by intro _; rfl):PT X e (tB t):=by
  intro pins s σ H Q I hw;refine isTrue_plain (thn (h pins s σ H _ I hw) fun v s1 ⟨x,H1,I1,r1,q1⟩=>?_) (he _);obtain ⟨d,rfl,q⟩:=q1;cases r1;exact wpAny_truthy_bool ⟨H1,I1,q⟩
variable {tA tB':TT}{rest:List Expr}
def tAnd (t u:TT):TT:=fun σ H Q=>t σ H fun c H1=>if c=true then u σ H1 Q else Q false H1
def tOr (t u:TT):TT:=fun σ H Q=>t σ H fun c H1=>if c=true then Q true H1 else u σ H1 Q
def tNot (t:TT):TT:=fun σ H Q=>t σ H fun c H1=>Q (!c) H1
theorem qm8 (ha:PT X a tA):PW X (.BoolOp .And [a] pos) tA:=by
  intro wh pins s σ H Q I h;refine isTrue_and (thn (ha pins s σ H Q I h) fun c s1 e=>?_)
  cases c with
  | true=>exact isTrue_and_nil e
  | false=>exact e
theorem qqh (ha:PT X a tA):PW X (.BoolOp .Or [a] pos) tA:=by
  intro wh pins s σ H Q I h;refine isTrue_or (thn (ha pins s σ H Q I h) fun c s1 e=>?_)
  cases c with
  | false=>exact isTrue_or_nil e
  | true=>exact e
theorem qfa (ha:PT X a tA)(hb:PW X (.BoolOp .And (b::rest) pos) tB'):PW X (.BoolOp .And (a::b::rest) pos) (tAnd tA tB'):=by
  intro wh pins s σ H Q I h;refine isTrue_and (thn (ha pins s σ H _ I h) fun c s1 ⟨H1,I1,q1⟩=>?_)
  cases c with
  | true=>exact hb wh pins s1 σ H1 Q I1 q1
  | false=>exact ⟨H1,I1,q1⟩
theorem qfk (ha:PT X a tA)(hb:PW X (.BoolOp .Or (b::rest) pos) tB'):PW X (.BoolOp .Or (a::b::rest) pos) (tOr tA tB'):=by
  intro wh pins s σ H Q I h;refine isTrue_or (thn (ha pins s σ H _ I h) fun c s1 ⟨H1,I1,q1⟩=>?_)
  cases c with
  | true=>exact ⟨H1,I1,q1⟩
  | false=>exact hb wh pins s1 σ H1 Q I1 q1
theorem pt_not (ha:PT X a tA):PT X (.UnaryOp .Not a pos) (tNot tA):=by
  intro pins s σ H Q I h;exact isTrue_not (ha pins s σ H (fun c H1=>Q (!c) H1) I h)
def tAndV (ta tb:TE):TE:=fun σ H Q=>ta σ H fun x H1=>∃ c,x=.bl c∧if c=true then tb σ H1 Q else Q (.bl false) H1
theorem pe_one {op}(h:PE X a t):PE X (.BoolOp op [a] pos) t:=fun pins s σ H Q I hw=>BoolOp_one (h pins s σ H Q I hw)
theorem pe_and (ha:PE X a ta)(hb:PE X (.BoolOp .And (b::rest) pos) tb):PE X (.BoolOp .And (a::b::rest) pos) (tAndV ta tb):=by
  intro pins s σ H Q I h;refine BoolOp_and (thn (ha pins s σ H _ I h) fun v s1 ⟨x,H1,I1,r1,q1⟩=>?_);obtain ⟨c,rfl,q1⟩:=q1;cases r1;refine wpAny_truthy_bool ?_
  cases c with
  | true=>exact hb pins s1 σ H1 Q I1 q1
  | false=>exact ⟨.bl false,H1,I1,rfl,q1⟩
def tIf (t:TT)(ta tb:TE):TE:=fun σ H Q=>t σ H fun c H1=>if c=true then ta σ H1 Q else tb σ H1 Q
theorem qvf {c:Expr}(hc:PT X c tA)(ha:PE X a ta)(hb:PE X b tb):PE X (.IfExp c a b pos) (tIf tA ta tb):=by
  intro pins s σ H Q I h;refine wpAny_IfExp (thn (hc pins s σ H _ I h) fun d s1 ⟨H1,I1,q1⟩=>?_)
  cases d with
  | true=>exact ha pins s1 σ H1 Q I1 q1
  | false=>exact hb pins s1 σ H1 Q I1 q1
end
end L2
namespace L2
open PySem PySem.Spec PyProof.Rows
variable {K:W.Frag}{P:Program}{body:List Stmt}{c tg:Expr}{i:Nat}{tc:TT}{w:World}{x:Str}
def SqL (K:W.Frag)(H:Hp)(a:Addr)(xs:List V):Prop :=
  Rd H a (.lst xs) ∨
    ∃ (o:Obj) (its:Array Value) (n:Nat),K.lookup a=some o∧o.cls=.type "list"∧o.dict=none∧o.data=.seq its n∧its.size≤sizeLine∧Vals xs its.toList
def SqT (K:W.Frag)(H:Hp)(a:Addr)(xs:List V):Prop :=
  Rd H a (.tup xs) ∨
    ∃ (o:Obj) (its:Array Value) (n:Nat),K.lookup a=some o∧o.cls=.type "tuple"∧o.data=.seq its n∧its.size≤sizeLine∧Vals xs its.toList
def absV:Value→Option V
  | .none=>some .non
  | .bool b=>some (.bl b)
  | .int i _=>some (.int i)
  | .str x _=>some (.str x)
  | .bytes b _=>some (.byt b)
  | .float b _=>some (.flt b)
  | .ref a=>some (.ref a)
  | .type n=>some (.ty n)
  | _=>none
theorem RelV.abs {x:V}{u:Value}(r:RelV x u):absV u=some x:=by
  cases x with
  | non=>cases r; rfl
  | bl _=>cases r; rfl
  | int _=>obtain ⟨t,rfl⟩:=r; rfl
  | str _=>obtain ⟨t,rfl⟩:=r; rfl
  | byt _=>obtain ⟨t,rfl⟩:=r; rfl
  | flt _=>obtain ⟨t,rfl⟩:=r; rfl
  | ref _=>cases r; rfl
  | ty _=>cases r; rfl
theorem RelV.inj {x y:V}{u:Value}(r:RelV x u)(q:RelV y u):x=y:=Option.some.inj (r.abs.symm.trans q.abs)
theorem Vals.inj:∀ {xs ys:List V} {us:List Value},Vals xs us→Vals ys us→xs=ys
  | _,_,_,.nil,.nil=>rfl
  | _,_,_,.cons r t,.cons r' t'=>by rw [r.inj r',Vals.inj t t']
section
variable {X:Cx}{pins:List (Addr×Obj)}{σ:St}{H:Hp}{s:Shared}{a:Addr}{xs ys:List V}
theorem SqL.of (h:H a=some (.lst xs)):SqL K H a xs:=.inl (.inl h)
theorem SqT.of (h:H a=some (.tup xs)):SqT K H a xs:=.inl (.inl h)
theorem Inv.list (I:Inv X pins σ H s)(h:SqL X.K H a xs):∃ its:List Value,Vals xs its∧PlainL s.heap a its.toArray∧xs.length≤sizeLine:=by
  rcases h with h | ⟨o,its,n,hk,hc,hd,hs,hz,r⟩
  · obtain ⟨z,its,n,r,e⟩:=h.ok I.hok
    exact ⟨its,r,⟨_,n,e,rfl,rfl,rfl⟩,z⟩
  · refine ⟨its.toList,r,⟨o,n,I.kIn a o hk,hc,hd,by simpa using hs⟩,?_⟩
    have e:=r.length;simp only [Array.length_toList] at e;omega
theorem Inv.tuple (I:Inv X pins σ H s)(h:SqT X.K H a xs):∃ its:List Value,Vals xs its∧IsTup s.heap a its.toArray∧xs.length≤sizeLine:=by
  rcases h with h | ⟨o,its,n,hk,hc,hs,hz,r⟩
  · obtain ⟨z,its,r,p⟩:=h.ok I.hok
    exact ⟨its,r,p,z⟩
  · refine ⟨its.toList,r,⟨o,I.kIn a o hk,hc,n,by simpa using hs⟩,?_⟩
    have e:=r.length;simp only [Array.length_toList] at e;omega
theorem Inv.list_inj (I:Inv X pins σ H s)(h:SqL X.K H a xs)(h':SqL X.K H a ys):xs=ys:=by
  obtain ⟨its,r,⟨o,n,e,_,_,d⟩,_⟩:=I.list h;obtain ⟨its',r',⟨o',n',e',_,_,d'⟩,_⟩:=I.list h';rw [e] at e'; cases e';rw [d] at d'
  injection d' with d1 _
  have:its=its':=by simpa using congrArg Array.toList d1
  subst this;exact r.inj r'
theorem Inv.tuple_inj (I:Inv X pins σ H s)(h:SqT X.K H a xs)(h':SqT X.K H a ys):xs=ys:=by
  obtain ⟨its,r,⟨o,e,_,n,d⟩,_⟩:=I.tuple h;obtain ⟨its',r',⟨o',e',_,n',d'⟩,_⟩:=I.tuple h';rw [e] at e'; cases e';rw [d] at d'
  injection d' with d1 _
  have:its=its':=by simpa using congrArg Array.toList d1
  subst this;exact r.inj r'
end
abbrev Cx.wish (X:Cx)(E:Value→Shared→Prop):Cx:={ X with xe:=E }
abbrev Cx.nox (X:Cx):Cx:=X.wish fun _ _=>False
theorem Cx.Ok.wish {X:Cx}(ok:X.Ok)(E:Value→Shared→Prop):(X.wish E).Ok :=
  ⟨ok.mod,ok.kind,ok.glob,ok.blt,ok.above,ok.inj,ok.has,ok.cab,ok.hd,ok.frames,ok.stk,ok.exf,ok.bs,ok.bsz,ok.noex,ok.exfs,ok.funs,ok.frf⟩
theorem Cx.Ok.unwish {X:Cx}{E:Value→Shared→Prop}(ok:(X.wish E).Ok):X.Ok :=
  ⟨ok.mod,ok.kind,ok.glob,ok.blt,ok.above,ok.inj,ok.has,ok.cab,ok.hd,ok.frames,ok.stk,ok.exf,ok.bs,ok.bsz,ok.noex,ok.exfs,ok.funs,ok.frf⟩
section
variable {X:Cx}{pins:List (Addr×Obj)}{σ:St}{H:Hp}{s:Shared}{E:Value→Shared→Prop}
theorem Inv.wish (I:Inv X pins σ H s)(E:Value→Shared→Prop):Inv (X.wish E) pins σ H s:=⟨I.ok.wish E,I.os,I.bare,I.base,I.loc,I.cell,I.free,I.freeC,I.pin,I.hok,I.len⟩
theorem Inv.unwish (I:Inv (X.wish E) pins σ H s):Inv X pins σ H s:=⟨I.ok.unwish,I.os,I.bare,I.base,I.loc,I.cell,I.free,I.freeC,I.pin,I.hok,I.len⟩
theorem SP.unwish {D:Ends}{f:Flow}{s':Shared}(h:SP (X.wish E) pins D f s'):SP X pins D f s':=by
  cases f with
  | next=>obtain ⟨σ',H',I,q⟩:=h; exact ⟨σ',H',I.unwish,q⟩
  | brk=>obtain ⟨σ',H',I,q⟩:=h; exact ⟨σ',H',I.unwish,q⟩
  | cont=>obtain ⟨σ',H',I,q⟩:=h; exact ⟨σ',H',I.unwish,q⟩
  | ret u=>obtain ⟨v,σ',H',I,r,q⟩:=h; exact ⟨v,σ',H',I.unwish,r,q⟩
theorem PSs.nox {st:List Stmt}{t:TS}(h:PSs X.nox st t):PSs X st t:=fun pins s σ H D I hw =>
  wpAny_mono (h pins s σ H D (I.wish _) hw) (fun _ _ q=>q.unwish) fun _ _ z=>False.elim z
end
section
variable {X:Cx}{st:Stmt}{rest:List Stmt}{t u:TS}{e:Expr}{te:TE}{pos:Pos}
def tNext:TS:=fun D σ H=>D.nx σ H
def tSeq (t u:TS):TS:=fun D σ H=>t { D with nx:=u D } σ H
theorem qn0:PSs X [] tNext:=fun _ _ σ H _ I h=>wpAny_execs_nil ⟨σ,H,I,h⟩
theorem qc (h1:PS X st t)(h2:PSs X rest u):PSs X (st::rest) (tSeq t u):=by
  intro pins s σ H D I h;refine wpAny_execs_cons (thn (h1 pins s σ H { D with nx:=u D } I h) fun f s1 q=>?_)
  cases f with
  | next =>
    obtain ⟨σ',H',I',q⟩:=q;exact h2 pins s1 σ' H' D I' q
  | ret v=>exact q
  | brk=>exact q
  | cont=>exact q
theorem qg (h1:PS X st t):PSs X [st] t:=by
  intro pins s σ H D I h;refine wpAny_execs_cons (thn (h1 pins s σ H D I h) fun f s1 q=>?_)
  cases f with
  | next=>exact wpAny_execs_nil q
  | ret v=>exact q
  | brk=>exact q
  | cont=>exact q
def tCont:TS:=fun D σ H=>D.ct σ H
theorem qn8:PS X (.Continue pos) tCont:=fun _ _ σ H _ I h=>wpAny_Continue ⟨σ,H,I,h⟩
theorem Inv.quiet {pins:List (Addr×Obj)}{σ:St}{H:Hp}{s:Shared}(I:Inv X pins σ H s):interactive X.env=false:=by simp [interactive,I.ok.kind]
def tDrop (te:TE):TS:=fun D σ H=>te σ H fun _ H1=>D.nx σ H1
theorem qn2 (he:PE X e te)(hs:swapsWith e none pos.line X.env=pure false:=by rfl):PS X (.Expr e pos) (tDrop te):=by
  intro pins s σ H D I h;exact wpAny_Expr_any (thn (he pins s σ H _ I h) fun v s1 ⟨x,H1,I1,r1,q1⟩=>⟨σ,H1,I1,q1⟩) I.quiet hs
def tRet (te:TE):TS:=fun D σ H=>te σ H D.rt
theorem qm (he:PE X e te):PS X (.Return (some e) pos) (tRet te):=by
  intro pins s σ H D I h;exact wpAny_Return_some (thn (he pins s σ H _ I h) fun v s1 ⟨x,H1,I1,r1,q1⟩=>⟨x,σ,H1,I1,r1,q1⟩)
def tIfS (c:TT)(t u:TS):TS:=fun D σ H=>c σ H fun b H1=>if b=true then t D σ H1 else u D σ H1
theorem ql1 {a b:List Stmt}(hc:PT X c tc)(ha:PSs X a t)(hb:PSs X b u):PS X (.If c a b pos) (tIfS tc t u):=by
  intro pins s σ H D I h;refine wpAny_If (thn (hc pins s σ H _ I h) fun d s1 ⟨H1,I1,q1⟩=>?_)
  cases d with
  | true=>exact ha pins s1 σ H1 D I1 q1
  | false=>exact hb pins s1 σ H1 D I1 q1
def tNever:TS:=fun _ _ _=>False
theorem qta:PS X st tNever:=fun _ _ _ _ _ _ h=>h.elim
end
abbrev TG:=V→St→Hp→(St→Hp→Prop)→Prop
abbrev TGs:=List V→St→Hp→(St→Hp→Prop)→Prop
def PG (X:Cx)(target:Expr)(t:TG):Prop :=
  ∀ (pins:List (Addr×Obj)) (s:Shared) (σ:St) (H:Hp) (v:V) (u:Value) (Q:St→Hp→Prop),Inv X pins σ H s→RelV v u→t v σ H Q →
    wpAny (model X.prog X.w) X.A (assign target X.env u) (fun _ s'=>∃ σ' H',Inv X pins σ' H' s'∧Q σ' H') X.xe s
def PGs (X:Cx)(ts:List Expr)(t:TGs):Prop :=
  ∀ (pins:List (Addr×Obj)) (s:Shared) (σ:St) (H:Hp) (vs:List V) (us:List Value) (Q:St→Hp→Prop),Inv X pins σ H s→Vals vs us→t vs σ H Q →
    wpAny (model X.prog X.w) X.A (assignInOrder ((assignEach ts X.env).map (·.2)) us) (fun _ s'=>∃ σ' H',Inv X pins σ' H' s'∧Q σ' H') X.xe s
abbrev TSet:=V→V→V→Hp→(Hp→Prop)→Prop
def PSet (X:Cx)(t:TSet):Prop :=
  ∀ (pins:List (Addr×Obj)) (s:Shared) (σ:St) (H:Hp) (o i v:V) (ov iv u:Value) (Q:Hp→Prop),Inv X pins σ H s→RelV o ov→RelV i iv→RelV v u→t o i v H Q →
    wpAny (model X.prog X.w) X.A (setItem ov iv u) (fun _ s'=>∃ H',Inv X pins σ H' s'∧Q H') X.xe s
section
variable {X:Cx}{pos:Pos}
def qb4 (i:Nat):TG:=fun v σ H Q=>Q (σ.set i (some v)) H
theorem qp (hN:X.N.Nodup)(hi:X.N[i]?=some x)(hx:Loc X.env.scope x)(hf:X.fn x=true∨X.env.scope.names.lookup x=some .local:=by first | exact .inl rfl | exact .inr rfl | assumption):PG X (.Name x pos) (qb4 i):=by
  intro pins s σ H v u Q I r h;exact wpAny_assign_Name (qql I hN hi hx r (fun s' I'=>⟨_,H,I',h⟩) hf)
def gNil:TGs:=fun vs σ H Q=>vs=[]∧Q σ H
def qu6 (t:TG)(u:TGs):TGs:=fun vs σ H Q=>∃ v r,vs=v::r∧t v σ H fun σ' H'=>u r σ' H' Q
theorem qc5:PGs X [] gNil:=by
  intro pins s σ H vs us Q I r h;obtain ⟨e,h⟩:=h;subst e;cases r;exact assignInOrder_nil ⟨σ,H,I,h⟩
theorem qx {e:Expr}{es:List Expr}{t:TG}{u:TGs}(h1:PG X e t)(h2:PGs X es u)
    (hs:(assignEach (e::es) X.env).map (·.2)=assign e X.env::(assignEach es X.env).map (·.2):=by rfl):PGs X (e::es) (qu6 t u):=by
  intro pins s σ H vs us Q I r h;obtain ⟨v,vr,e1,h⟩:=h;subst e1
  cases r with
  | cons r rr =>
    rw [hs];refine assignInOrder_cons (thn (h1 pins s σ H _ _ _ I r h) fun _ s1 ⟨σ1,H1,I1,q1⟩=>?_);exact h2 pins s1 σ1 H1 _ _ Q I1 rr q1
def gTup (K:W.Frag)(n:Nat)(t:TGs):TG:=fun v σ H Q=>∃ a xs,v=.ref a∧SqT K H a xs∧xs.length=n∧t xs σ H Q
theorem qj7 {es:List Expr}{k:Nat}{t:TGs}{n:Nat}(hc:X.calm=true)(h:PGs X es t)
    (hn:(assignEach es X.env).length=n:=by rfl) (hst:(assignEach es X.env).findIdx? (·.1)=none:=by rfl):PG X (.Tuple es k pos) (gTup X.K n t):=by
  intro pins s σ H v u Q I r hw;obtain ⟨a,xs,e1,hq,hl,hw⟩:=hw;subst e1;cases r;obtain ⟨its,rv,ht,hz⟩:=I.tuple hq;refine assign_Tuple_tuple (I.ok.hd hc) ht (by simp [hn,← hl,rv.length]) hst fun h' hx=>?_;have I1:Inv X pins σ H { s with heap:=h' }:=I.kept (t':=s.toks) fun b o e=>hx b o (Nat.ne_of_lt (Heap.lt_size e)) e;exact h pins _ σ H xs _ Q I1 (by simpa using rv) hw
def gSub (to ti:TE)(t:TSet):TG:=fun v σ H Q=>to σ H fun o H1=>ti σ H1 fun i H2=>t o i v H2 fun H3=>Q σ H3
theorem pg_sub {o i:Expr}{to ti:TE}{t:TSet}(ho:PE X o to)(hi:PE X i ti)(hs:PSet X t)
    (ha:∀ v,assign (.Subscript o i pos) X.env v=(do
      let ov ← holding [v] (eval o X.env)
      let iv ← holding [v,ov] (eval i X.env)
      standAt pos
      holding [v,ov,iv] (setItem ov iv v)
      release [v,ov,iv] []):=by intro _; rfl):PG X (.Subscript o i pos) (gSub to ti t):=by
  intro pins s σ H v u Q I r h;rw [ha];refine wpAny_bind (wpAny_holding (thn (ho pins s σ H _ I h) fun ov s1 ⟨x,H1,I1,r1,q1⟩=>?_));refine wpAny_bind (wpAny_holding (thn (hi pins s1 σ H1 _ I1 q1) fun iv s2 ⟨y,H2,I2,r2,q2⟩=>?_));refine wpAny_bind (wpAny_standAt (wpAny_bind (wpAny_holding (thn (hs pins s2 σ H2 x y v ov iv u _ I2 r1 r2 r q2) fun _ s3 ⟨H3,I3,q3⟩=>?_))));exact wpAny_release ⟨σ,H3,I3,q3⟩
def tAsg (te:TE)(g:TG):TS:=fun D σ H=>te σ H fun x H1=>g x σ H1 D.nx
theorem ps_asg {tg e:Expr}{te:TE}{g:TG}(he:PE X e te)(hg:PG X tg g)(hs:swapsWithSole [tg] e pos.line X.env=pure false:=by rfl)(hw:swappedStores [tg] e X.env=pure none:=by rfl)
    (h1:(assignEach [tg] X.env).map (·.2)=[assign tg X.env]:=by rfl):PS X (.Assign [tg] e pos) (tAsg te g):=by
  intro pins s σ H D I h;refine wpAny_Assign_stores (thn (he pins s σ H _ I h) fun v s1 ⟨x,H1,I1,r1,q1⟩=>?_) hs hw;rw [h1];exact thn (hg pins s1 σ H1 x v _ I1 r1 q1) fun _ s2 q=>q
theorem qi {e:Expr}{te:TE}{pos':Pos}(hN:X.N.Nodup)(hi:X.N[i]?=some x)(hx:Loc X.env.scope x)(he:PE X e te)(hs:swapsWith e (some (.Name x pos')) pos.line X.env=pure false:=by rfl)(hf:X.fn x=true∨X.env.scope.names.lookup x=some .local:=by first | exact .inl rfl | exact .inr rfl | assumption) :
    PS X (.Assign [.Name x pos'] e pos) (tAsg te (qb4 i)):=by
  intro pins s σ H D I h;refine wpAny_Assign_Name (thn (he pins s σ H _ I h) fun v s1 ⟨y,H1,I1,r1,q1⟩=>?_) hs;exact qql I1 hN hi hx r1 (fun s2 I2=>⟨_,H1,I2,q1⟩) hf
end
section
variable {X:Cx}{pos:Pos}
def qfp (c:TT)(tb:TS):TS:=fun D σ H=>∃ W:Nat→St→Hp→Prop,(∃ m,W m σ H)∧∀ m σ H,W m σ H →
  c σ H fun b H1=>if b=true then ∃ N:St→Hp→Prop,(∀ σ' H',N σ' H'→∃ m',m'<m∧W m' σ' H')∧tb { D with nx:=N,ct:=N,bk:=D.nx } σ H1 else D.nx σ H1
theorem qsf {tb:TS}(hp:PassesOwn (model X.prog X.w) X.A X.env X.xe)(hc:PT X c tc)(hb:PSs X body tb):PS X (.While c body [] pos) (qfp tc tb):=by
  intro pins s σ H D I h;obtain ⟨W,⟨m0,w0⟩,turn⟩:=h;refine wpAny_While (codeAny_whileLoop (fun n s'=>∃ σ' H',Inv X pins σ' H' s'∧W n σ' H') ?_ m0 ⟨σ,H,I,w0⟩)
  rintro n s1 ⟨σ1,H1,I1,w1⟩
  refine wpAny_passesOwn hp (thn (hc pins s1 σ1 H1 _ I1 (turn n σ1 H1 w1)) fun b s2 ⟨H2,I2,q2⟩=>?_)
  cases b with
  | true =>
    obtain ⟨N,hN,q2⟩:=q2;rw [if_pos rfl];refine wpAny_passesOwn hp (thn (hb pins s2 σ1 H2 _ I2 q2) fun f s3 q3=>?_)
    cases f with
    | next =>
      obtain ⟨σ3,H3,I3,n3⟩:=q3;obtain ⟨m',hm,w3⟩:=hN σ3 H3 n3;exact ⟨m',hm,σ3,H3,I3,w3⟩
    | cont =>
      obtain ⟨σ3,H3,I3,n3⟩:=q3;obtain ⟨m',hm,w3⟩:=hN σ3 H3 n3;exact ⟨m',hm,σ3,H3,I3,w3⟩
    | brk=>exact q3
    | ret v=>exact q3
  | false =>
    rw [if_neg Bool.false_ne_true];exact wpAny_execs_nil ⟨σ1,H2,I2,q2⟩
end
structure It where
  go:Nat→Hp→Prop
  yld:Nat→Hp→V→Hp→Prop
  stop:Nat→Hp→Prop
def FpOk (X:Cx)(pins:List (Addr×Obj))(H:Hp)(b:Addr):Prop :=
  H b=none∧b≠X.env.locals∧b∉X.fs∧(b∈X.ex∨X.s₀.heap.objs.size≤b)∧(∀ x c,X.env.cells.lookup x=some c→c≠b)∧∀ p∈X.pn++pins,p.1≠b
theorem Inv.fpOk {X:Cx}{pins:List (Addr×Obj)}{σ:St}{H H':Hp}{s:Shared}{b:Addr}(I:Inv X pins σ H s)(hb:s.heap.objs.size≤b)(hn:H' b=none):FpOk X pins H' b:=by
  refine ⟨hn,Nat.ne_of_gt (Nat.lt_of_lt_of_le I.lt hb),I.nofs hb,.inr (Nat.le_trans I.sz hb),fun x c e z=>?_,fun p hp z=>?_⟩
  · obtain ⟨v,q⟩:=I.cell x c e
    exact absurd (Nat.lt_of_lt_of_le q.lt (by rw [z]; exact hb)) (Nat.lt_irrefl _)
  · exact absurd (Nat.lt_of_lt_of_le (Heap.lt_size (I.pin p hp).1) (by rw [z]; exact hb)) (Nat.lt_irrefl _)
structure Turn (P:Program)(w:World)(K:W.Frag)(tg:Expr)(J:It)(fp:List Addr)(it:Addr)(tn:Nat→Heap→Prop):Prop where
  mem:it∈fp
  obj:∀ i h,tn i h→∀ b∈fp,∃ o,h.get? b=some o∧∀ v,o.data≠.cell v
  keep:∀ i h h',tn i h→(∀ b∈fp,∀ o,h.get? b=some o→h'.get? b=some o)→tn i h'
  item:∀ (X:Cx),X.prog=P→X.w=w→X.K=K→X.calm=true→∀ (i:Nat) (pins:List (Addr×Obj)) (s:Shared) (σ:St) (H:Hp) (E:Value→Shared→Prop),Inv X pins σ H s→(∀ b∈fp,FpOk X pins H b)→tn i s.heap→J.go i H →
    wpAny (model P w) X.A (pyNext (.ref it)) (fun r s1=>∃ u,r=some u ∧
      wpAny (model P w) X.A (letOwnedTupleGo tg (.ref it) u) (fun _ s2=>∃ x H',Inv X pins σ H' s2∧RelV x u∧J.yld i H x H'∧tn (i+1) s2.heap∧∀ b∈fp,H' b=none) E s1) E s
  done:∀ (X:Cx),X.prog=P→X.w=w→X.K=K→X.calm=true→∀ (i:Nat) (pins:List (Addr×Obj)) (s:Shared) (σ:St) (H:Hp) (E:Value→Shared→Prop),Inv X pins σ H s→(∀ b∈fp,FpOk X pins H b)→tn i s.heap→J.stop i H →
    wpAny (model P w) X.A (pyNext (.ref it)) (fun r s1=>r=none∧Inv X pins σ H s1) E s
  self:∀ (A:Around) (i:Nat) (s:Shared) (Q:Value→Shared→Prop) (E:Value→Shared→Prop),tn i s.heap→Q (.ref it) s→wpAny (model P w) A (pyIter (.ref it)) Q E s
abbrev TI:=St→Hp→(It→Hp→Prop)→Prop
def PIE (X:Cx)(pins:List (Addr×Obj))(σ:St)(tg:Expr)(R:It→Hp→Prop)(itv:Value)(s2:Shared):Prop :=
  ∃ (it:Addr) (fp:List Addr) (tn:Nat→Heap→Prop) (J:It) (H':Hp),itv=.ref it∧Inv X pins σ H' s2∧Turn X.prog X.w X.K tg J fp it tn∧tn 0 s2.heap∧(∀ b∈fp,FpOk X pins H' b)∧R J H'
def PI (X:Cx)(tg iter:Expr)(wi:TI):Prop :=
  ∀ (pins:List (Addr×Obj)) (s:Shared) (σ:St) (H:Hp) (R:It→Hp→Prop),Inv X pins σ H s→wi σ H R →
    wpAny (model X.prog X.w) X.A (eval iter X.env) (fun v s1=>wpAny (model X.prog X.w) X.A (pyIter v) (PIE X pins σ tg R) X.xe s1) X.xe s
theorem qps {M:Model}{A:Around}{E:Value→Shared→Prop}{s:Shared}{tg:Expr}{it:Addr}{u:Value}{o:Obj}{n:String}{vs:Array Value}{Q:Unit→Shared→Prop}(ho:s.heap.get? it=some o)(hc:o.cls=.type n)(hd:o.data=.fields vs)
    (hn:["enumerate","zip","dict_itemiterator","dict_reverseitemiterator","odict_iterator","itertools.zip_longest","itertools.pairwise"].contains n=false) (hQ:Q () s):wpAny M A (letOwnedTupleGo tg (.ref it) u) Q E s:=by
  unfold letOwnedTupleGo
  cases tg <;> first
    | exact wpAny_pure hQ
    | (cases u <;> first
        | exact wpAny_pure hQ
        | (refine wpAny_bind (wpAny_load ho ?_)
           rw [hc,hd];show wpAny M A (if (["enumerate","zip","dict_itemiterator","dict_reverseitemiterator","odict_iterator","itertools.zip_longest","itertools.pairwise"].contains n && vs[0]? == some (rawInt _))=true then _ else _) Q E s;rw [if_neg (by intro h; rw [hn,Bool.false_and] at h; cases h)]
           exact wpAny_pure hQ))
def Itl (K:W.Frag)(a:Addr):It :=
  ⟨fun i H=>∃ xs x,SqL K H a xs∧xs[i]?=some x,fun i H x H'=>H'=H∧∀ xs,SqL K H a xs→xs[i]?=some x,fun i H=>∃ xs,SqL K H a xs∧xs.length≤i⟩
def Itt (K:W.Frag)(a:Addr):It :=
  ⟨fun i H=>∃ xs x,SqT K H a xs∧xs[i]?=some x,fun i H x H'=>H'=H∧∀ xs,SqT K H a xs→xs[i]?=some x,fun i H=>∃ xs,SqT K H a xs∧xs.length≤i⟩
def Itr (lo:Int)(n:Nat):It:=⟨fun i _=>i<n,fun i H x H'=>H'=H∧x=.int (lo+i),fun i _=>n≤i⟩
theorem qap (a it:Addr):Turn P w K tg (Itl K a) [it] it (fun i h=>h.IsListIter it a i) where
  mem:=by simp
  obj:=fun i h st b hb=>by
    have e:b=it:=by simpa using hb
    subst e;obtain ⟨o,e,c,d⟩:=st;exact ⟨o,e,fun v z=>by rw [d] at z; cases z⟩
  keep:=fun i h h' st k=>st.at fun o e=>k it (by simp) o e
  item:=by
    intro X hP hw hK hc i pins s σ H E I hf st hg;subst hP hw hK;obtain ⟨xs,x,hq,hx⟩:=hg;obtain ⟨its,rv,p,hz⟩:=I.list hq;obtain ⟨u,hu,ru⟩:=rv.get hx;obtain ⟨f0,f1,f2,f3,f4,f5⟩:=hf it (by simp);refine wpAny_pyNext_list_item st p.isList (x:=u) (by simpa using hu) fun h' st' sb=>?_;have I1:Inv X pins σ H { s with heap:=h' }:=I.turned (t':=s.toks) (fun b o hb e=>(sb.2 b hb).trans e) f0 f1 f3 f4 f5;obtain ⟨o,e,c,d⟩:=id st';exact ⟨u,rfl,qps (s:={ s with heap:=h' }) e c d (by decide) ⟨x,H,I1,ru,⟨rfl,fun ys hy=>by rw [I.list_inj hy hq]; exact hx⟩,st',fun b hb=>(hf b hb).1⟩⟩
  done:=by
    intro X hP hw hK hc i pins s σ H E I hf st hg;subst hP hw hK;obtain ⟨xs,hq,hx⟩:=hg;obtain ⟨its,rv,p,hz⟩:=I.list hq;obtain ⟨f0,f1,f2,f3,f4,f5⟩:=hf it (by simp);have hl:=rv.length;exact wpAny_pyNext_list_end (I.ok.hd hc) st p.isList (by simp; omega) fun h' eb=>⟨rfl,I.turned (t':=s.toks) (fun b o hb e=>eb b o hb e) f0 f1 f3 f4 f5⟩
  self:=fun _ _ _ _ _ st h=>wpAny_pyIter_listiter st h
theorem qzm (a it:Addr):Turn P w K tg (Itt K a) [it] it (fun i h=>h.IsTupleIter it a i) where
  mem:=by simp
  obj:=fun i h st b hb=>by
    have e:b=it:=by simpa using hb
    subst e;obtain ⟨o,e,c,d⟩:=st;exact ⟨o,e,fun v z=>by rw [d] at z; cases z⟩
  keep:=fun i h h' st k=>st.at fun o e=>k it (by simp) o e
  item:=by
    intro X hP hw hK hc i pins s σ H E I hf st hg;subst hP hw hK;obtain ⟨xs,x,hq,hx⟩:=hg;obtain ⟨its,rv,p,hz⟩:=I.tuple hq;obtain ⟨u,hu,ru⟩:=rv.get hx;obtain ⟨f0,f1,f2,f3,f4,f5⟩:=hf it (by simp);refine wpAny_pyNext_tuple_item st (show s.heap.IsTuple a its.toArray from p) (x:=u) (by simpa using hu) fun h' st' sb=>?_;have I1:Inv X pins σ H { s with heap:=h' }:=I.turned (t':=s.toks) (fun b o hb e=>(sb.2 b hb).trans e) f0 f1 f3 f4 f5;obtain ⟨o,e,c,d⟩:=id st';exact ⟨u,rfl,qps (s:={ s with heap:=h' }) e c d (by decide) ⟨x,H,I1,ru,⟨rfl,fun ys hy=>by rw [I.tuple_inj hy hq]; exact hx⟩,st',fun b hb=>(hf b hb).1⟩⟩
  done:=by
    intro X hP hw hK hc i pins s σ H E I hf st hg;subst hP hw hK;obtain ⟨xs,hq,hx⟩:=hg;obtain ⟨its,rv,p,hz⟩:=I.tuple hq;obtain ⟨f0,f1,f2,f3,f4,f5⟩:=hf it (by simp);have hl:=rv.length;exact wpAny_pyNext_tuple_end (I.ok.hd hc) st (show s.heap.IsTuple a its.toArray from p) (by simp; omega) fun h' eb=>⟨rfl,I.turned (t':=s.toks) (fun b o hb e=>eb b o hb e) f0 f1 f3 f4 f5⟩
  self:=fun _ _ _ _ _ st h=>wpAny_pyIter_tupleiter st h
theorem qan (it:Addr)(lo:Int)(n:Nat):Turn P w K tg (Itr lo n) [it] it (fun i h=>IsRangeIter h it (lo+(i:Nat) * 1) ((n:Int) - (i:Nat)) 1) where
  mem:=by simp
  obj:=fun i h st b hb=>by
    have e:b=it:=by simpa using hb
    subst e
    exact ⟨_,st,fun v z=>by
      have z':Data.fields _=Data.cell v:=z
      cases z'⟩
  keep:=fun i h h' st k=>k it (by simp) _ st
  item:=by
    intro X hP hw hK hc i pins s σ H E I hf st hg;subst hP hw hK;obtain ⟨f0,f1,f2,f3,f4,f5⟩:=hf it (by simp);have W:=Walks.range (prog:=X.prog) (w:=X.w) (I.ok.hd hc) it lo 1 n;refine W.item i s _ _ hg st fun v h' tk hv st' kk=>?_;obtain ⟨t,rfl⟩:=hv;have I1:Inv X pins σ H { s with heap:=h',toks:=tk }:=I.turned (fun b o hb e=>kk b o (by simpa using hb) e) f0 f1 f3 f4 f5;refine ⟨_,rfl,qps (s:={ s with heap:=h',toks:=tk }) (n:="range_iterator") st' rfl rfl (by decide) ⟨.int (lo+i),H,I1,⟨t,?_⟩,⟨rfl,rfl⟩,st',fun b hb=>(hf b hb).1⟩⟩;rw [Int.mul_one]
  done:=by
    intro X hP hw hK hc i pins s σ H E I hf st hg;subst hP hw hK;obtain ⟨f0,f1,f2,f3,f4,f5⟩:=hf it (by simp);exact wpAny_pyNext_range_end (I.ok.hd hc) st (by have:n≤i:=hg; omega) fun h' eb=>⟨rfl,I.turned (t':=s.toks) (fun b o hb e=>eb b o hb e) f0 f1 f3 f4 f5⟩
  self:=fun _ _ _ _ _ st h=>wpAny_pyIter_rangeiter st h
end L2
namespace L2
open PySem PySem.Spec PyProof.Rows
variable {H:Hp}{fp:List Addr}{h:Heap}{l:Expr}{p:Addr×Obj}{pins pl:List (Addr×Obj)}{s:Shared}{tl:TE}{σ:St}
section
variable {X:Cx}{tg:Expr}
def iList (K:W.Frag)(tl:TE):TI:=fun σ H R=>tl σ H fun x H1=>∃ a,x=.ref a∧(∃ xs,SqL K H1 a xs)∧R (Itl K a) H1
def iTup (K:W.Frag)(tl:TE):TI:=fun σ H R=>tl σ H fun x H1=>∃ a,x=.ref a∧(∃ xs,SqT K H1 a xs)∧R (Itt K a) H1
theorem ql3 (hl:PE X l tl):PI X tg l (iList X.K tl):=by
  intro pins s σ H R I h;refine thn (hl pins s σ H _ I h) fun v s1 ⟨x,H1,I1,r1,q1⟩=>?_;obtain ⟨a,e,⟨xs,hq⟩,q⟩:=q1;subst e;cases r1;obtain ⟨its,rv,p,hz⟩:=I1.list hq;refine wpAny_pyIter_list p.isList ?_;refine ⟨s1.heap.objs.size,[s1.heap.objs.size],_,_,H1,rfl,I1.kept (t':=s1.toks) fun b o e=>Heap.get?_push_of_some _ e,qap a _,⟨_,Heap.get?_push_size _ rfl,rfl,rfl⟩,fun b hb=>?_,q⟩
  have e:b=s1.heap.objs.size:=by simpa using hb
  subst e;exact I1.fpOk (Nat.le_refl _) (I1.hok.fresh (Nat.le_refl _))
theorem pi_tup (hl:PE X l tl):PI X tg l (iTup X.K tl):=by
  intro pins s σ H R I h;refine thn (hl pins s σ H _ I h) fun v s1 ⟨x,H1,I1,r1,q1⟩=>?_;obtain ⟨a,e,⟨xs,hq⟩,q⟩:=q1;subst e;cases r1;obtain ⟨its,rv,p,hz⟩:=I1.tuple hq;refine wpAny_pyIter_tuple (show s1.heap.IsTuple a its.toArray from p) ?_;refine ⟨s1.heap.objs.size,[s1.heap.objs.size],_,_,H1,rfl,I1.kept (t':=s1.toks) fun b o e=>Heap.get?_push_of_some _ e,qzm a _,⟨_,Heap.get?_push_size _ rfl,rfl,rfl⟩,fun b hb=>?_,q⟩
  have e:b=s1.heap.objs.size:=by simpa using hb
  subst e;exact I1.fpOk (Nat.le_refl _) (I1.hok.fresh (Nat.le_refl _))
theorem range_it {pins:List (Addr×Obj)}{σ:St}{H:Hp}{s:Shared}{R:It→Hp→Prop}{E:Value→Shared→Prop}{lo hi:Int}{t u v:Tok}{tk:Nat}(I:Inv X pins σ H s)(h1:-(2 ^ 62)≤lo)(h2:lo<2 ^ 62)(h3:-(2 ^ 62)≤hi)(h4:hi<2 ^ 62)
    (q:R (Itr lo (hi - lo).toNat) H):wpAny (model X.prog X.w) X.A (pyIter (.ref s.heap.objs.size)) (PIE X pins σ tg R) E { s with heap:=s.heap.push { cls:=.type "range",data:=.fields #[.int lo t,.int hi u,.int 1 v] },toks:=tk }:=by
  refine wpAny_pyIter_range (IsRange.new ..) (small_one h1 h2 h3 h4) ?_;have I1:Inv X pins σ H { s with heap:=s.heap.push { cls:=.type "range",data:=.fields #[.int lo t,.int hi u,.int 1 v] },toks:=tk }:=I.kept fun b o e=>Heap.get?_push_of_some _ e
  refine ⟨(s.heap.push { cls:=.type "range",data:=.fields #[.int lo t,.int hi u,.int 1 v] }).objs.size,[(s.heap.push { cls:=.type "range",data:=.fields #[.int lo t,.int hi u,.int 1 v] }).objs.size],_,_,H,rfl,
    I1.kept (t':=tk) fun b o e=>Heap.get?_push_of_some _ e,qan _ lo (hi - lo).toNat,?_,fun b hb=>?_,q⟩
  · have e1:lo+((0:Nat):Int) * 1=lo:=by simp
    have e2:(((hi - lo).toNat:Nat):Int) - ((0:Nat):Int)=Builtin.Range.rangeSize lo hi 1:=by rw [rangeSize_one]; split <;> omega
    show IsRangeIter _ _ (lo+((0:Nat):Int) * 1) ((((hi - lo).toNat:Nat):Int) - ((0:Nat):Int)) 1;rw [e1,e2];exact Heap.get?_push_size _ rfl
  · have e:b=(s.heap.push { cls:=.type "range",data:=.fields #[.int lo t,.int hi u,.int 1 v] }).objs.size:=by simpa using hb
    subst e;exact I1.fpOk (Nat.le_refl _) (I1.hok.fresh (Nat.le_refl _))
def iRng1 (ta:TA):TI:=fun σ H R=>ta σ H fun vs H1=>∃ j:Int,vs=[.int j]∧-(2 ^ 62)≤j∧j<2 ^ 62∧R (Itr 0 j.toNat) H1
theorem qc3 {a:Expr}{ta:TA}{p pos:Pos}(hg:Gl X "range")(hm:X.mg "range"=none)(ha:PA X [a] ta)(hs:starEach [a] X.env=[(false,eval a X.env)]:=by rfl):PI X tg (.Call (.Name "range" p) [a] [] pos) (iRng1 ta):=by
  intro pins s σ H R I h;refine Call_ (qvc I hg hm boot_range (PyProof.Rows.callWith_type1 (thn (ha pos pins s σ H _ I h) fun us s1 ⟨vs,H1,I1,r1,q1⟩=>?_) hs rfl));obtain ⟨j,e,q1,q2,q⟩:=q1;subst e
  cases r1 with
  | cons r rr =>
    cases rr;obtain ⟨t,rfl⟩:=r;exact call_range_1 (range_it I1 (by omega) (by omega) q1 q2 (by simpa using q))
def tFor (wi:TI)(g:TG)(tb:TS):TS:=fun D σ H=>wi σ H fun J H1=>∃ W:Nat→Nat→St→Hp→Prop,(∃ m,W 0 m σ H1)∧∀ i m σ H,W i m σ H →
  (J.stop i H∧D.nx σ H)∨(J.go i H∧∃ N:St→Hp→Prop,(∀ σ' H',N σ' H'→∃ m',m'<m∧W (i+1) m' σ' H')∧∀ x H',J.yld i H x H'→g x σ H' fun σ2 H2=>tb { D with nx:=N,ct:=N,bk:=D.nx } σ2 H2)
def quh (fp:List Addr)(h:Heap):List (Addr×Obj):=fp.filterMap fun b=>(h.get? b).map fun o=>(b,o)
theorem qa8 {b:Addr}{o:Obj}(hb:b∈fp)(e:h.get? b=some o):(b,o)∈quh fp h:=List.mem_filterMap.mpr ⟨b,hb,by rw [e]; rfl⟩
theorem qpr (hp:p∈quh fp h):p.1∈fp∧h.get? p.1=some p.2:=by
  obtain ⟨b,hb,e⟩:=List.mem_filterMap.mp hp
  cases q:h.get? b with
  | none=>rw [q] at e; cases e
  | some o =>
    rw [q] at e;have e':(b,o)=p:=Option.some.inj e;subst e';exact ⟨hb,q⟩
theorem Inv.pinned (I:Inv X pins σ H s)(hf:∀ b∈fp,FpOk X pins H b)(ho:∀ b∈fp,∃ o,s.heap.get? b=some o∧∀ v,o.data≠.cell v):Inv X (pins++quh fp s.heap) σ H s :=
  I.pins_of fun p hp=>(List.mem_append.mp hp).elim (fun z=>I.pin p (List.mem_append_right _ z)) fun z=>by
    obtain ⟨hb,e⟩:=qpr z;obtain ⟨f0,f1,f2,_⟩:=hf p.1 hb;obtain ⟨o,e',d⟩:=ho p.1 hb;rw [e] at e'; cases e';exact ⟨e,f0,f1,f2,d⟩
theorem Inv.unpinned (I:Inv X (pins++pl) σ H s):Inv X pins σ H s:=I.pins_of fun p hp=>I.pin p (List.mem_append_right _ (List.mem_append_left _ hp))
theorem qb3 {iter:Expr}{body:List Stmt}{wi:TI}{g:TG}{tb:TS}{pos:Pos}(hp:PassesOwn (model X.prog X.w) X.A X.env X.xe)(hc:X.calm=true)(hi:PI X tg iter wi)(hg:PG X tg g)(hb:PSs X body tb)
    (hs:∀ x,foldedSetIterable iter X.env x=pure x:=by intro _; rfl):PS X (.For tg iter body [] pos) (tFor wi g tb):=by
  intro pins s σ H D I h;refine wpAny_For (thn (hi pins s σ H _ I h) fun v s1 h1=>thn h1 fun itv s2 h2=>?_) hs;obtain ⟨it,fp,tn,J,H2,e,I2,T,st2,f2,W,⟨m0,w0⟩,turn⟩:=h2;subst e
  -- what stays true of the iterator's objects through the loop
  have stat:∀ {H':Hp},(∀ b∈fp,H' b=none)→∀ b∈fp,FpOk X pins H' b:=fun hn b hb=>⟨hn b hb,(f2 b hb).2⟩;refine codeAny_forLoop_any (fun n s'=>∃ i σ' H',Inv X pins σ' H' s'∧tn i s'.heap∧(∀ b∈fp,H' b=none)∧W i n σ' H') ?_ m0 ⟨0,σ,H2,I2,st2,fun b hb=>(f2 b hb).1,w0⟩
  rintro n s3 ⟨i,σ3,H3,I3,st3,fr3,w3⟩
  rcases turn i n σ3 H3 w3 with ⟨stop,qn⟩ | ⟨go,N,hN,step⟩
  · refine wpAny_passesOwn hp (thn (T.done X rfl rfl rfl hc i pins s3 σ3 H3 X.xe I3 (stat fr3) st3 stop) fun r s4 ⟨hr,I4⟩=>?_)
    subst hr;exact wpAny_execs_nil ⟨σ3,H3,I4,qn⟩
  · refine wpAny_passesOwn hp (thn (T.item X rfl rfl rfl hc i pins s3 σ3 H3 X.xe I3 (stat fr3) st3 go) fun r s4 ⟨u,hr,h4⟩=>?_)
    subst hr;refine wpAny_passesOwn hp (thn h4 fun _ s5 ⟨x,H5,I5,r5,y5,st5,fr5⟩=>?_);have I5':=I5.pinned (stat fr5) (T.obj _ _ st5);refine wpAny_passesOwn hp (thn (hg _ s5 σ3 H5 x u _ I5' r5 (step x H5 y5)) fun _ s6 ⟨σ6,H6,I6,q6⟩=>?_);refine wpAny_passesOwn hp (thn (hb _ s6 σ6 H6 _ I6 q6) fun f s7 q7=>?_)
    have again:∀ {σ7:St} {H7:Hp},Inv X (pins++quh fp s5.heap) σ7 H7 s7→N σ7 H7→∃ m,m<n∧∃ i σ' H',Inv X pins σ' H' s7∧tn i s7.heap∧(∀ b∈fp,H' b=none)∧W i m σ' H':=fun {σ7 H7} I7 n7=>by
      obtain ⟨m',hm,w7⟩:=hN σ7 H7 n7;refine ⟨m',hm,i+1,σ7,H7,I7.unpinned,T.keep _ _ _ st5 fun b hb o e=>(I7.pin (b,o) (List.mem_append_right _ (List.mem_append_right _ (qa8 hb e)))).1,fun b hb=>?_,w7⟩;obtain ⟨o,e,d⟩:=T.obj _ _ st5 b hb;exact (I7.pin (b,o) (List.mem_append_right _ (List.mem_append_right _ (qa8 hb e)))).2.1
    cases f with
    | next=>obtain ⟨σ7,H7,I7,n7⟩:=q7; exact again I7 n7
    | cont=>obtain ⟨σ7,H7,I7,n7⟩:=q7; exact again I7 n7
    | brk=>obtain ⟨σ7,H7,I7,q7⟩:=q7; exact ⟨σ7,H7,I7.unpinned,q7⟩
    | ret v=>obtain ⟨x7,σ7,H7,I7,r7,q7⟩:=q7; exact ⟨x7,σ7,H7,I7.unpinned,r7,q7⟩
end
theorem qnw {K:W.Frag}{a:Addr}{xs:List V}{g:TG}{tb:TS}{D:Ends}{σ:St}{H:Hp}(Pv:Nat→St→Hp→Prop)(h0:Pv 0 σ H)(hl:∀ i σ H,i≤xs.length→Pv i σ H→SqL K H a xs)
    (hs:∀ i x σ H,xs[i]?=some x→Pv i σ H→g x σ H fun σ2 H2=>tb { D with nx:=Pv (i+1),ct:=Pv (i+1),bk:=D.nx } σ2 H2) (hd:∀ σ H,Pv xs.length σ H→D.nx σ H) :
    ∃ W:Nat→Nat→St→Hp→Prop,(∃ m,W 0 m σ H)∧∀ i m σ H,W i m σ H →
      ((Itl K a).stop i H∧D.nx σ H)∨((Itl K a).go i H∧∃ N:St→Hp→Prop,(∀ σ' H',N σ' H'→∃ m',m'<m∧W (i+1) m' σ' H')∧∀ x H',(Itl K a).yld i H x H'→g x σ H' fun σ2 H2=>tb { D with nx:=N,ct:=N,bk:=D.nx } σ2 H2):=by
  refine ⟨fun i m σ H=>m=xs.length - i∧i≤xs.length∧Pv i σ H,⟨xs.length,by simp,Nat.zero_le _,h0⟩,?_⟩
  rintro i m σ H ⟨rfl,hi,p⟩
  have q:=hl i σ H hi p
  by_cases hlt:i<xs.length
  · refine .inr ⟨⟨xs,xs[i],q,by simp [hlt]⟩,Pv (i+1),fun σ' H' p'=>⟨xs.length - (i+1),by omega,rfl,hlt,p'⟩,fun x H' y=>?_⟩
    obtain ⟨e,y⟩:=y;subst e;exact hs i x σ _ (y xs q) p
  · have e:i=xs.length:=by omega
    subst e;exact .inl ⟨⟨xs,q,Nat.le_refl _⟩,hd σ H p⟩
theorem qss {lo:Int}{n:Nat}{g:TG}{tb:TS}{D:Ends}{σ:St}{H:Hp}(Pv:Nat→St→Hp→Prop)(h0:Pv 0 σ H)
    (hs:∀ i σ H,i<n→Pv i σ H→g (.int (lo+i)) σ H fun σ2 H2=>tb { D with nx:=Pv (i+1),ct:=Pv (i+1),bk:=D.nx } σ2 H2) (hd:∀ σ H,Pv n σ H→D.nx σ H) :
    ∃ W:Nat→Nat→St→Hp→Prop,(∃ m,W 0 m σ H)∧∀ i m σ H,W i m σ H →
      ((Itr lo n).stop i H∧D.nx σ H)∨((Itr lo n).go i H∧∃ N:St→Hp→Prop,(∀ σ' H',N σ' H'→∃ m',m'<m∧W (i+1) m' σ' H')∧∀ x H',(Itr lo n).yld i H x H'→g x σ H' fun σ2 H2=>tb { D with nx:=N,ct:=N,bk:=D.nx } σ2 H2):=by
  refine ⟨fun i m σ H=>m=n - i∧i≤n∧Pv i σ H,⟨n,by simp,Nat.zero_le _,h0⟩,?_⟩
  rintro i m σ H ⟨rfl,hi,p⟩
  by_cases hlt:i<n
  · refine .inr ⟨hlt,Pv (i+1),fun σ' H' p'=>⟨n - (i+1),by omega,rfl,hlt,p'⟩,fun x H' y=>?_⟩
    obtain ⟨e,y⟩:=y;subst e y;exact hs i σ _ hlt p
  · have e:i=n:=by omega
    subst e;exact .inl ⟨Nat.le_refl _,hd σ H p⟩
end L2
namespace L2
open PySem PySem.Spec PyProof.Rows
variable {op:CmpOp}{pins:List (Addr×Obj)}{r:V→Hp→VK→Prop}{us:List Value}
abbrev R2:=V→V→Hp→VK→Prop
def OpR (X:Cx)(f:Value→Value→Sem Value)(r:R2):Prop :=
  ∀ (pins:List (Addr×Obj)) (s:Shared) (σ:St) (H:Hp) (x y:V) (v u:Value) (Q:VK),Inv X pins σ H s→RelV x v→RelV y u→r x y H Q →
    wpAny (model X.prog X.w) X.A (f v u) (EP X pins σ Q) X.xe s
def UnR (X:Cx)(f:Value→Sem Value)(r:V→Hp→VK→Prop):Prop :=
  ∀ (pins:List (Addr×Obj)) (s:Shared) (σ:St) (H:Hp) (x:V) (v:Value) (Q:VK),Inv X pins σ H s→RelV x v→r x H Q →
    wpAny (model X.prog X.w) X.A (f v) (EP X pins σ Q) X.xe s
def qn6 (X:Cx)(f:Value)(r:List V→Hp→VK→Prop):Prop :=
  ∀ (pins:List (Addr×Obj)) (s:Shared) (σ:St) (H:Hp) (xs:List V) (us:List Value) (Q:VK),Inv X pins σ H s→Vals xs us→r xs H Q →
    wpAny (model X.prog X.w) X.A (call f us) (EP X pins σ Q) X.xe s
def tOp (r:R2)(ta tb:TE):TE:=fun σ H Q=>ta σ H fun x H1=>tb σ H1 fun y H2=>r x y H2 Q
def tUn (r:V→Hp→VK→Prop)(ta:TE):TE:=fun σ H Q=>ta σ H fun x H1=>r x H1 Q
def rI (C:Int→Int→Prop)(g:Int→Int→V):R2:=fun x y H Q=>∃ i j,x=.int i∧y=.int j∧C i j∧Q (g i j) H
def rI0 (g:Int→Int→V):R2:=fun x y H Q=>∃ i j,x=.int i∧y=.int j∧Q (g i j) H
def rU (g:Int→V):V→Hp→VK→Prop:=fun x H Q=>∃ i,x=.int i∧Q (g i) H
section
variable {X:Cx}{a b c:Expr}{ta tb tc:TE}{pos:Pos}
theorem binT (ha:PE X a ta)(hb:PE X b tb){pins:List (Addr×Obj)}{s:Shared}{σ:St}{H:Hp}{R:V→V→Hp→Prop}(I:Inv X pins σ H s)
    (h:ta σ H fun x H1=>tb σ H1 fun y H2=>R x y H2) {Q:Value→Shared→Prop} {f:Value→Value→Sem Value}
    (hf:∀ v u s2 x y H2,Inv X pins σ H2 s2→RelV x v→RelV y u→R x y H2→wpAny (model X.prog X.w) X.A (f v u) Q X.xe s2) :
    wpAny (model X.prog X.w) X.A (eval a X.env) (fun v s₁=>wpAny (model X.prog X.w) X.A (eval b X.env) (fun u s₂=>wpAny (model X.prog X.w) X.A (f v u) Q X.xe s₂) X.xe s₁) X.xe s:=by
  refine thn (ha pins s σ H _ I h) fun v s1 ⟨x,H1,I1,r1,q1⟩=>?_;refine thn (hb pins s1 σ H1 _ I1 q1) fun u s2 ⟨y,H2,I2,r2,q2⟩=>?_;exact hf v u s2 x y H2 I2 r1 r2 q2
theorem qj {op:Operator}{r:R2}(ho:OpR X (binaryOp op) r)(ha:PE X a ta)(hb:PE X b tb):PE X (.BinOp a op b pos) (tOp r ta tb):=by
  intro pins s σ H Q I h;exact wpAny_BinOp (binT ha hb I h fun v u s2 x y H2 I2 rx ry q=>ho pins s2 σ H2 x y v u Q I2 rx ry q)
theorem pe_un {op:UnaryOp}(ho:UnR X (unaryOp op) r)(ha:PE X a ta):PE X (.UnaryOp op a pos) (tUn r ta):=by
  intro pins s σ H Q I h;exact UnaryOp_ (thn (ha pins s σ H _ I h) fun v s1 ⟨x,H1,I1,r1,q1⟩=>ho pins s1 σ H1 x v Q I1 r1 q1)
theorem opI {f:Value→Value→Sem Value}{C:Int→Int→Prop}{g:Int→Int→Int}
    (rule:∀ (i j:Int) (t u:Tok) (s:Shared) (Q:Value→Shared→Prop) (E:Value→Shared→Prop),C i j→Q (.int (g i j) s.toks) { s with toks:=s.toks+1 }→wpAny (model X.prog X.w) X.A (f (.int i t) (.int j u)) Q E s) :
    OpR X f (rI C fun i j=>.int (g i j)):=by
  intro pins s σ H x y v u Q I rx ry h;obtain ⟨i,j,rfl,rfl,hc,q⟩:=h;obtain ⟨t,rfl⟩:=rx;obtain ⟨t',rfl⟩:=ry;exact rule i j t t' s _ _ hc ⟨.int (g i j),H,I.tok _,⟨_,rfl⟩,q⟩
theorem opI0 {f:Value→Value→Sem Value}{g:Int→Int→Int}
    (rule:∀ (i j:Int) (t u:Tok) (s:Shared) (Q:Value→Shared→Prop) (E:Value→Shared→Prop),Q (.int (g i j) s.toks) { s with toks:=s.toks+1 }→wpAny (model X.prog X.w) X.A (f (.int i t) (.int j u)) Q E s) :
    OpR X f (rI0 fun i j=>.int (g i j)):=by
  intro pins s σ H x y v u Q I rx ry h;obtain ⟨i,j,rfl,rfl,q⟩:=h;obtain ⟨t,rfl⟩:=rx;obtain ⟨t',rfl⟩:=ry;exact rule i j t t' s _ _ ⟨.int (g i j),H,I.tok _,⟨_,rfl⟩,q⟩
theorem opB0 {f:Value→Value→Sem Value}{g:Int→Int→Bool}
    (rule:∀ (i j:Int) (t u:Tok) (s:Shared) (Q:Value→Shared→Prop) (E:Value→Shared→Prop),Q (.bool (g i j)) s→wpAny (model X.prog X.w) X.A (f (.int i t) (.int j u)) Q E s) :
    OpR X f (rI0 fun i j=>.bl (g i j)):=by
  intro pins s σ H x y v u Q I rx ry h;obtain ⟨i,j,rfl,rfl,q⟩:=h;obtain ⟨t,rfl⟩:=rx;obtain ⟨t',rfl⟩:=ry;exact rule i j t t' s _ _ ⟨.bl (g i j),H,I,rfl,q⟩
def CPow (i j:Int):Prop:=0≤j∧j≤1000000∧i.natAbs<2 ^ 64
def CMul (i j:Int):Prop:=(-(2 ^ 64)<i∧i<2 ^ 64)∨(-(2 ^ 64)<j∧j<2 ^ 64)
theorem CMul.ok {i j:Int}(h:CMul i j):IntMulOk i j:=by
  rcases h with ⟨h1,h2⟩ | ⟨h1,h2⟩
  · exact .of_left (intBits_le_64 h1 h2)
  · exact .of_right (intBits_le_64 h1 h2)
theorem qb1:OpR X (binaryOp .Add) (rI0 fun i j=>.int (i+j)):=opI0 fun _ _ _ _ _ _ _ q=>add_int q
theorem qce:OpR X (binaryOp .Sub) (rI0 fun i j=>.int (i - j)):=opI0 fun _ _ _ _ _ _ _ q=>sub_int q
theorem qw6:OpR X (binaryOp .Mult) (rI CMul fun i j=>.int (i * j)):=opI fun _ _ _ _ _ _ _ hc q=>mul_int q hc.ok
theorem qu1:OpR X (binaryOp .Mod) (rI (fun _ j=>0<j) fun i j=>.int (i % j)):=opI fun i j _ _ _ _ _ hc q=>by
  have h1:(0:Int)<j:=hc;exact mod_int' (by omega) (by rw [Int.fmod_eq_emod_of_nonneg i (by omega)]; exact q)
theorem op_pow:OpR X (binaryOp .Pow) (rI CPow fun i j=>.int (i ^ j.toNat)):=opI fun _ _ _ _ _ _ _ hc q=>pow_int_small hc.1 hc.2.1 hc.2.2 q
theorem unI {f:Value→Sem Value}{g:Int→Int}
    (rule:∀ (i:Int) (t:Tok) (s:Shared) (Q:Value→Shared→Prop) (E:Value→Shared→Prop),Q (.int (g i) s.toks) { s with toks:=s.toks+1 }→wpAny (model X.prog X.w) X.A (f (.int i t)) Q E s) :
    UnR X f (rU fun i=>.int (g i)):=by
  intro pins s σ H x v Q I rx h;obtain ⟨i,rfl,q⟩:=h;obtain ⟨t,rfl⟩:=rx;exact rule i t s _ _ ⟨.int (g i),H,I.tok _,⟨_,rfl⟩,q⟩
theorem un_neg:UnR X (unaryOp .USub) (rU fun i=>.int (-i)):=unI fun _ _ _ _ _ q=>neg_int q
end
def scal:V→V→Bool
  | .non,.non=>true | .non,.int _=>true | .int _,.non=>true | .non,.bl _=>true | .bl _,.non=>true | .non,.str _=>true | .str _,.non=>true
  | .int _,.int _=>true | .bl _,.bl _=>true | .str _,.str _=>true | .byt _,.byt _=>true
  | .int _,.str _=>true | .str _,.int _=>true | .bl _,.str _=>true | .str _,.bl _=>true
  | _,_=>false
def rEq:R2:=fun x y H Q=>scal x y=true∧Q (.bl (decide (x=y))) H
def rNe:R2:=fun x y H Q=>scal x y=true∧Q (.bl (!decide (x=y))) H
theorem qkg {i j:Int}:decide (V.int i=V.int j)=(i == j):=by
  rw [Bool.eq_iff_iff];simp
theorem dec_bl {i j:Bool}:decide (V.bl i=V.bl j)=(i == j):=by
  rw [Bool.eq_iff_iff];simp
theorem qjg {i j:Str}:decide (V.str i=V.str j)=(i == j):=by
  rw [Bool.eq_iff_iff];simp
theorem qws {i j:Array UInt8}:decide (V.byt i=V.byt j)=(i.toList == j.toList):=by
  rw [Bool.eq_iff_iff];cases i;cases j;simp
section
variable {X:Cx}{a b c:Expr}{ta tb tc:TE}{pos:Pos}
theorem qv1 {σ:St}{H:Hp}{s:Shared}{Q:VK}{k k':Bool}(I:Inv X pins σ H s)(q:Q (.bl k) H)(e:k=k'):EP X pins σ Q (.bool k') s:=by
  subst e;exact ⟨.bl k,H,I,rfl,q⟩
theorem qq4:OpR X (compareOp .Eq) rEq:=by
  intro pins s σ H x y v u Q I rx ry h;obtain ⟨hs,q⟩:=h
  cases x with
  | non =>
    cases rx
    cases y with
    | non=>cases ry; exact PySem.EqNone.eq_none_none (qv1 I q (by simp))
    | bl j=>cases ry; exact PySem.EqNone.eq_none_bool (qv1 I q (by simp))
    | int j=>obtain ⟨t',rfl⟩:=ry; exact PySem.EqNone.eq_none_int (qv1 I q (by simp))
    | str j=>obtain ⟨t',rfl⟩:=ry; exact PySem.EqNone.eq_none_str (qv1 I q (by simp))
    | _=>exact absurd (show false=true from hs) Bool.false_ne_true
  | bl i =>
    cases rx
    cases y with
    | non=>cases ry; exact PySem.EqNone.eq_bool_none (qv1 I q (by simp))
    | bl j=>cases ry; exact eq_bool (qv1 I q dec_bl)
    | str j=>obtain ⟨t',rfl⟩:=ry; exact PySem.EqMixed.eq_bool_str (qv1 I q (by simp))
    | _=>exact absurd (show false=true from hs) Bool.false_ne_true
  | int i =>
    obtain ⟨t,rfl⟩:=rx
    cases y with
    | non=>cases ry; exact PySem.EqNone.eq_int_none (qv1 I q (by simp))
    | int j=>obtain ⟨t',rfl⟩:=ry; exact eq_int (qv1 I q qkg)
    | str j=>obtain ⟨t',rfl⟩:=ry; exact PySem.EqMixed.eq_int_str (qv1 I q (by simp))
    | _=>exact absurd (show false=true from hs) Bool.false_ne_true
  | str i =>
    obtain ⟨t,rfl⟩:=rx
    cases y with
    | non=>cases ry; exact PySem.EqNone.eq_str_none (qv1 I q (by simp))
    | bl j=>cases ry; exact PySem.EqMixed.eq_str_bool (qv1 I q (by simp))
    | int j=>obtain ⟨t',rfl⟩:=ry; exact PySem.EqMixed.eq_str_int (qv1 I q (by simp))
    | str j=>obtain ⟨t',rfl⟩:=ry; exact eq_str (qv1 I q qjg)
    | _=>exact absurd (show false=true from hs) Bool.false_ne_true
  | byt i =>
    obtain ⟨t,rfl⟩:=rx
    cases y with
    | byt j=>obtain ⟨t',rfl⟩:=ry; exact PySem.W.eq_bytes (qv1 I q qws)
    | _=>exact absurd (show false=true from hs) Bool.false_ne_true
  | _=>cases y <;> exact absurd (show false=true from hs) Bool.false_ne_true
theorem qiv:OpR X (compareOp .NotEq) rNe:=by
  intro pins s σ H x y v u Q I rx ry h;obtain ⟨hs,q⟩:=h
  cases x with
  | non =>
    cases rx
    cases y with
    | non=>cases ry; exact PySem.EqNone.ne_none_none (qv1 I q (by simp))
    | bl j=>cases ry; exact PySem.EqNone.ne_none_bool (qv1 I q (by simp))
    | int j=>obtain ⟨t',rfl⟩:=ry; exact PySem.EqNone.ne_none_int (qv1 I q (by simp))
    | str j=>obtain ⟨t',rfl⟩:=ry; exact PySem.EqNone.ne_none_str (qv1 I q (by simp))
    | _=>exact absurd (show false=true from hs) Bool.false_ne_true
  | bl i =>
    cases rx
    cases y with
    | non=>cases ry; exact PySem.EqNone.ne_bool_none (qv1 I q (by simp))
    | bl j=>cases ry; exact ne_bool (qv1 I q (congrArg not dec_bl))
    | str j=>obtain ⟨t',rfl⟩:=ry; exact PySem.EqMixed.ne_bool_str (qv1 I q (by simp))
    | _=>exact absurd (show false=true from hs) Bool.false_ne_true
  | int i =>
    obtain ⟨t,rfl⟩:=rx
    cases y with
    | non=>cases ry; exact PySem.EqNone.ne_int_none (qv1 I q (by simp))
    | int j=>obtain ⟨t',rfl⟩:=ry; exact ne_int (qv1 I q (congrArg not qkg))
    | str j=>obtain ⟨t',rfl⟩:=ry; exact PySem.EqMixed.ne_int_str (qv1 I q (by simp))
    | _=>exact absurd (show false=true from hs) Bool.false_ne_true
  | str i =>
    obtain ⟨t,rfl⟩:=rx
    cases y with
    | non=>cases ry; exact PySem.EqNone.ne_str_none (qv1 I q (by simp))
    | bl j=>cases ry; exact PySem.EqMixed.ne_str_bool (qv1 I q (by simp))
    | int j=>obtain ⟨t',rfl⟩:=ry; exact PySem.EqMixed.ne_str_int (qv1 I q (by simp))
    | str j=>obtain ⟨t',rfl⟩:=ry; exact ne_str (qv1 I q (congrArg not qjg))
    | _=>exact absurd (show false=true from hs) Bool.false_ne_true
  | byt i =>
    obtain ⟨t,rfl⟩:=rx
    cases y with
    | byt j=>obtain ⟨t',rfl⟩:=ry; exact PySem.W.ne_bytes (qv1 I q (congrArg not qws))
    | _=>exact absurd (show false=true from hs) Bool.false_ne_true
  | _=>cases y <;> exact absurd (show false=true from hs) Bool.false_ne_true
theorem qod:OpR X (compareOp .Lt) (rI0 fun i j=>.bl (decide (i<j))):=opB0 fun _ _ _ _ _ _ _ q=>lt_int q
theorem qrn:OpR X (compareOp .Gt) (rI0 fun i j=>.bl (decide (j<i))):=opB0 fun _ _ _ _ _ _ _ q=>gt_int q
theorem qai:OpR X (compareOp .Is) (fun x y H Q=>y=.non∧Q (.bl (decide (x=.non))) H):=by
  intro pins s σ H x y v u Q I rx ry h;obtain ⟨rfl,q⟩:=h;cases ry;refine is_none_gen (qv1 I q ?_)
  cases x <;> first
    | (cases rx; rfl)
    | (obtain ⟨t,rfl⟩:=rx; rfl)
theorem qdr:OpR X (compareOp .IsNot) (fun x y H Q=>y=.non∧Q (.bl (!decide (x=.non))) H):=by
  intro pins s σ H x y v u Q I rx ry h;obtain ⟨rfl,q⟩:=h;cases ry;refine isnot_none_gen (qv1 I q ?_)
  cases x <;> first
    | (cases rx; rfl)
    | (obtain ⟨t,rfl⟩:=rx; rfl)
theorem qs0 (b:Expr)(h:op≠.In:=by decide)(h2:op≠.NotIn:=by decide):behindInMarks op b=false:=by
  have e1:(op == CmpOp.In)=false:=by cases op <;> first | rfl | exact absurd rfl h
  have e2:(op == CmpOp.NotIn)=false:=by cases op <;> first | rfl | exact absurd rfl h2
  cases b <;> simp [behindInMarks,e1,e2]
theorem qq9 {r:R2}(ho:OpR X (compareOp op) r)(ha:PE X a ta)(hb:PE X b tb)(hm:behindInMarks op b=false):PE X (.Compare a [op] [b] pos) (tOp r ta tb):=by
  intro pins s σ H Q I h;exact wpAny_Compare1 (binT ha hb I h fun v u s2 x y H2 I2 rx ry q=>ho pins s2 σ H2 x y v u Q I2 rx ry q) hm
def tTest (t:TE):TT:=fun σ H Q=>t σ H fun x H'=>∃ k,x=.bl k∧Q k H'
theorem qk {r:R2}(ho:OpR X (compareOp op) r)(ha:PE X a ta)(hb:PE X b tb)(hm:behindInMarks op b=false):PT X (.Compare a [op] [b] pos) (tTest (tOp r ta tb)):=by
  intro pins s σ H Q I h
  refine wpAny_isTrue_Compare1 (thn (ha pins s σ H _ I h) fun v s1 ⟨x,H1,I1,r1,q1⟩=>thn (hb pins s1 σ H1 _ I1 q1) fun u s2 ⟨y,H2,I2,r2,q2⟩ =>
    thn (ho pins s2 σ H2 x y v u _ I2 r1 r2 q2) fun c s3 ⟨z,H3,I3,r3,k,e,q3⟩=>?_) hm
  subst e;cases r3;exact wpAny_truthy_bool ⟨H3,I3,q3⟩
theorem qhi:(sizeLine:Nat)<2 ^ 63:=by rw [sizeLine_eq]; decide
theorem qsn:OpR X (binaryOp .Add) (fun x y H Q=>∃ i j,x=.str i∧y=.str j∧i.length+j.length≤sizeLine∧Q (.str (i++j)) H):=by
  intro pins s σ H x y v u Q I rx ry h;obtain ⟨i,j,rfl,rfl,hz,q⟩:=h;obtain ⟨t,rfl⟩:=rx;obtain ⟨t',rfl⟩:=ry;exact add_str (fun t' tk=>⟨.str (i++j),H,I.tok _,⟨_,rfl⟩,q⟩) hz
theorem qyo {x:V}(r:Vals [x] us):∃ u,us=[u]∧RelV x u:=by
  cases r with
  | cons r1 r2=>cases r2; exact ⟨_,rfl,r1⟩
theorem vals2 {x y:V}(r:Vals [x,y] us):∃ u w',us=[u,w']∧RelV x u∧RelV y w':=by
  cases r with
  | cons r1 r2 =>
    cases r2 with
    | cons r3 r4=>cases r4; exact ⟨_,_,rfl,r1,r3⟩
theorem qkt (hc:X.calm=true):qn6 X (.builtin "max") (fun xs H Q=>∃ i j,xs=[.int i,.int j]∧Q (.int (if j > i then j else i)) H):=by
  intro pins s σ H xs us Q I r h;obtain ⟨i,j,rfl,q⟩:=h;obtain ⟨u,w',rfl,⟨t,rfl⟩,⟨t',rfl⟩⟩:=vals2 r;refine max_two_ints (I.ok.hd hc) fun h' tk k=>⟨_,H,I.kept k,?_,q⟩
  by_cases hj:j > i
  · rw [if_pos hj,if_pos hj]; exact ⟨_,rfl⟩
  · rw [if_neg hj,if_neg hj]; exact ⟨_,rfl⟩
theorem qjt (hc:X.calm=true):qn6 X (.builtin "min") (fun xs H Q=>∃ i j,xs=[.int i,.int j]∧Q (.int (if j<i then j else i)) H):=by
  intro pins s σ H xs us Q I r h;obtain ⟨i,j,rfl,q⟩:=h;obtain ⟨u,w',rfl,⟨t,rfl⟩,⟨t',rfl⟩⟩:=vals2 r;refine min_two_ints (I.ok.hd hc) fun h' tk k=>⟨_,H,I.kept k,?_,q⟩
  by_cases hj:j<i
  · rw [if_pos hj,if_pos hj]; exact ⟨_,rfl⟩
  · rw [if_neg hj,if_neg hj]; exact ⟨_,rfl⟩
theorem qmt:qn6 X (.type "int") (fun xs H Q=>(∃ i,xs=[.int i]∧Q (.int i) H)∨∃ k,xs=[.bl k]∧Q (.int (if k then 1 else 0)) H):=by
  intro pins s σ H xs us Q I r h
  rcases h with ⟨i,rfl,q⟩ | ⟨k,rfl,q⟩
  · obtain ⟨u,rfl,t,rfl⟩:=qyo r
    exact call_int_int ⟨.int i,H,I,⟨_,rfl⟩,q⟩
  · obtain ⟨u,rfl,r1⟩:=qyo r
    cases r1;exact call_int_bool ⟨.int (if k then 1 else 0),H,I.tok _,⟨_,rfl⟩,q⟩
end
end L2
namespace L2
open PySem PySem.Spec PyProof.Rows
variable {u:Value}
structure ObjM (h:Heap)(x dx C:Addr)(mA:Str→Option Value):Prop where
  obj:h.get? x=some (PySem.W.instObj C dx)
  ns:h.Ns1 dx mA
  ne:dx≠x
theorem qyr {h:Heap}{dx:Addr}{mA:Str→Option Value}(n:h.Ns1 dx mA):∃ od,h.get? dx=some od∧∀ name,W.lookIn name od=some (mA name):=by
  obtain ⟨o,es,ep,ho,hd,hk,_,hm⟩:=n;refine ⟨o,ho,fun name=>?_⟩;have e:=hm name;unfold nsFind findBy at e;rw [← Array.find?_toList] at e;unfold PySem.W.lookIn;rw [hd]
  dsimp only
  split
  · rename_i y q
    rw [q] at e;exact congrArg some e
  · rename_i q
    rw [q] at e
    have a:es.toList.any (·.refKey)=false:=by
      rw [List.any_eq_false];intro y hy;obtain ⟨z,t,hkey⟩:=hk y (Array.mem_toList_iff.mp hy);simp [DictEntry.refKey,hkey]
    have a':¬ es.toList.any (·.refKey)=true:=by rw [a]; exact Bool.false_ne_true
    rw [if_neg a'];exact congrArg some e
theorem ObjM.look {h:Heap}{x dx C:Addr}{mA:Str→Option Value}(I:ObjM h x dx C mA):∃ od,W.InstAt h x (W.instObj C dx) C (some od)∧∀ name,W.lookIn name od=some (mA name) :=
  let ⟨od,ho,hl⟩:=qyr I.ns
  ⟨od,⟨I.obj,rfl,rfl,ho⟩,hl⟩
section
variable {prog:Program}{w:World}{A:Around}{E:Value→Shared→Prop}{s:Shared}{K:W.Frag}{x dx C f:Addr}{mA:Str→Option Value}{name:Str}{v:Value}
theorem get_map {expr:Bool}{Q:Value→Shared→Prop}(X:K.In s.heap)(I:ObjM s.heap x dx C mA)(hg:W.plainGet K C name=true)(hh:W.hasDictIn K C=true)
    (ha:PySem.W.findIn K (.ref C) name=some none) (hv:mA name=some v) (hv':PySem.W.handedIn v=true) (h:Q v { s with toks:=s.toks+1 }) :
    wpAny (model prog w) A (getAttr (.ref x) name expr) Q E s:=by
  obtain ⟨od,J,hl⟩:=I.look;exact PySem.W.get_value X J (PySem.W.plainGet_of hg).1 (PySem.W.findObj_own hh ha rfl (by rw [hl,hv])) hv' h
theorem qlw {pl:Sem Bool}{Q:Value×List Value→Shared→Prop}(X:K.In s.heap)(I:ObjM s.heap x dx C mA)(hg:W.plainGet K C name=true)
    (hf:PySem.W.findIn K (.ref C) name=some (some (.ref f))) (ht:PySem.W.isFn K (.ref f)=true) (hv:mA name=none) (h:Q (.ref f,[.ref x]) s) :
    wpAny (model prog w) A (getMethod (.ref x) name pl) Q E s:=by
  obtain ⟨od,J,hl⟩:=I.look;exact PySem.W.method_fn X J (PySem.W.plainGet_of hg).1 (PySem.W.plainGet_of hg).2 hf (beq_iff_eq.mp ht) (by show (PySem.W.lookIn name od).map (·.isSome)=some false; rw [hl,hv]; rfl) h
theorem set_map {ns:List Str}{Q:Unit→Shared→Prop}(X:K.In s.heap)(I:ObjM s.heap x dx C mA)
    (hs:PySem.W.findIn K (.ref C) "__setattr__"=some (some (.builtin "object.__setattr__"))) (hp:PySem.W.plainOver K C=true) (ht:PySem.W.takerIn K C name=some none) (hh:PySem.W.hasDictIn K C=true)
    (hw:PySem.Within mA ns) (hsz:ns.length≤sizeLine)
    (h:∀ h',ObjM h' x dx C (fun y=>if y=name then some v else mA y)→Heap.SameBut dx s.heap h'→Q () { s with heap:=h',toks:=s.toks+2 }) :
    wpAny (model prog w) A (setAttr (.ref x) name v) Q E s:=by
  obtain ⟨od,J,hl⟩:=I.look;refine PySem.W.set_plain X J hs (PySem.W.osa_open (s:={ s with toks:=s.toks+1 }) (r:=none) X J hp ht fun b=>?_);obtain ⟨cd,hc,hd'⟩:=PySem.W.any_some hh;have hx:s.heap.get? x=some ⟨.ref C,some dx,.plain,#[]⟩:=I.obj;refine wpAny_bind (wpAny_pure (wpAny_bind (wpAny_bind (wpAny_loadPart hx (wpAny_bind (PySem.W.Looks.here (s:={ s with toks:=s.toks+1 }) (PySem.W.looks_clsIn X hc) ?_))))));rw [hd'];refine wpAny_pure (a:=some dx) (wpAny_bind (wpAny_pure (wpAny_bind ?_)));refine wpAny_nsSet1 (s:={ s with toks:=s.toks+1 }) I.ns fun h' hn2 hs2=>?_;obtain ⟨oD,esD,epD,hoD,hdD,hcD⟩:=hn2.count (PySem.Within.cons name v hw);refine wpAny_bind (wpAny_lookBehind hoD (by rw [hdD]; exact pastItsLine_dict (Nat.le_trans hcD (by rw [List.length_cons]; omega))) ?_);exact wpAny_pure (h _ ⟨(hs2.2 _ (Ne.symm I.ne)).trans I.obj,hn2,I.ne⟩ hs2)
theorem qfw {R:Result→Shared→Prop}{vs:List Value}{kw:List (Str×Value)}(X:K.In s.heap)(hm:W.makesIn K C=true)
    (hi:PySem.W.findIn K (.ref C) "__init__"=some (some (.ref f))) (hf:PySem.W.typeIn K (.ref f)=some (.type "function"))
    (h:codeAny (model prog w) (A.under (.builtin "type.__call__" ⟨.ref C::vs,kw⟩)) (.call (.ref f) ⟨.ref (s.heap.objs.size+1)::vs,kw⟩) (PySem.W.InitBack (s.heap.objs.size+1) R)
      { s with heap:=(s.heap.push PySem.W.emptyDict).push (PySem.W.instObj C s.heap.objs.size) }) :
    codeAny (model prog w) A (.call (.ref C) ⟨vs,kw⟩) R s:=by
  obtain ⟨hh,g,d,t,os⟩:=s;exact PySem.W.make_core (PySem.W.makes_of X hm) (PySem.W.looks_findIn X hi) (fun self=>PySem.W.bind_fn X self hf) (.inl rfl) h
end
def putF (f:Str)(v:V):List (Str×V)→List (Str×V)
  | []=>[(f,v)]
  | (g,x)::r=>if g=f then (g,v)::r else (g,x)::putF f v r
theorem qqc (f g:Str)(v:V):∀ fs:List (Str×V),(putF f v fs).lookup g=if g=f then some v else fs.lookup g
  | []=>by
    show List.lookup g [(f,v)]=_
    by_cases h:g=f
    · have hb:(g == f)=true:=beq_iff_eq.mpr h
      simp only [List.lookup,hb,if_pos h]
    · have hb:(g == f)=false:=beq_eq_false_iff_ne.mpr h
      simp only [List.lookup,hb,if_neg h]
  | (k,x)::r=>by
    have ih:=qqc f g v r;rw [show putF f v ((k,x)::r)=(if k=f then (k,v)::r else (k,x)::putF f v r) from rfl]
    by_cases hk:k=f
    · rw [if_pos hk]
      by_cases h:g=k
      · have hb:(g == k)=true:=beq_iff_eq.mpr h
        simp only [List.lookup,hb,if_pos (h.trans hk)]
      · have hb:(g == k)=false:=beq_eq_false_iff_ne.mpr h
        simp only [List.lookup,hb,if_neg (fun e:g=f=>h (e.trans hk.symm))]
    · rw [if_neg hk]
      by_cases h:g=k
      · have hb:(g == k)=true:=beq_iff_eq.mpr h
        simp only [List.lookup,hb,if_neg (fun e:g=f=>hk (h.symm.trans e))]
      · have hb:(g == k)=false:=beq_eq_false_iff_ne.mpr h
        simp only [List.lookup,hb];exact ih
theorem qwc (f:Str)(v:V):∀ fs:List (Str×V),f∈(putF f v fs).map (·.1)∧∀ g,g∈fs.map (·.1)→g∈(putF f v fs).map (·.1)
  | []=>⟨by simp [putF],fun g h=>by simp at h⟩
  | (k,x)::r=>by
    obtain ⟨i1,i2⟩:=qwc f v r;rw [show putF f v ((k,x)::r)=(if k=f then (k,v)::r else (k,x)::putF f v r) from rfl]
    by_cases hk:k=f
    · rw [if_pos hk]
      subst hk;exact ⟨by simp,fun g h=>by simpa using h⟩
    · rw [if_neg hk]
      refine ⟨?_,fun g h=>?_⟩
      · rw [List.map_cons]
        exact List.mem_cons_of_mem _ i1
      · rw [List.map_cons] at h ⊢
        rcases List.mem_cons.mp h with e | e
        · exact List.mem_cons.mpr (.inl e)
        · exact List.mem_cons_of_mem _ (i2 g e)
theorem qtc (f:Str)(v:V):∀ fs:List (Str×V),(putF f v fs).length≤fs.length+1
  | []=>by simp [putF]
  | (k,x)::r=>by
    have ih:=qtc f v r;rw [show putF f v ((k,x)::r)=(if k=f then (k,v)::r else (k,x)::putF f v r) from rfl]
    by_cases hk:k=f
    · rw [if_pos hk,List.length_cons,List.length_cons]; omega
    · rw [if_neg hk,List.length_cons,List.length_cons]; omega
theorem RelO.some_of {v:V}{o:Option Value}(r:RelO (some v) o):∃ u,o=some u∧RelV v u:=by
  cases o with
  | none=>exact (show False from r).elim
  | some u=>exact ⟨u,rfl,r⟩
theorem RelO.none_of {o:Option Value}(r:RelO none o):o=none:=by
  cases o with
  | none=>rfl
  | some u=>exact (show False from r).elim
theorem qni {v:V}(r:RelV v u):W.handedIn u=true:=by
  cases v with
  | non=>cases (show u=Value.none from r); rfl
  | bl b=>cases (show u=Value.bool b from r); rfl
  | int i=>obtain ⟨t,e⟩:=(show ∃ t,u=Value.int i t from r); cases e; rfl
  | str x=>obtain ⟨t,e⟩:=(show ∃ t,u=Value.str x t from r); cases e; rfl
  | byt b=>obtain ⟨t,e⟩:=(show ∃ t,u=Value.bytes b t from r); cases e; rfl
  | flt b=>obtain ⟨t,e⟩:=(show ∃ t,u=Value.float b t from r); cases e; rfl
  | ref a=>cases (show u=Value.ref a from r); rfl
  | ty n=>cases (show u=Value.type n from r); rfl
section
variable {P:Program}{w:World}{H H':Hp}{h h':Heap}{a C dx:Addr}{fs fs':List (Str×V)}
theorem qdg (hok:HOk P w H h)(e:H a=some (.ins C dx fs)):∃ mA,ObjM h a dx C mA∧(∀ f,RelO (fs.lookup f) (mA f))∧PySem.Within mA (fs.map (·.1))∧fs.length≤1000∧H dx=some (.own a):=by
  obtain ⟨d,z,ne,ob,mA,n,r,q⟩:=(show ObjOk P w H h a (.ins C dx fs) from hok a _ e);exact ⟨mA,⟨ob,n,ne⟩,r,q,z,d⟩
end
structure Cls (K:W.Frag)(C:Addr):Prop where
  pg:PySem.W.plainGet K C Str.empty=true
  hd:PySem.W.hasDictIn K C=true
  po:PySem.W.plainOver K C=true
  sa:PySem.W.findIn K (.ref C) "__setattr__"=some (some (.builtin "object.__setattr__"))
theorem Cls.get {K:W.Frag}{C:Addr}(c:Cls K C)(f:Str):W.plainGet K C f=true:=c.pg
def NoAttr (K:W.Frag)(C:Addr)(f:Str):Prop:=W.findIn K (.ref C) f=some none
theorem NoAttr.taker {K:W.Frag}{C:Addr}{f:Str}(n:NoAttr K C f):W.takerIn K C f=some none:=by
  unfold PySem.W.takerIn;rw [show PySem.W.findIn K (.ref C) f=some none from n];rfl
structure Meth (K:W.Frag)(C:Addr)(m:Str)(f:Addr):Prop where
  at_:PySem.W.findIn K (.ref C) m=some (some (.ref f))
  fn:PySem.W.isFn K (.ref f)=true
  kp:PySem.W.keepIn K (.ref f)=true
section
variable {X:Cx}{pins:List (Addr×Obj)}{σ:St}{H:Hp}{s:Shared}{a C dx:Addr}{fs:List (Str×V)}{f:Str}{v:V}{A:Around}{E:Value→Shared→Prop}
theorem qjo {b:Bool}{Q:Value→Shared→Prop}(I:Inv X pins σ H s)(e:H a=some (.ins C dx fs))(c:Cls X.K C)(n:NoAttr X.K C f)(l:fs.lookup f=some v)
    (h:∀ u s',Inv X pins σ H s'→RelV v u→Q u s'):wpAny (model X.prog X.w) A (getAttr (.ref a) f b) Q E s:=by
  obtain ⟨mA,O,r,_,_,_⟩:=qdg I.hok e;obtain ⟨u,hu,ru⟩:=RelO.some_of (v:=v) (o:=mA f) (by rw [← l]; exact r f);exact get_map I.kIn O (c.get f) c.hd n hu (qni ru) (h u _ (I.tok _) ru)
theorem qie {m:Str}{g:Addr}{pl:Sem Bool}{Q:Value×List Value→Shared→Prop}(I:Inv X pins σ H s)(e:H a=some (.ins C dx fs))(c:Cls X.K C)(k:Meth X.K C m g)(l:fs.lookup m=none)
    (h:Q (.ref g,[.ref a]) s):wpAny (model X.prog X.w) A (getMethod (.ref a) m pl) Q E s:=by
  obtain ⟨mA,O,r,_,_,_⟩:=qdg I.hok e;have hn:mA m=none:=RelO.none_of (by rw [← l]; exact r m);exact qlw I.kIn O (c.get m) k.at_ k.fn hn h
theorem qfn {y:V}{u:Value}{Q:Unit→Shared→Prop}(I:Inv X pins σ H s)(e:H a=some (.ins C dx fs))(c:Cls X.K C)(n:NoAttr X.K C f)(hl:fs.length<1000)(ry:RelV y u)
    (h:∀ s',Inv X pins σ (upd H a (.ins C dx (putF f y fs))) s'→Q () s'):wpAny (model X.prog X.w) A (setAttr (.ref a) f u) Q E s:=by
  obtain ⟨mA,O,r,wi,_,ho⟩:=qdg I.hok e
  have hz:(fs.map (·.1)).length≤sizeLine:=by rw [List.length_map,sizeLine_eq]; omega
  refine set_map I.kIn O c.sa c.po n.taker c.hd wi hz fun h' O' sb=>h _ ?_
  have hd:∃ o,h'.get? dx=some o:=let ⟨o,_,_,e',_⟩:=O'.ns; ⟨o,e'⟩
  refine I.write (x:=a) (e:=dx) (by rw [e]; exact True.intro) (.inr ho) (fun b q hb z=>(sb.2 b hb).trans z) hd ?_;refine ⟨by rw [qt O.ne]; exact ho,?_,O.ne,O'.obj,_,O'.ns,fun g=>?_,fun g hg=>?_⟩
  · have:=qtc f y fs; omega
  · show RelO ((putF f y fs).lookup g) (if g=f then some u else mA g)
    rw [qqc]
    by_cases q:g=f
    · rw [if_pos q,if_pos q]; exact ry
    · rw [if_neg q,if_neg q]; exact r g
  · by_cases q:g=f
    · rw [q]; exact (qwc f y fs).1
    · refine (qwc f y fs).2 g (wi g fun z=>hg ?_)
      show (if g=f then some u else mA g)=none;rw [if_neg q]; exact z
theorem Inv.made (I:Inv X pins σ H s):Inv X pins σ (upd (upd H s.heap.objs.size (.own (s.heap.objs.size+1))) (s.heap.objs.size+1) (.ins C s.heap.objs.size []))
    { s with heap:=(s.heap.push PySem.W.emptyDict).push (PySem.W.instObj C s.heap.objs.size) }:=by
  have e1:(s.heap.push PySem.W.emptyDict).get? s.heap.objs.size=some PySem.W.emptyDict:=Heap.get?_push_size s.heap rfl
  have e2:((s.heap.push PySem.W.emptyDict).push (PySem.W.instObj C s.heap.objs.size)).get? (s.heap.objs.size+1)=some (PySem.W.instObj C s.heap.objs.size):=by
    have:=Heap.get?_push_size (s.heap.push PySem.W.emptyDict) (o:=PySem.W.instObj C s.heap.objs.size) rfl
    rwa [Heap.size_push] at this
  have e3:(s.heap.push PySem.W.emptyDict).Ns s.heap.objs.size (fun _=>none):=⟨PySem.W.emptyDict,#[],_,e1,rfl,(fun e he=>absurd he (by simp)),fun _=>rfl⟩;have I1:=I.laid (a:=s.heap.objs.size) (o:=.own (s.heap.objs.size+1)) (h':=s.heap.push PySem.W.emptyDict) (t':=s.toks) (fun b u q=>Heap.get?_push_of_some _ q) (Nat.le_refl _) ⟨_,e1⟩;refine I1.laid (a:=s.heap.objs.size+1) (o:=.ins C s.heap.objs.size []) (t':=s.toks) (fun b u q=>Heap.get?_push_of_some _ q) (Nat.le_of_eq (Heap.size_push _ _)) ?_;have ne:s.heap.objs.size≠s.heap.objs.size+1:=Nat.ne_of_lt (Nat.lt_succ_self _);refine ⟨by rw [qt ne,qb0],Nat.zero_le _,ne,e2,fun _=>none,(Heap.Ns1.of_empty e3).at fun o q=>Heap.get?_push_of_some _ q,fun _=>True.intro,fun y hy=>absurd rfl hy⟩
theorem attr_of {prog:Program}{w:World}{env:Env}{e:Expr}{f:Str}{pos:Pos}{s:Shared}{Q:Value→Shared→Prop}(hb:attributeBase e f env (eval e env)=eval e env)
    (h:wpAny (model prog w) A (eval e env) (fun o s₁=>wpAny (model prog w) A (getAttr o f true) Q E s₁) E s):wpAny (model prog w) A (eval (.Attribute e f pos) env) Q E s :=
  Attribute_any_ h (by rw [arm_eval_Attribute,hb])
end
def tFld (K:W.Frag)(ta:TE)(f:Str):TE:=fun σ H Q=>ta σ H fun x H1=>∃ a C dx fs v,x=.ref a∧H1 a=some (.ins C dx fs)∧Cls K C∧NoAttr K C f∧fs.lookup f=some v∧Q v H1
def sFld (K:W.Frag)(ta tv:TE)(f:Str):TS:=fun D σ H=>tv σ H fun y H1=>ta σ H1 fun x H2=>∃ a C dx fs,x=.ref a∧H2 a=some (.ins C dx fs)∧Cls K C∧NoAttr K C f∧fs.length<1000 ∧
  D.nx σ (upd H2 a (.ins C dx (putF f y fs)))
section
variable {X:Cx}{o e value:Expr}{f:Str}{pos pos' tpos:Pos}{ta tv:TE}
theorem qe8 (he:PE X e ta)(hb:attributeBase e f X.env (eval e X.env)=eval e X.env):PE X (.Attribute e f pos) (tFld X.K ta f):=by
  intro pins s σ H Q I h;refine attr_of hb (thn (he pins s σ H _ I h) fun u s1 ⟨x,H1,I1,rx,a,C,dx,fs,v,ex,ea,c,n,l,q⟩=>?_);subst ex;obtain rfl:u=Value.ref a:=rx;exact qjo I1 ea c n l fun u' s2 I2 ru=>⟨v,H1,I2,ru,q⟩
theorem qzd (ha:PE X o ta)(hv:PE X value tv)(hs:swapsWith value (some (.Attribute o f pos')) pos.line X.env=pure false):PS X (.Assign [.Attribute o f pos'] value pos) (sFld X.K ta tv f):=by
  intro pins s σ H D I h;refine plainObj_wpAny_Assign_Attribute (thn (hv pins s σ H _ I h) fun u s1 ⟨y,H1,I1,ry,q⟩=>thn (ha pins s1 σ H1 _ I1 q) fun ov s2 ⟨x,H2,I2,rx,a,C,dx,fs,ex,ea,c,n,l,q2⟩=>?_) hs;subst ex;obtain rfl:ov=Value.ref a:=rx;exact qfn I2 ea c n l ry fun s3 I3=>⟨σ,_,I3,q2⟩
end
section
variable {X:Cx}{pins:List (Addr×Obj)}{σ:St}{H:Hp}{s:Shared}{A:Around}{E:Value→Shared→Prop}{Q:Value→Shared→Prop}{c:Value}{b:Bool}
inductive TyOf (K:PySem.W.Frag) (H:Hp):V→Value→Prop where
  | non:TyOf K H .non (.type "NoneType")
  | bl (x:Bool):TyOf K H (.bl x) (.type "bool")
  | int (i:Int):TyOf K H (.int i) (.type "int")
  | str (x:Str):TyOf K H (.str x) (.type "str")
  | flt (x:UInt64):TyOf K H (.flt x) (.type "float")
  | lst {a:Addr} {xs:List V} (e:H a=some (.lst xs)):TyOf K H (.ref a) (.type "list")
  | frz {a:Addr} {o:Obj} {xs:List V} (e:H a=some (.frz o (.lst xs))):TyOf K H (.ref a) (.type "list")
  | tup {a:Addr} {xs:List V} (e:H a=some (.tup xs)):TyOf K H (.ref a) (.type "tuple")
  | dK {a:Addr} {kvs:List (Key×V)} (e:H a=some (.dK kvs)):TyOf K H (.ref a) (.type "dict")
  | dT {a:Addr} {kvs:List (List Key×V)} (e:H a=some (.dT kvs)):TyOf K H (.ref a) (.type "dict")
  | ins {a C dx:Addr} {fs:List (Str×V)} (e:H a=some (.ins C dx fs)) (cl:Cls K C) (ha:PySem.W.findIn K (.ref C) "__class__"=some (some (.builtin "object.__class__")))
      (hn:PySem.W.specialIn K (.builtin "object.__class__") "__get__"=some (some (.builtin "getset_descriptor.__get__"))) (htk:PySem.W.takesIn K (.builtin "object.__class__")=some true)
      (hm:PySem.W.mroIn K C (.type "object")=some true):TyOf K H (.ref a) (.ref C)
theorem qli {x:V}{t:Value}(I:Inv X pins σ H s)(rx:RelV x u)(ty:TyOf X.K H x t)(e:W.kitOne X.K t c=some b)(h:∀ tk,Q (.bool b) { s with toks:=tk }) :
    wpAny (model X.prog X.w) A (call (.builtin "isinstance") [u,c]) Q E s:=by
  cases ty with
  | non=>cases (show u=Value.none from rx); exact PySem.W.kia_one PySem.W.kitx_none I.kIn True.intro e (fun z=>nomatch z) h
  | bl y=>cases (show u=Value.bool y from rx); exact PySem.W.kia_one PySem.W.kitx_bool I.kIn True.intro e (fun z=>nomatch z) h
  | int i=>obtain ⟨t,q⟩:=(show ∃ t,u=Value.int i t from rx); cases q; exact PySem.W.kia_one PySem.W.kitx_int I.kIn True.intro e (fun z=>nomatch z) h
  | str y=>obtain ⟨t,q⟩:=(show ∃ t,u=Value.str y t from rx); cases q; exact PySem.W.kia_one PySem.W.kitx_str I.kIn True.intro e (fun z=>nomatch z) h
  | flt y=>obtain ⟨t,q⟩:=(show ∃ t,u=Value.float y t from rx); cases q; exact PySem.W.kia_one PySem.W.kitx_float I.kIn True.intro e (fun z=>nomatch z) h
  | @lst a xs ea =>
    cases (show u=Value.ref a from rx);obtain ⟨_,_,n,_,h1⟩:=(show ObjOk X.prog X.w H s.heap a (.lst xs) from I.hok a _ ea);exact PySem.W.kia_one PySem.W.kitx_list I.kIn ⟨_,h1,rfl⟩ e (fun z=>nomatch z) h
  | @frz a ob xs ea =>
    cases (show u=Value.ref a from rx);obtain ⟨_,_,_,n,_,h1⟩:=(show ObjOk X.prog X.w H s.heap a (.frz ob (.lst xs)) from I.hok a _ ea);exact PySem.W.kia_one PySem.W.kitx_list I.kIn ⟨_,h1,rfl⟩ e (fun z=>nomatch z) h
  | @tup a xs ea =>
    cases (show u=Value.ref a from rx);obtain ⟨_,_,_,p⟩:=(show ObjOk X.prog X.w H s.heap a (.tup xs) from I.hok a _ ea);obtain ⟨o,h1,h2,_⟩:=p;exact PySem.W.kia_one PySem.W.kitx_tuple I.kIn ⟨o,h1,h2⟩ e (fun z=>nomatch z) h
  | @dK a kvs ea =>
    cases (show u=Value.ref a from rx);obtain ⟨_,_,vs,_,p⟩:=(show ObjOk X.prog X.w H s.heap a (.dK kvs) from I.hok a _ ea);obtain ⟨o,es,ep,h1,h2,_⟩:=p;exact PySem.W.kia_one PySem.W.kitx_dict I.kIn ⟨o,h1,h2.1⟩ e (fun z=>nomatch z) h
  | @dT a kvs ea =>
    cases (show u=Value.ref a from rx);obtain ⟨_,_,xs,_,o,es,ep,h1,h2,_⟩:=(show ObjOk X.prog X.w H s.heap a (.dT kvs) from I.hok a _ ea);exact PySem.W.kia_one PySem.W.kitx_dict I.kIn ⟨o,h1,h2.1⟩ e (fun z=>nomatch z) h
  | @ins a C dx fs ea cl ha hn htk hm =>
    cases (show u=Value.ref a from rx);obtain ⟨mA,O,_⟩:=qdg I.hok ea;obtain ⟨od,J,_⟩:=O.look;exact PySem.W.kia_one (PySem.W.kitx_own (cl.get _) cl.hd ha hn htk hm) I.kIn J e (fun z=>nomatch z) h
end
end L2
namespace L2
open PySem PySem.Spec PyProof.Rows
variable {A:Around}{K:W.Frag}{P:Program}{base:Heap}{kindOf:Str→Option NameKind}{kw:List (Str×Value)}{mg:Str→Option Value}{outer:List Env}{us:List Value}{v:Value}{w:World}
structure Room (k:Nat)(A:Around):Prop where
  hd:A.handled=none
  dp:A.depth+3 * k+5<recursionLimit
  un:A.units+16 * k+200<cLine
  gd:A.guards=some []
theorem Room.mono {j k:Nat}(r:Room k A)(h:j≤k):Room j A:=⟨r.hd,by have:=r.dp; omega,by have:=r.un; omega,r.gd⟩
theorem Room.deeper {k:Nat}(r:Room (k+1) A)(env:Env):Room k (A.deeper env) :=
  ⟨r.hd,by have:=r.dp; show A.depth+1+3 * k+5<_; omega,by have:=r.un; show A.units+3+16 * k+200<_; omega,r.gd⟩
theorem Room.in1 {k:Nat}(r:Room (k+1) A):Room k A.in1 :=
  ⟨r.hd,by have:=r.dp; show A.depth+3 * k+5<_; omega,by have:=r.un; show A.units+1+16 * k+200<_; omega,r.gd⟩
theorem qgo {C:Addr}:(A.under (.builtin "type.__call__" ⟨.ref C::us,kw⟩)).depth=A.depth+1:=by
  first | rfl | simp [Around.under,Code.weight,Code.isCreation,Code.isGuard,Code.isCaller,Code.frames,Code.isFrame,guardIds]
theorem qfo {C:Addr}:(A.under (.builtin "type.__call__" ⟨.ref C::us,kw⟩)).units=A.units+1:=by
  first | rfl | simp [Around.under,Code.cUnits,Code.frames,Code.isFrame]
theorem qsk {C:Addr}:(A.under (.builtin "type.__call__" ⟨.ref C::us,kw⟩)).guards=A.guards:=by
  first | rfl | (cases h:A.guards <;> simp [Around.under,Code.guards,Code.isGuard,guardIds,pushGuards,h])
theorem Room.make {k:Nat}(r:Room (k+1) A)(C:Addr)(us:List Value)(kw:List (Str×Value)):Room k (A.under (.builtin "type.__call__" ⟨.ref C::us,kw⟩)) :=
  ⟨r.hd,by have:=r.dp; rw [qgo]; omega,by have:=r.un; rw [qfo]; omega,by rw [qsk]; exact r.gd⟩
theorem Room.depth {k:Nat}(r:Room k A):A.depth<recursionLimit:=by have:=r.dp; omega
theorem Room.units {k:Nat}(r:Room k A):A.units+64<cLine:=by have:=r.un; omega
def tNil:TA:=fun _ H Q=>Q [] H
def tCons (ta:TE)(tr:TA):TA:=fun σ H Q=>ta σ H fun x H1=>tr σ H1 fun xs H2=>Q (x::xs) H2
section
variable {X:Cx}{e:Expr}{es:List Expr}{te:TE}{t:TA}{pos:Pos}
theorem qd:PA X [] tNil:=fun _ _ _ _ H Q I h=>Calls.spliced_nil ⟨[],H,I,.nil,h⟩
theorem qa (ha:PE X e te)(hr:PA X es t)(hs:starEach (e::es) X.env=(false,eval e X.env)::starEach es X.env:=by rfl):PA X (e::es) (tCons te t):=by
  intro pos pins s σ H Q I h;rw [hs];show wpAny _ _ (spliced ((false,eval e X.env)::backTo pos (starEach es X.env))) _ _ s;refine Calls.spliced_cons (thn (ha pins s σ H _ I h) fun u s1 ⟨x,H1,I1,r1,q1⟩=>?_);exact thn (hr pos pins s1 σ H1 _ I1 q1) fun us s2 ⟨xs,H2,I2,r2,q2⟩=>⟨x::xs,H2,I2,.cons r1 r2,q2⟩
def tTup (t:TA):TE:=fun σ H Q=>t σ H fun xs H1=>xs.length≤sizeLine∧∀ p,H1 p=none→Q (.ref p) (upd H1 p (.tup xs))
def tLst (t:TA):TE:=fun σ H Q=>t σ H fun xs H1=>xs.length≤sizeLine∧∀ p,H1 p=none→Q (.ref p) (upd H1 p (.lst xs))
theorem qv0 {x1}(h:PA X es t):PE X (.Tuple es x1 pos) (tTup t):=by
  intro pins s σ H Q I hq;refine wpAny_Tuple_spliced (thn (h pos pins s σ H _ I hq) fun us s1 ⟨xs,H1,I1,r,z,q⟩=>⟨by rw [← r.length]; exact z,?_⟩);have hf:H1 s1.heap.objs.size=none:=I1.hok.fresh (Nat.le_refl _);refine ⟨.ref s1.heap.objs.size,upd H1 s1.heap.objs.size (.tup xs),I1.laid (t':=s1.toks) (fun b u e=>Heap.get?_push_of_some _ e) (Nat.le_refl _) ?_,rfl,q _ hf⟩;exact ⟨z,us,r,⟨_,Heap.get?_push_size _ rfl,rfl,_,rfl⟩⟩
theorem qe1 (h:PA X es t):PE X (.List es pos) (tLst t):=by
  intro pins s σ H Q I hq;refine wpAny_List_spliced (thn (h pos pins s σ H _ I hq) fun us s1 ⟨xs,H1,I1,r,z,q⟩=>⟨by rw [← r.length]; exact z,?_⟩);have hf:H1 s1.heap.objs.size=none:=I1.hok.fresh (Nat.le_refl _);refine ⟨.ref s1.heap.objs.size,upd H1 s1.heap.objs.size (.lst xs),I1.laid (t':=s1.toks) (fun b u e=>Heap.get?_push_of_some _ e) (Nat.le_refl _) ?_,rfl,q _ hf⟩;exact ⟨z,us,0,r,Heap.get?_push_size _ rfl⟩
end
abbrev Sp:=List V→Hp→VK→XK→Prop
abbrev CXT:=List Env→Hp→Shared→XK→Value→Shared→Prop
structure Env0 (P:Program)(w:World)(K:W.Frag)(mg:Str→Option Value)(base:Heap)(A:Around)(outer:List Env)(s:Shared)(H:Hp):Prop where
  frames:A.frames=some outer
  mod:Mod K mg base
  bs:∀ b o,base.get? b=some o→s.heap.get? b=some o∧H b=none
  bsz:base.objs.size≤s.heap.objs.size
  funs:s.heap.FunFrames base outer
  frf:∀ b∈frs outer,H b=none
  hok:HOk P w H s.heap
  bare:AllBare s.gens
def CE (outer:List Env)(P:Program)(w:World)(H:Hp)(s:Shared)(Q:VK)(u:Value)(s':Shared):Prop :=
  ∃ v H',s'.os=s.os∧AllBare s'.gens∧Un (frs outer) [] H H' s.heap s'.heap∧HOk P w H' s'.heap∧RelV v u∧Q v H'
def CR (CX:CXT)(outer:List Env)(P:Program)(w:World)(H:Hp)(s:Shared)(Q:VK)(E:XK)(r:Result)(s':Shared):Prop :=
  match r with
  | .ok (.ret u)=>CE outer P w H s Q u s'
  | .ok _=>False
  | .error e=>CX outer H s E e s'
structure FnOk (P:Program)(w:World)(K:W.Frag)(mg:Str→Option Value)(base:Heap)(CX:CXT)(k:Nat)(f:Addr)(fd:FuncData)(ps:List Str)(sp:Sp):Prop where
  len:∀ vs H Q E,sp vs H Q E→vs.length=ps.length
  run:∀ (A:Around) (outer:List Env) (s:Shared) (H:Hp) (args:Args) (us:List Value) (vs:List V) (Q:VK) (E:XK),Room k A→Env0 P w K mg base A outer s H→BindsTo s fd args (ps.zip us)→Vals vs us→sp vs H Q E →
    codeAny (model P w) A (.call (.ref f) args) (CR CX outer P w H s Q E) s
theorem Env0.make {s:Shared}{H:Hp}(e:Env0 P w K mg base A outer s H)(C:Addr)(us:List Value)(kw:List (Str×Value)) :
    Env0 P w K mg base (A.under (.builtin "type.__call__" ⟨.ref C::us,kw⟩)) outer s H:=⟨by first | exact e.frames | (simpa [Around.under,Code.envs,Code.isFrame,pushEnvs] using e.frames),e.mod,e.bs,e.bsz,e.funs,e.frf,e.hok,e.bare⟩
theorem Env0.in1 {s:Shared}{H:Hp}(e:Env0 P w K mg base A outer s H) :
    Env0 P w K mg base A.in1 outer s H:=⟨e.frames,e.mod,e.bs,e.bsz,e.funs,e.frf,e.hok,e.bare⟩
section
variable {X:Cx}{pins:List (Addr×Obj)}{σ:St}{H:Hp}{s s':Shared}
theorem Inv.env0 (I:Inv X pins σ H s):Env0 X.prog X.w X.K X.mg X.base X.A X.stack s H :=
  ⟨I.ok.frames,I.ok.mod,I.bs,Nat.le_trans I.ok.bsz I.sz,I.stack,I.stkFree,I.hok,I.bare⟩
theorem Inv.after {Q:VK}{u:Value}(I:Inv X pins σ H s)(h:CE X.stack X.prog X.w H s Q u s'):EP X pins σ Q u s':=by
  obtain ⟨v,H',os,bare,un,hok,r,q⟩:=h;obtain ⟨hh,g,d,t,os'⟩:=s';obtain rfl:os'=s.os:=os;exact ⟨v,H',I.call (h':=hh) (g':=g) (d':=d) (t':=t) (ch:=[]) un hok bare (fun b z=>absurd z (by simp)),r,q⟩
end
def qhj (sp:Sp)(dvs:List V)(E:XK)(t:TA):TE:=fun σ H Q=>t σ H fun vs H1=>sp (vs++dvs) H1 Q E
def qgu (C:Addr)(sp:Sp)(dvs:List V)(E:XK)(t:TA):TE:=fun σ H Q=>t σ H fun vs H1=>∀ x dx,H1 x=none→H1 dx=none→dx≠x →
  sp (.ref x::(vs++dvs)) (upd (upd H1 dx (.own x)) x (.ins C dx [])) (fun v H2=>v=.non∧Q (.ref x) H2) E
def Binds (K:W.Frag)(fd:FuncData)(ps:List Str)(ds:List Value):Prop :=
  ∀ (s:Shared) (us:List Value),K.In s.heap→(us++ds).length=ps.length→BindsTo s fd ⟨us,[]⟩ (ps.zip (us++ds))
theorem Binds.all {fd:FuncData}{ps:List Str}(h:∀ us:List Value,us.length=ps.length→bindArgs fd ⟨us,[]⟩=pure (ps.zip us)):Binds K fd ps []:=fun s us _ hl=>by
  rw [List.append_nil] at hl ⊢;exact .of_eq (h us hl)
def qoe (CX:CXT)(X:Cx)(E:XK):Prop:=∀ (pins:List (Addr×Obj)) (σ:St) (H:Hp) (s:Shared) (e:Value) (s':Shared),Inv X pins σ H s→CX X.stack H s E e s'→X.xe e s'
section
variable {X:Cx}{CX:CXT}{k:Nat}{f C:Addr}{fd:FuncData}{ps:List Str}{sp:Sp}{dvs:List V}{ds:List Value}{E:XK}{x m:Str}{p pos apos:Pos}{e o:Expr}{es:List Expr}{ta:TE}{t:TA}
theorem qjh {pins:List (Addr×Obj)}{σ:St}{H:Hp}{s:Shared}{Q:VK}{us:List Value}{vs:List V}(F:FnOk X.prog X.w X.K X.mg X.base CX k f fd ps sp)(hr:Room k X.A)(hb:Binds X.K fd ps ds)(hd:Vals dvs ds)(hx:qoe CX X E)
    (I:Inv X pins σ H s) (r:Vals vs us) (h:sp (vs++dvs) H Q E):wpAny (model X.prog X.w) X.A (call (.ref f) us) (EP X pins σ Q) X.xe s:=by
  have r2:Vals (vs++dvs) (us++ds):=r.append hd
  have hl:(us++ds).length=ps.length:=by rw [← r2.length]; exact F.len _ _ _ _ h
  refine wpAny_call (codeAny_mono (F.run X.A X.stack s H ⟨us,[]⟩ (us++ds) (vs++dvs) Q E hr I.env0 (hb s us I.kIn hl) r2 h) fun r s' hq=>?_)
  cases r with
  | error e=>exact hx pins σ H s e s' I hq
  | ok fl =>
    cases fl with
    | ret u=>exact I.after hq
    | next=>exact False.elim hq
    | brk=>exact False.elim hq
    | cont=>exact False.elim hq
theorem pe_call (F:FnOk X.prog X.w X.K X.mg X.base CX k f fd ps sp)(hr:Room k X.A)(hg:Gl X x)(hm:X.mg x=some (.ref f))(hk:W.keepIn X.K (.ref f)=true)(hb:Binds X.K fd ps ds)(hd:Vals dvs ds)(hx:qoe CX X E)
    (ha:PA X (e::es) t) (hdb:(x == ("__debug__":Str))=false:=by decide) (he:starEach (e::es) X.env=(false,eval e X.env)::starEach es X.env:=by rfl) (hpl:(backTo pos (starEach es X.env)).any (·.1)=false:=by rfl) :
    PE X (.Call (.Name x p) (e::es) [] pos) (qhj sp dvs E t):=by
  intro pins s σ H Q I h;refine wpAny_Call_Name_kw (qcg I hg hm ?_ hdb);refine PySem.W.callWith_K (h₀:=X.base) I.ok.mod.kin hk (thn (ha pos pins s σ H _ I h) fun us s1 ⟨vs,H1,I1,r,q⟩=>⟨I1.kIn,?_⟩) he hpl;exact qjh F hr hb hd hx I1 r q
theorem qdv (F:FnOk X.prog X.w X.K X.mg X.base CX k f fd ps sp)(hr:Room k X.A)(hg:Gl X x)(hm:X.mg x=some (.ref f))(hk:W.keepIn X.K (.ref f)=true)(hb:Binds X.K fd ps ds)(hd:Vals dvs ds)(hx:qoe CX X E)
    (hdb:(x == ("__debug__":Str))=false:=by decide):PE X (.Call (.Name x p) [] [] pos) (qhj sp dvs E tNil):=by
  intro pins s σ H Q I h;refine wpAny_Call_Name_kw (qcg I hg hm ?_ hdb);exact PySem.W.callWith_K0 I.kIn hk (qjh (us:=[]) F hr hb hd hx I .nil h)
structure Mk (K:W.Frag)(C f:Addr):Prop where
  makes:PySem.W.makesIn K C=true
  init:PySem.W.findIn K (.ref C) "__init__"=some (some (.ref f))
  fn:PySem.W.isFn K (.ref f)=true
  kp:PySem.W.keepIn K (.ref C)=true
theorem qyu {pins:List (Addr×Obj)}{σ:St}{H:Hp}{s:Shared}{Q:VK}{us:List Value}{vs:List V}(M:Mk X.K C f)(F:FnOk X.prog X.w X.K X.mg X.base CX k f fd ps sp)(hr:Room (k+1) X.A)(hb:Binds X.K fd ps ds)(hd:Vals dvs ds)
    (hx:qoe CX X E) (I:Inv X pins σ H s) (r:Vals vs us)
    (h:∀ x dx,H x=none→H dx=none→dx≠x→sp (.ref x::(vs++dvs)) (upd (upd H dx (.own x)) x (.ins C dx [])) (fun v H2=>v=.non∧Q (.ref x) H2) E) :
    wpAny (model X.prog X.w) X.A (call (.ref C) us) (EP X pins σ Q) X.xe s:=by
  have hq:=h (s.heap.objs.size+1) s.heap.objs.size (I.hok.fresh (Nat.le_succ _)) (I.hok.fresh (Nat.le_refl _)) (Nat.ne_of_lt (Nat.lt_succ_self _));have I2:=Inv.made (C:=C) I;have r2:Vals (V.ref (s.heap.objs.size+1)::(vs++dvs)) (Value.ref (s.heap.objs.size+1)::(us++ds)):=.cons rfl (r.append hd)
  have hl:(Value.ref (s.heap.objs.size+1)::us++ds).length=ps.length:=by
    have e:=r2.length;rw [F.len _ _ _ _ hq] at e;exact e.symm
  refine wpAny_call (qfw (f:=f) I.kIn M.makes M.init (beq_iff_eq.mp M.fn) (codeAny_mono (F.run _ X.stack _ _ ⟨Value.ref (s.heap.objs.size+1)::us,[]⟩ (Value.ref (s.heap.objs.size+1)::(us++ds)) _ _ E (hr.make C us [])
    (I2.env0.make C us []) (hb _ (Value.ref (s.heap.objs.size+1)::us) I2.kIn hl) r2 hq) fun r s' hq'=>?_))
  cases r with
  | error e=>exact hx pins σ _ _ e s' I2 hq'
  | ok fl =>
    cases fl with
    | ret u =>
      obtain ⟨v,H',I3,rv,ev,q3⟩:=I2.after hq';subst ev;exact ⟨rv,⟨V.ref (s.heap.objs.size+1),H',I3,rfl,q3⟩⟩
    | next=>exact False.elim hq'
    | brk=>exact False.elim hq'
    | cont=>exact False.elim hq'
theorem pe_make (M:Mk X.K C f)(F:FnOk X.prog X.w X.K X.mg X.base CX k f fd ps sp)(hr:Room (k+1) X.A)(hg:Gl X x)(hm:X.mg x=some (.ref C))(hb:Binds X.K fd ps ds)(hd:Vals dvs ds)(hx:qoe CX X E)
    (ha:PA X (e::es) t) (hdb:(x == ("__debug__":Str))=false:=by decide) (he:starEach (e::es) X.env=(false,eval e X.env)::starEach es X.env:=by rfl) (hpl:(backTo pos (starEach es X.env)).any (·.1)=false:=by rfl) :
    PE X (.Call (.Name x p) (e::es) [] pos) (qgu C sp dvs E t):=by
  intro pins s σ H Q I h;refine wpAny_Call_Name_kw (qcg I hg hm ?_ hdb);refine PySem.W.callWith_K (h₀:=X.base) I.ok.mod.kin M.kp (thn (ha pos pins s σ H _ I h) fun us s1 ⟨vs,H1,I1,r,q⟩=>⟨I1.kIn,?_⟩) he hpl;exact qyu M F hr hb hd hx I1 r q
end
section
variable {X:Cx}{CX:CXT}{k:Nat}{f C:Addr}{fd:FuncData}{ps ks:List Str}{sp:Sp}{E:XK}{x m:Str}{p pos apos kpos:Pos}{e o:Expr}{es:List Expr}{kws:List Keyword}{te ta:TE}{t tk:TA}{nm:Option Str}
variable {g:List Value→List Value→List Value}{gV:List V→List V→List V}
end
structure qo (N P:List Str)(sc:Scope):Prop where
  kind:sc.kind=.function
  co:sc.isCoroutine=false
  gen:sc.isGenerator=false
  nd:N.Nodup
  pre:N.take P.length=P
  par:∀ x∈P,sc.names.lookup x=some .local∨sc.names.lookup x=some .cell
  nofree:∀ y∈sc.names,y.2≠.free
theorem qzi {x:Str}:∀ {binds:List (Str×Value)} {m:Str→Option Value},(∀ v,(x,v)∉binds)→bindL kindOf binds m x=m x
  | [],_,_=>rfl
  | (n,v)::r,m,h=>by
    unfold bindL;rw [qzi fun w hw=>h w (List.mem_cons_of_mem _ hw)]
    split
    · have:x≠n:=by rintro rfl; exact h v List.mem_cons_self
      simp [this]
    · rfl
theorem qbj {x:Str}:∀ {binds:List (Str×Value)} {m:Str→Option Value},(∀ v,(x,v)∉binds)→bindC kindOf binds m x=m x
  | [],_,_=>rfl
  | (n,v)::r,m,h=>by
    unfold bindC;rw [qbj fun w hw=>h w (List.mem_cons_of_mem _ hw)]
    split
    · rfl
    · have:x≠n:=by rintro rfl; exact h v List.mem_cons_self
      simp [this]
theorem qaj {x:Str}:∀ {P:List Str} {vs:List Value} {i:Nat} {m:Str→Option Value},P.Nodup→P[i]?=some x→vs[i]?=some v→kindOf x=some .local →
    bindL kindOf (P.zip vs) m x=some v
  | [],_,_,_,_,h,_,_=>by simp at h
  | _::_,[],_,_,_,_,h,_=>by simp at h
  | p::P,w::vs,0,m,nd,h1,h2,hk=>by
    simp at h1 h2; subst h1; subst h2;show bindL kindOf ((p,w)::P.zip vs) m p=_;unfold bindL;rw [qzi fun v hv=>(List.nodup_cons.mp nd).1 (List.of_mem_zip hv).1,if_pos hk];simp
  | p::P,w::vs,i+1,m,nd,h1,h2,hk=>by
    show bindL kindOf ((p,w)::P.zip vs) m x=_;unfold bindL;exact qaj (i:=i) (List.nodup_cons.mp nd).2 (by simpa using h1) (by simpa using h2) hk
theorem qcj {x:Str}:∀ {P:List Str} {vs:List Value} {i:Nat} {m:Str→Option Value},P.Nodup→P[i]?=some x→vs[i]?=some v→kindOf x≠some .local →
    bindC kindOf (P.zip vs) m x=some v
  | [],_,_,_,_,h,_,_=>by simp at h
  | _::_,[],_,_,_,_,h,_=>by simp at h
  | p::P,w::vs,0,m,nd,h1,h2,hk=>by
    simp at h1 h2; subst h1; subst h2;show bindC kindOf ((p,w)::P.zip vs) m p=_;unfold bindC;rw [qbj fun v hv=>(List.nodup_cons.mp nd).1 (List.of_mem_zip hv).1,if_neg hk];simp
  | p::P,w::vs,i+1,m,nd,h1,h2,hk=>by
    show bindC kindOf ((p,w)::P.zip vs) m x=_;unfold bindC;exact qcj (i:=i) (List.nodup_cons.mp nd).2 (by simpa using h1) (by simpa using h2) hk
def qk1 (N:List Str)(vs:List V):St:=vs.map some++List.replicate (N.length - vs.length) none
def cxOf (CX:CXT)(P:Program)(w:World)(K:W.Frag)(mg:Str→Option Value)(base:Heap)(N:List Str)(qual:Str)(scope:Scope)(f:Addr)(cd:Value)(A:Around)(outer:List Env)(s:Shared)(H:Hp)(E:XK):Cx where
  prog:=P
  w:=w
  K:=K
  mg:=mg
  base:=base
  A:=A.deeper (envOfC qual scope s.heap.objs.size f cd)
  N:=N
  s₀:=s
  H₀:=H
  env:=envOfC qual scope s.heap.objs.size f cd
  outer:=outer
  stack:=envOfC qual scope s.heap.objs.size f cd::outer
  ex:=[]
  calm:=true
  fn:=fun _=>true
  pn:=[]
  xe:=fun e s'=>wpAny (model P w) (A.deeper (envOfC qual scope s.heap.objs.size f cd)) (leaving (envOfC qual scope s.heap.objs.size f cd) e) (fun _ s''=>CX outer H s E e s'') (fun e' s''=>CX outer H s E e' s'') s'
theorem qum {sc:Scope}{n:Nat}{x:Str}(h:sc.names.lookup x=some .cell):∃ c,(cellsFrom n sc.names []).lookup x=some c:=by
  have q:=PySem.W.cellsFrom_some sc.names n [] (.inl h);exact Option.isSome_iff_exists.mp q
theorem qgs {CX:CXT}{P:Program}{w:World}{K:W.Frag}{mg:Str→Option Value}{base:Heap}{N ps:List Str}{qual:Str}{scope:Scope}{f:Addr}{cd:Value}{A:Around}{outer:List Env}{s s1:Shared}{H:Hp}{E:XK}{us:List Value}{vs:List V}
    (S:qo N ps scope) (hd:A.handled=none) (e0:Env0 P w K mg base A outer s H) (hl:vs.length=ps.length) (r:Vals vs us)
    (x:InCallC s s.heap.objs.size (bindL (envOfC qual scope s.heap.objs.size f cd).kindOf (ps.zip us) fun _=>none) (cellsFrom (s.heap.objs.size+1) scope.names []) (bindC (envOfC qual scope s.heap.objs.size f cd).kindOf (ps.zip us) fun _=>none) s1) :
    Inv (cxOf CX P w K mg base N qual scope f cd A outer s H E) [] (qk1 N vs) H s1:=by
  have hpl:ps.length≤N.length:=by have:=congrArg List.length S.pre; rw [List.length_take] at this; omega
  obtain ⟨h1,tk,rfl,hk⟩:=x.done;have noA:∀ b:Addr,b∉(cxOf CX P w K mg base N qual scope f cd A outer s H E).ex:=fun b z=>absurd (show b∈([]:List Addr) from z) (by simp)
  refine ⟨⟨e0.mod,S.kind,rfl,rfl,Nat.le_refl _,fun y z c h1 h2=>?_,fun y hy=>?_,fun y c _ h=>?_,fun _=>hd,Around.frames_deeper e0.frames,.inr ⟨rfl,rfl⟩,fun b z=>absurd z (noA b),e0.bs,e0.bsz,fun b _ _=>noA b,fun b z=>absurd z (noA b),e0.funs,e0.frf⟩,
    rfl,e0.bare,Un.kept hk,⟨_,x.toInCall.ns,fun i y v h1 h2 h3=>?_⟩,fun y c h=>⟨_,x.cell y c h⟩,e0.hok.fresh (Nat.le_refl _),fun y c h=>?_,fun p hp=>absurd (show p∈([]:List (Addr×Obj)) from hp) (by simp),e0.hok.kept hk,?_⟩
  · exact name_of_addr x.apart (PySem.mem_of_lookup h1) (PySem.mem_of_lookup h2)
  · have hy:scope.names.lookup y=some .cell∨scope.names.lookup y=some .free:=hy
    rcases hy with hy | hy
    · exact qum hy
    · exact absurd rfl (S.nofree _ (PySem.mem_of_lookup hy))
  · exact Nat.le_of_lt (x.above y c (PySem.mem_of_lookup h))
  · have hi:i<vs.length:=by
      unfold qk1 at h2
      by_cases hi:i<vs.length
      · exact hi
      · rw [List.getElem?_append_right (by simpa using hi)] at h2
        rw [List.getElem?_replicate] at h2
        split at h2 <;> cases h2
    have ha:vs[i]?=some v:=by
      unfold qk1 at h2;rw [List.getElem?_append_left (by simpa using hi),List.getElem?_map] at h2
      cases e:vs[i]? with
      | none=>rw [e] at h2; cases h2
      | some a=>rw [e] at h2; cases h2; rfl
    obtain ⟨u,hu,rv⟩:=r.get ha
    have hp:ps[i]?=some y:=by
      rw [← S.pre,List.getElem?_take_of_lt (by omega)]; exact h1
    have ndP:ps.Nodup:=by rw [← S.pre]; exact S.nd.sublist (List.take_sublist _ _)
    refine ⟨u,rv,?_⟩
    rcases S.par y (List.mem_of_getElem? hp) with k | k
    · exact .inl ⟨k,qaj ndP hp hu k⟩
    · obtain ⟨c,e⟩:=qum (n:=s.heap.objs.size+1) k
      refine .inr ⟨.inl k,c,e,?_⟩;have q:=x.cell y c e;rw [qcj ndP hp hu (by show scope.names.lookup y≠_; rw [k]; decide)] at q;exact q
  · exact e0.hok.fresh (Nat.le_of_lt (x.above y c (PySem.mem_of_lookup h)))
  · unfold qk1
    show _=N.length;rw [List.length_append,List.length_map,List.length_replicate];omega
theorem fn_of {CX:CXT}{P:Program}{w:World}{K:W.Frag}{mg:Str→Option Value}{base:Heap}{k:Nat}{f:Addr}{name qual:Str}{params:Arguments}{body:List Stmt}{scope:Scope}{dV kV doc pm cdv ct oc:Value}{an od:Option Addr}
    {osl:Array (Option Value)} {N ps:List Str} {sp:Sp} (lk:K.lookup f=some ⟨oc,od,.func (PySem.W.fnOf name qual params body scope dV kV doc pm an cdv ct),osl⟩) (hcd:PySem.W.codeIn K cdv qual=true) (S:qo N ps scope)
    (len:∀ vs H Q E,sp vs H Q E→vs.length=ps.length)
    (hbody:∀ (A:Around) (outer:List Env) (s:Shared) (H:Hp) (vs:List V) (Q:VK) (E:XK),Room k (A.deeper (envOfC qual scope s.heap.objs.size f cdv))→sp vs H Q E →
      ∃ t,PSs (cxOf CX P w K mg base N qual scope f cdv A outer s H E) body t∧t { nx:=fun _ H'=>Q .non H',rt:=Q } (qk1 N vs) H) :
    FnOk P w K mg base CX (k+1) f (PySem.W.fnOf name qual params body scope dV kV doc pm an cdv ct) ps sp:=by
  refine ⟨len,fun A outer s H args us vs Q E hr e0 hb r hsp=>?_⟩;have hl:=len _ _ _ _ hsp;have KX:K.In s.heap:=e0.mod.kin.keeps fun b o e=>(e0.bs b o e).1;have lim:s.heap.NoLimit:=e0.mod.nolimit.keeps fun b o e=>(e0.bs b o e).1
  have hkind:∀ y∈ps.zip us,scope.names.lookup y.1=some .local∨(scope.names.lookup y.1=some .cell∧((cellsFrom (s.heap.objs.size+1) scope.names []).lookup y.1).isSome=true):=fun ⟨n,v⟩ hy=>by
    rcases S.par n (List.of_mem_zip hy).1 with q | q
    · exact .inl q
    · exact .inr ⟨q,PySem.W.cellsFrom_some _ _ _ (.inl q)⟩
  refine codeAny_call_function hr.depth (KX _ _ lk) rfl S.co S.gen rfl (PySem.W.codeRec_of KX hcd) (hb _ _ _ _ ?_);refine wpAny_newFunctionEnv_cells S.kind hkind fun env he s1 x=>?_;subst he;refine ⟨lim.keeps x.toInCall.keep,codeAny_func ?_⟩;obtain ⟨t,ht,hq⟩:=hbody A outer s H vs Q E (hr.deeper _) hsp;have I:Inv (cxOf CX P w K mg base N qual scope f cdv A outer s H E) [] (qk1 N vs) H s1:=qgs S hr.hd e0 hl r x;refine wpAny_mono (ht [] s1 (qk1 N vs) H _ I hq) (fun fl s' hs=>?_) fun e s' hs=>hs;have fin:∀ {σ':St} {H':Hp} {v:V} {u:Value},Inv (cxOf CX P w K mg base N qual scope f cdv A outer s H E) [] σ' H' s'→RelV v u→Q v H'→CE outer P w H s Q u s' :=
    fun {σ' H' v u} J rv q=>⟨v,H',J.os,J.bare,J.base,J.hok,rv,q⟩
  cases fl with
  | ret u =>
    obtain ⟨v,σ',H',J,rv,q⟩:=hs;exact fin J rv q
  | next =>
    obtain ⟨σ',H',J,q⟩:=hs;exact fin (v:=V.non) (u:=Value.none) J rfl q
  | brk =>
    obtain ⟨_,_,_,q⟩:=hs;exact False.elim q
  | cont =>
    obtain ⟨_,_,_,q⟩:=hs;exact False.elim q
end L2
namespace L2
open PySem PySem.Spec PyProof.Rows
section
variable {X:Cx}{x:Str}{p pos:Pos}{e:Expr}{es:List Expr}{t:TA}{id T:String}{r:List V→Hp→VK→Prop}
def tCB (r:List V→Hp→VK→Prop)(t:TA):TE:=fun σ H Q=>t σ H fun vs H1=>r vs H1 Q
theorem qy (hc:qn6 X (.builtin id) r)(hg:Gl X x)(hm:X.mg x=none)(hv:bootBuiltins x=some (.builtin id))(ha:PA X (e::es) t)(hn:x≠"__name__":=by decide)(hdb:(x == ("__debug__":Str))=false:=by decide)
    (he:starEach (e::es) X.env=(false,eval e X.env)::starEach es X.env:=by rfl) (hpl:(backTo pos (starEach es X.env)).any (·.1)=false:=by rfl):PE X (.Call (.Name x p) (e::es) [] pos) (tCB r t):=by
  intro pins s σ H Q I h;refine wpAny_Call_Name_kw (qvc I hg hm hv ?_ hn hdb);exact PyProof.Rows.callWith_builtin1 (thn (ha pos pins s σ H _ I h) fun us s1 ⟨vs,H1,I1,r1,q1⟩=>hc pins s1 σ H1 vs us Q I1 r1 q1) he hpl
theorem qm4 (hc:qn6 X (.type T) r)(hg:Gl X x)(hm:X.mg x=none)(hv:bootBuiltins x=some (.type T))(ha:PA X (e::es) t)(hn:x≠"__name__":=by decide)(hdb:(x == ("__debug__":Str))=false:=by decide)
    (he:starEach (e::es) X.env=(false,eval e X.env)::starEach es X.env:=by rfl) (hpl:(backTo pos (starEach es X.env)).any (·.1)=false:=by rfl):PE X (.Call (.Name x p) (e::es) [] pos) (tCB r t):=by
  intro pins s σ H Q I h;refine wpAny_Call_Name_kw (qvc I hg hm hv ?_ hn hdb);exact PyProof.Rows.callWith_type1 (thn (ha pos pins s σ H _ I h) fun us s1 ⟨vs,H1,I1,r1,q1⟩=>hc pins s1 σ H1 vs us Q I1 r1 q1) he hpl
end
end L2
namespace HT
open PySem PyProof.Rows
variable {Q:Option Int→Shared→Prop}{o:Option Int}
section
open PySem.SeqAt
open PySem.AutoSeq1 (wpAny_loadPart')
open PySem.MeetsSeq PySem.MeetsSeq2 PySem.MeetsSeq3
end
section
variable {prog:Program}{w:World}{A:Around}{E:Value→Shared→Prop}{s:Shared}
theorem cat_tup {t b:Addr}{vs ws:List Value}{Q:Value→Shared→Prop}(ht:IsTup s.heap t vs.toArray)(hb:IsTup s.heap b ws.toArray)(hv:vs≠[])
    (h1:ws=[]→Q (.ref t) s) (h2:ws≠[]→Q (.ref s.heap.objs.size) { s with heap:=s.heap.push { cls:=.type "tuple",data:=.seq (vs++ws).toArray } })
    (hsz:vs.length+ws.length≤sizeLine):wpAny (model prog w) A (binaryOp .Add (.ref t) (.ref b)) Q E s:=by
  obtain ⟨⟨cls,dd,data,sl⟩,ho,hc,n,hd⟩:=id ht;obtain ⟨⟨cls2,dd2,data2,sl2⟩,ho2,hc2,n2,hd2⟩:=id hb;simp only at hc hd hc2 hd2;subst hc hd hc2 hd2
  have e:vs.toArray++ws.toArray=(vs++ws).toArray:=by simp
  by_cases hw:ws=[]
  · exact concat_meets ⟨_,ho,rfl⟩ ⟨_,ho2,rfl⟩ noFill_tuple_add seq_tuple_add PySem.F.slot_tuple_add PySem.F.entry_tuple_add (PySem.F.args_tuple_add_2 _ _)
      (tuple_addW1 t b vs.toArray ws.toArray n n2 dd dd2 sl sl2 (by simpa using hv) (by simp [hw])) ⟨ho,ho2,h1 hw⟩
  · refine concat_meets ⟨_,ho,rfl⟩ ⟨_,ho2,rfl⟩ noFill_tuple_add seq_tuple_add PySem.F.slot_tuple_add PySem.F.entry_tuple_add (PySem.F.args_tuple_add_2 _ _)
      (tuple_addW2 t b vs.toArray ws.toArray n n2 dd dd2 sl sl2 (by simpa using hv) (by simpa using hw) (by rw [List.size_toArray,List.size_toArray]; exact hsz)) ⟨ho,ho2,?_⟩
    rw [e];exact h2 hw
def sIx (n d:Nat):Option Int→Nat
  | none=>d
  | some v=>if v<0 then (v+(n:Int)).toNat else min v.toNat n
theorem sIx_none (n d:Nat):sIx n d none=d:=rfl
theorem sIx_nat (n d k:Nat):sIx n d (some (k:Int))=min k n:=by
  show (if (k:Int)<0 then ((k:Int)+(n:Int)).toNat else min (k:Int).toNat n)=min k n;rw [if_neg (by omega),Int.toNat_natCast]
theorem sIx_le (n d:Nat)(hd:d≤n)(o:Option Int):sIx n d o≤n:=by
  cases o with
  | none=>exact hd
  | some v =>
    show (if v<0 then (v+(n:Int)).toNat else min v.toNat n)≤n
    by_cases hv:v<0
    · rw [if_pos hv]; omega
    · rw [if_neg hv]; exact Nat.min_le_right _ _
theorem qft (v:Int)(n d:Nat):(if v<0 then max (v+(n:Int)) 0 else min v (n:Int))=((sIx n d (some v):Nat):Int):=by
  show (if v<0 then max (v+(n:Int)) 0 else min v (n:Int))=(((if v<0 then (v+(n:Int)).toNat else min v.toNat n):Nat):Int)
  by_cases hv:v<0
  · simp only [if_pos hv]; omega
  · simp only [if_neg hv]; omega
theorem qno (lo hi:Option Int)(n:Nat):Builtin.Slice.sliceAdjust lo hi 1 (n:Int)=(((sIx n 0 lo:Nat):Int),((sIx n n hi:Nat):Int)):=by
  have h1:¬ ((1:Int)<0):=by omega
  unfold Builtin.Slice.sliceAdjust;simp only [h1,if_false];refine Prod.ext ?_ ?_
  · cases lo with
    | none=>rfl
    | some v=>exact qft v n 0
  · cases hi with
    | none=>rfl
    | some v=>exact qft v n n
theorem qkn (i j:Nat):Builtin.Slice.slicePlaces (i:Int) (j:Int) 1=j - i:=by
  unfold Builtin.Slice.slicePlaces
  have h1:(1:Int) > 0:=by omega
  simp only [h1,if_true,Int.ediv_one]
  split <;> omega
theorem qtd {v:Value}(p:IsPart v o)(h:Q o s):wpAny (model prog w) A (Builtin.Slice.slicePartIndex v) Q E s:=by
  cases p with
  | none=>exact slicePart_none h
  | int i t=>exact slicePart_int h
theorem qna {sl:Addr}{vl vu:Value}{lo hi:Option Int}{n:Nat}{Q:Int×Int×Nat→Shared→Prop}(hs:s.heap.IsSliceOf sl vl vu .none)(pl:IsPart vl lo)(pu:IsPart vu hi)
    (h:Q (((sIx n 0 lo:Nat):Int),1,sIx n n hi - sIx n 0 lo) s):wpAny (model prog w) A (Builtin.Slice.sliceApplied (.ref sl) (pure (n:Int))) Q E s:=by
  obtain ⟨os,hos,hcs,hds⟩:=id hs;unfold Builtin.Slice.sliceApplied Builtin.Slice.sliceFields;refine wpAny_bind (wpAny_bind (wpAny_field hos hds (x:=vl) rfl (wpAny_bind (wpAny_field hos hds (x:=vu) rfl (wpAny_bind (wpAny_field hos hds (x:=.none) rfl (wpAny_pure ?_)))))));refine wpAny_bind (slicePart_none ?_);show wpAny _ _ (if ((1:Int) == 0)=true then _ else _) _ _ s;rw [if_neg (by decide)];refine wpAny_bind (qtd pl (wpAny_bind (qtd pu (wpAny_bind (wpAny_pure ?_)))));show wpAny _ _ (match Builtin.Slice.sliceAdjust lo hi 1 (n:Int) with | (lo,hi)=>pure (lo,(1:Int),Builtin.Slice.slicePlaces lo hi 1)) _ _ s;rw [qno lo hi n];show wpAny _ _ (pure (((sIx n 0 lo:Nat):Int),(1:Int),Builtin.Slice.slicePlaces ((sIx n 0 lo:Nat):Int) ((sIx n n hi:Nat):Int) 1)) _ _ s;rw [qkn];exact wpAny_pure h
theorem qcv (xs:Array Value)(i k:Nat):((List.range k).filterMap fun (m:Nat)=>xs[((i:Int)+(m:Int) * 1).toNat]?).toArray=((xs.toList.drop i).take k).toArray:=by
  have e:(fun (m:Nat)=>xs[((i:Int)+(m:Int) * 1).toNat]?)=fun m=>xs[i+m]?:=by
    funext m
    have:((i:Int)+(m:Int) * 1).toNat=i+m:=by omega
    rw [this]
  rw [e];have:=pick_run xs i k;rw [List.filterMap_map] at this;have e2:((fun x=>xs[x]?) ∘ fun x=>i+x)=fun m=>xs[i+m]?:=rfl;rw [e2] at this;rw [this]
theorem getItem_tuple_cut {t sl:Addr}{items:Array Value}{vl vu:Value}{lo hi:Option Int}{Q:Value→Shared→Prop}(ht:IsTup s.heap t items)(hs:s.heap.IsSliceOf sl vl vu .none)(pl:IsPart vl lo)(pu:IsPart vu hi)
    (hw:¬ (sIx items.size 0 lo=0∧sIx items.size items.size hi=items.size))
    (h:Q (.ref s.heap.objs.size) { s with heap:=s.heap.push { cls:=.type "tuple",data:=.seq ((items.toList.drop (sIx items.size 0 lo)).take (sIx items.size items.size hi - sIx items.size 0 lo)).toArray } })
    (hsz:items.size≤sizeLine):wpAny (model prog w) A (getItem (.ref t) (.ref sl)) Q E s:=by
  have htake:sizeOk (.seq ((items.toList.drop (sIx items.size 0 lo)).take (sIx items.size items.size hi - sIx items.size 0 lo)).toArray):=by
    show ((items.toList.drop (sIx items.size 0 lo)).take (sIx items.size items.size hi - sIx items.size 0 lo)).toArray.size≤sizeLine;rw [List.size_toArray,List.length_take,List.length_drop,Array.length_toList];omega
  have hj:sIx items.size items.size hi≤items.size:=sIx_le _ _ (Nat.le_refl _) hi;obtain ⟨os,hos,hcs,hds⟩:=id hs;have hTs:s.TypeIs (.ref sl) "slice":=⟨os,hos,hcs⟩;unfold getItem
  try with_reducible refine wpAny_holding ?_
  first | refine wpAny_bind (wpAny_pure ?_) | skip
  refine wpAny_bind (wpAny_sequenceKey ht.typeIs (by decide) ?_)
  refine wpAny_bind (wpAny_callSpecial?_slot (name:=Str.ofString "__getitem__") ht.typeIs PyProof.Rows.slot_tuple_getitem
    (wpAny_call_entry PyProof.Rows.slot_tuple_getitem ht.typeIs entry_tuple_getitem ?_ (args_tuple_getitem _ _)))
  show wpAny _ _ (Builtin.Tuple.tupleItemsOf (.ref t) >>= _) _ _ s;refine wpAny_bind (tupleItemsOf_ ht ?_);refine wpAny_bind (wpAny_typeOf hTs ?_);rw [if_pos (by decide)];refine wpAny_bind (qna hs pl pu ?_)
  have hno:¬ ((((sIx items.size 0 lo:Nat):Int) == 0 && (1:Int) == 1 && (sIx items.size items.size hi - sIx items.size 0 lo) == items.size)=true):=by
    intro q;rw [Bool.and_eq_true,Bool.and_eq_true] at q;have q1:((sIx items.size 0 lo:Nat):Int)=0:=eq_of_beq q.1.1;have q2:sIx items.size items.size hi - sIx items.size 0 lo=items.size:=eq_of_beq q.2;exact hw ⟨by omega,by omega⟩
  show wpAny _ _ (if (((sIx items.size 0 lo:Nat):Int) == 0 && (1:Int) == 1 && (sIx items.size items.size hi - sIx items.size 0 lo) == items.size)=true then _ else _) _ _ s;rw [if_neg hno,qcv]
  first
    | exact wpAny_bind (m:=Builtin.Tuple.tupleExact _) (wpAny_newObj_type (wpAny_pure ⟨_,rfl,wpAny_pure h⟩) htake)
    | exact wpAny_bind (m:=Builtin.Tuple.tupleExact _) (wpAny_newObj_type (wpAny_bind (wpAny_pure (wpAny_pure ⟨_,rfl,wpAny_pure h⟩))) htake)
    | exact wpAny_bind (wpAny_bind (m:=Builtin.Tuple.tupleExact _) (wpAny_newObj_type (wpAny_pure (wpAny_pure ⟨_,rfl,wpAny_pure h⟩)) htake))
    | exact wpAny_bind (wpAny_bind (m:=Builtin.Tuple.tupleExact _) (wpAny_newObj_type (wpAny_pure ⟨_,rfl,wpAny_pure h⟩) htake))
end
end HT
namespace L2
open PySem PySem.Spec PyProof.Rows
variable {r:V→Option Int→Option Int→Hp→VK→Prop}{us:List Value}
abbrev TO:=St→Hp→(Option Int→Hp→Prop)→Prop
def PO (X:Cx)(e:Option Expr)(t:TO):Prop :=
  ∀ (pins:List (Addr×Obj)) (s:Shared) (σ:St) (H:Hp) (Q:Option Int→Hp→Prop),Inv X pins σ H s→t σ H Q →
    wpAny (model X.prog X.w) X.A (evalPart e X.env) (fun u s'=>∃ o H',Inv X pins σ H' s'∧IsPart u o∧Q o H') X.xe s
def qgp:TO:=fun _ H Q=>Q none H
def tPart (t:TE):TO:=fun σ H Q=>t σ H fun x H1=>∃ i,x=.int i∧Q (some i) H1
section
variable {X:Cx}{e:Expr}{te:TE}{lo hi:Option Expr}{tl th:TO}{pos p2:Pos}
theorem qa2:PO X none qgp:=by
  intro pins s σ H Q I h;rw [evalPart_none];exact wpAny_pure ⟨none,H,I,.none,h⟩
theorem qz1 (h:PE X e te):PO X (some e) (tPart te):=by
  intro pins s σ H Q I hw;rw [evalPart_some];refine thn (h pins s σ H _ I hw) fun u s1 ⟨x,H1,I1,r1,q1⟩=>?_;obtain ⟨i,rfl,q⟩:=q1;obtain ⟨t,rfl⟩:=r1;exact ⟨some i,H1,I1,.int i t,q⟩
def SlR (X:Cx)(r:V→Option Int→Option Int→Hp→VK→Prop):Prop :=
  ∀ (pins:List (Addr×Obj)) (s:Shared) (σ:St) (H:Hp) (x:V) (v vl vu:Value) (lo hi:Option Int) (sl:Addr) (Q:VK),Inv X pins σ H s→RelV x v→s.heap.IsSliceOf sl vl vu .none→IsPart vl lo→IsPart vu hi→r x lo hi H Q →
    ∃ T id,typeLookup (.type T) "__getitem__"=pure (some (.builtin id))∧s.TypeIs v T∧wpAny (model X.prog X.w) X.A (getItem v (.ref sl)) (EP X pins σ Q) X.xe s
def tSl (r:V→Option Int→Option Int→Hp→VK→Prop)(te:TE)(tl th:TO):TE:=fun σ H Q=>te σ H fun x H1=>tl σ H1 fun l H2=>th σ H2 fun u H3=>r x l u H3 Q
theorem qj1 (hr:SlR X r)(he:PE X e te)(hl:PO X lo tl)(hu:PO X hi th):PE X (.Subscript e (.Slice lo hi none p2) pos) (tSl r te tl th):=by
  intro pins s σ H Q I h;refine Subscript_ (thn (he pins s σ H _ I h) fun v s1 ⟨x,H1,I1,r1,q1⟩=>?_);refine wpAny_Slice (thn (hl pins s1 σ H1 _ I1 q1) fun vl s2 ⟨l,H2,I2,pl,q2⟩=>thn (hu pins s2 σ H2 _ I2 q2) fun vu s3 ⟨u,H3,I3,pu,q3⟩=>?_);rw [evalPart_none];refine wpAny_pure ?_;have I4:Inv X pins σ H3 { s3 with heap:=s3.heap.push { cls:=.type "slice",data:=.fields #[vl,vu,.none] } }:=I3.kept (t':=s3.toks) fun b ob q=>Heap.get?_push_of_some _ q;obtain ⟨T,id,hT,ht,hg⟩:=hr pins { s3 with heap:=s3.heap.push { cls:=.type "slice",data:=.fields #[vl,vu,.none] } } σ H3 x v vl vu l u s3.heap.objs.size Q I4 r1 (Heap.IsSliceOf.new ..) pl pu q3;show wpAny (model X.prog X.w) X.A (subscriptTail e (.Slice lo hi none p2) v (.ref s3.heap.objs.size)) (EP X pins σ Q) X.xe { s3 with heap:=s3.heap.push { cls:=.type "slice",data:=.fields #[vl,vu,.none] } };exact tail_any (ops:=[.ref s3.heap.objs.size,v]) ht hT hg (by with_unfolding_all rfl)
def cutV (xs:List V)(lo hi:Option Int):List V:=(xs.drop (HT.sIx xs.length 0 lo)).take (HT.sIx xs.length xs.length hi - HT.sIx xs.length 0 lo)
theorem qcd (xs:List V)(lo hi:Option Int):(cutV xs lo hi).length≤xs.length:=by
  unfold cutV;rw [List.length_take,List.length_drop];omega
def rSlT (K:W.Frag):V→Option Int→Option Int→Hp→VK→Prop:=fun x lo hi H Q=>∃ a xs,x=.ref a∧SqT K H a xs ∧
  ¬ (HT.sIx xs.length 0 lo=0∧HT.sIx xs.length xs.length hi=xs.length)∧∀ p,H p=none→Q (.ref p) (upd H p (.tup (cutV xs lo hi)))
theorem qy9:SlR X (rSlT X.K):=by
  intro pins s σ H x v vl vu lo hi sl Q I rx hs pl pu h;obtain ⟨a,xs,rfl,hx,hw,q⟩:=h;cases rx;obtain ⟨its,r,ht,hz⟩:=I.tuple hx
  have hlen:its.toArray.size=xs.length:=by rw [List.size_toArray]; exact r.length.symm
  refine ⟨"tuple",_,PyProof.Rows.slot_tuple_getitem.lookup,ht.typeIs,?_⟩;refine HT.getItem_tuple_cut ht hs pl pu (by rw [hlen]; exact hw) ?_ (by rw [hlen]; exact hz);rw [hlen];refine ⟨.ref s.heap.objs.size,_,I.laid (t':=s.toks) (o:=.tup (cutV xs lo hi)) (fun b ob q=>Heap.get?_push_of_some _ q) (Nat.le_refl _) ?_,rfl,q _ (I.hok.fresh (Nat.le_refl _))⟩;exact ⟨Nat.le_trans (qcd xs lo hi) hz,_,(r.drop (HT.sIx xs.length 0 lo)).take (HT.sIx xs.length xs.length hi - HT.sIx xs.length 0 lo),IsTup.new _ _⟩
def rCatT (K:W.Frag):R2:=fun x y H Q=>∃ a b xs ys,x=.ref a∧y=.ref b∧SqT K H a xs∧SqT K H b ys∧xs≠[]∧xs.length+ys.length≤sizeLine ∧
  (ys=[]→Q (.ref a) H)∧(ys≠[]→∀ p,H p=none→Q (.ref p) (upd H p (.tup (xs++ys))))
theorem Vals.nil_iff {xs:List V}(r:Vals xs us):us=[]↔xs=[]:=by
  cases r with
  | nil=>simp
  | cons _ _=>simp
theorem op_catT:OpR X (binaryOp .Add) (rCatT X.K):=by
  intro pins s σ H x y v u Q I rx ry h;obtain ⟨a,b,xs,ys,rfl,rfl,ha,hb,hx,hz,q1,q2⟩:=h;cases rx;cases ry;obtain ⟨its,r1,p1,_⟩:=I.tuple ha;obtain ⟨its2,r2,p2,_⟩:=I.tuple hb;refine HT.cat_tup p1 p2 (fun z=>hx (r1.nil_iff.mp z)) (fun z=>⟨.ref a,H,I,rfl,q1 (r2.nil_iff.mp z)⟩) (fun z=>?_) (by rw [← r1.length,← r2.length]; exact hz);refine ⟨.ref s.heap.objs.size,_,I.laid (t':=s.toks) (o:=.tup (xs++ys)) (fun b ob q=>Heap.get?_push_of_some _ q) (Nat.le_refl _) ?_,rfl,q2 (fun w=>z (r2.nil_iff.mpr w)) _ (I.hok.fresh (Nat.le_refl _))⟩;exact ⟨by rw [List.length_append]; exact hz,_,r1.append r2,IsTup.new _ _⟩
end
end L2
namespace L2
open PySem PySem.Spec PyProof.Rows
variable {A:Around}{H:Hp}{i:Int}{j:Nat}{pins:List (Addr×Obj)}{s:Shared}{u v:Value}{x:V}{α:Type}{σ:St}
def ixN (n:Nat)(i:Int):Option Nat:=if 0≤i then (if i<n then some i.toNat else none) else if -(n:Int)≤i then some (i+n).toNat else none
def atI {α:Type}(xs:List α)(i:Int):Option α:=(ixN xs.length i).bind fun j=>xs[j]?
theorem qes {n:Nat}(h:ixN n i=some j):seqIndex? i n=some j∧j<n∧-(n:Int)≤i∧i<n:=by
  unfold ixN at h
  by_cases h0:0≤i
  · rw [if_pos h0] at h
    by_cases h1:i<n
    · rw [if_pos h1] at h
      have e:i.toNat=j:=Option.some.inj h;exact ⟨by rw [seqIndex_of h0 h1,e],by omega,by omega,h1⟩
    · rw [if_neg h1] at h; cases h
  · rw [if_neg h0] at h
    by_cases h1:-(n:Int)≤i
    · rw [if_pos h1] at h
      have e:(i+n).toNat=j:=Option.some.inj h;exact ⟨by rw [seqIndex_neg (by omega) h1,e],by omega,h1,by omega⟩
    · rw [if_neg h1] at h; cases h
theorem qil {xs:List α}{v:α}(h:atI xs i=some v):∃ j,seqIndex? i xs.length=some j∧xs[j]?=some v∧j<xs.length∧-(xs.length:Int)≤i∧i<xs.length:=by
  unfold atI at h
  cases e:ixN xs.length i with
  | none=>rw [e] at h; cases h
  | some j =>
    rw [e] at h;obtain ⟨h1,h2,h3,h4⟩:=qes e;exact ⟨j,h1,h,h2,h3,h4⟩
theorem qhl {xs:List α}{v:α}(h:xs[j]?=some v):atI xs (j:Int)=some v:=by
  have hj:j<xs.length:=(List.getElem?_eq_some_iff.mp h).1
  have e:ixN xs.length (j:Int)=some j:=by
    unfold ixN;rw [if_pos (by omega),if_pos (by omega)]; simp
  unfold atI; rw [e]; exact h
theorem qyw (xs:List α)(v:α):atI (xs++[v]) (-1)=some v:=by
  have hl:(xs++[v]).length=xs.length+1:=by simp
  have e:ixN (xs++[v]).length (-1)=some xs.length:=by
    unfold ixN;rw [hl,if_neg (by decide),if_pos (by omega)]
    congr 1
    omega
  unfold atI;rw [e];show (xs++[v])[xs.length]?=some v;simp
def PlainIx (b:Expr):Prop:=∀ o i,subscripted b false o i=operate [o,i] (getItem o i)
def IxR (X:Cx)(r:R2):Prop :=
  ∀ (value slice:Expr) (pins:List (Addr×Obj)) (s:Shared) (σ:St) (H:Hp) (x y:V) (v u:Value) (Q:VK),Inv X pins σ H s→RelV x v→RelV y u→r x y H Q →
    subscripted slice false v u=operate [v,u] (getItem v u)→wpAny (model X.prog X.w) X.A (subscriptTail value slice v u) (EP X pins σ Q) X.xe s
def MtR (X:Cx)(id:String)(r:V→List V→Hp→VK→Prop):Prop :=
  ∀ (pins:List (Addr×Obj)) (s:Shared) (σ:St) (H:Hp) (x:V) (xs:List V) (v:Value) (us:List Value) (Q:VK),Inv X pins σ H s→RelV x v→Vals xs us→r x xs H Q →
    wpAny (model X.prog X.w) X.A (call (.builtin id) (v::us)) (EP X pins σ Q) X.xe s
section
variable {X:Cx}{a b:Expr}{ta tb:TE}{pos:Pos}
theorem qq {r:R2}(hr:IxR X r)(ha:PE X a ta)(hb:PE X b tb)(hs:PlainIx b):PE X (.Subscript a b pos) (tOp r ta tb):=by
  intro pins s σ H Q I h;exact Subscript_ (binT ha hb I h fun v u s2 x y H2 I2 rx ry q=>hr a b pins s2 σ H2 x y v u Q I2 rx ry q (hs _ _))
def rIxL (K:W.Frag):R2:=fun x y H Q=>∃ p xs i v,x=.ref p∧y=.int i∧SqL K H p xs∧atI xs i=some v∧Q v H
def rIxT (K:W.Frag):R2:=fun x y H Q=>∃ p xs i v,x=.ref p∧y=.int i∧SqT K H p xs∧atI xs i=some v∧Q v H
def rIxS:R2:=fun x y H Q=>∃ z i c,x=.str z∧y=.int i∧z.length≤sizeLine∧atI z.cps.toList i=some c∧Q (.str ⟨#[c]⟩) H
theorem qb2:IxR X (rIxL X.K):=by
  intro value slice pins s σ H x y v u Q I rx ry h hs;obtain ⟨p,xs,i,z,rfl,rfl,hq,he,q⟩:=h;cases rx;obtain ⟨t,rfl⟩:=ry;obtain ⟨its,r,pl,hz⟩:=I.list hq;obtain ⟨j,h1,h2,h3,h4,h5⟩:=qil he;obtain ⟨w,ew,rw'⟩:=r.get h2;have hl:=r.length;have hn:=qhi;have fin:EP X pins σ Q w s:=⟨z,H,I,rw',q⟩
  by_cases h0:0≤i
  · have hj:i.toNat=j:=by
      rw [seqIndex_of h0 h5] at h1;exact Option.some.inj h1
    exact item_listR pl.isList h0 (by omega) (by rw [hj]; simpa using ew) fin hs
  · have hj:(i+(its.toArray.size:Int)).toNat=j:=by
      rw [seqIndex_neg (by omega) h4] at h1;rw [List.size_toArray,← hl];exact Option.some.inj h1
    exact subscriptTail_builtinR (x:=w) pl.isList.typeIs slot_list_getitem.lookup
      (wpAny_getItem_list_neg (Q:=fun r s'=>r=w∧EP X pins σ Q r s') pl.isList (by omega) (by rw [List.size_toArray] <;> omega) (by omega) (by rw [hj]; simpa using ew) ⟨rfl,fin⟩) hs
theorem ql0:IxR X (rIxT X.K):=by
  intro value slice pins s σ H x y v u Q I rx ry h hs;obtain ⟨p,xs,i,z,rfl,rfl,hq,he,q⟩:=h;cases rx;obtain ⟨t,rfl⟩:=ry;obtain ⟨its,r,pl,hz⟩:=I.tuple hq;obtain ⟨j,h1,h2,h3,h4,h5⟩:=qil he;obtain ⟨w,ew,rw'⟩:=r.get h2;have hl:=r.length;have hn:=qhi;have fin:EP X pins σ Q w s:=⟨z,H,I,rw',q⟩;exact subscriptTail_builtinR (x:=w) pl.typeIs slot_tuple_getitem.lookup
    (getItem_tuple (j:=j) (Q:=fun r s'=>r=w∧EP X pins σ Q r s') pl (by omega) (by omega) (by rw [List.size_toArray,← hl]; exact h1) (by simpa using ew) ⟨rfl,fin⟩) hs
theorem ix_str:IxR X rIxS:=by
  intro value slice pins s σ H x y v u Q I rx ry h hs;obtain ⟨z,i,c,rfl,rfl,hz,he,q⟩:=h;obtain ⟨t,rfl⟩:=rx;obtain ⟨t',rfl⟩:=ry;obtain ⟨j,h1,h2,h3,h4,h5⟩:=qil he
  have hl:z.cps.toList.length=z.length:=by simp [Str.length]
  rw [hl] at h1 h4 h5;have hn:=qhi
  exact tail_any (typeIs_str s z t) slot_str_getitem.lookup (getItem_str (c:=c) (by
    have e1:decide (i < -(2 ^ 63:Int))=false:=decide_eq_false (by omega);have e2:decide (i ≥ 2 ^ 63)=false:=decide_eq_false (by omega)
    rw [e1,e2,Bool.or_false]) (by rw [h1]; simpa using h2) ⟨.str ⟨#[c]⟩,H,I.tok _,⟨_,rfl⟩,q⟩) hs
theorem qeo (its:List Value)(n j:Nat)(u:Value):Obj.mapSeq (·.setIfInBounds j u) { cls:=.type "list",data:=.seq its.toArray n }={ cls:=.type "list",data:=.seq (its.set j u).toArray n }:=by
  simp [Obj.mapSeq]
theorem Inv.lst {p:Addr}{xs:List V}(I:Inv X pins σ H s)(h:H p=some (.lst xs)) :
    ∃ (its:List Value) (n:Nat),Vals xs its∧s.heap.get? p=some { cls:=.type "list",data:=.seq its.toArray n }∧xs.length≤sizeLine:=by
  obtain ⟨z,its,n,r,e⟩:=I.hok p _ h;exact ⟨its,n,r,e,z⟩
theorem Inv.lstUpd {pins:List (Addr×Obj)}{σ:St}{H:Hp}{s:Shared}{p:Addr}{xs ys:List V}{its its':List Value}{n n':Nat}{f:Obj→Obj}(I:Inv X pins σ H s)(h:H p=some (.lst xs))
    (ho:s.heap.get? p=some { cls:=.type "list",data:=.seq its.toArray n }) (hf:f { cls:=.type "list",data:=.seq its.toArray n }={ cls:=.type "list",data:=.seq its'.toArray n' }) (r:Vals ys its') (hz:ys.length≤sizeLine) (t:Nat) :
    Inv X pins σ (upd H p (.lst ys)) { s with heap:=s.heap.update p f,toks:=t }:=by
  have e:(s.heap.update p f).get? p=some { cls:=.type "list",data:=.seq its'.toArray n' }:=by
    rw [Heap.get?_update_self f ho (by rw [hf] <;> rfl),hf]
  refine I.write (x:=p) (e:=p) (by rw [h]; trivial) (.inl rfl) (fun b u hb q=>(Heap.get?_update_other _ _ (Ne.symm hb)).trans q) ⟨_,e⟩ ?_;exact ⟨hz,its',n',r,e⟩
def rSetL:V→V→V→Hp→(Hp→Prop)→Prop:=fun o i v H Q=>∃ p xs k j,o=.ref p∧i=.int k∧H p=some (.lst xs)∧ixN xs.length k=some j∧Q (upd H p (.lst (xs.set j v)))
theorem qtl:PSet X rSetL:=by
  intro pins s σ H o i v ov iv u Q I ro ri rv h;obtain ⟨p,xs,k,j,rfl,rfl,hp,hj,q⟩:=h;cases ro;obtain ⟨t,rfl⟩:=ri;obtain ⟨its,n,r,ho,hz⟩:=I.lst hp;obtain ⟨h1,h2,h3,h4⟩:=qes hj;have hl:=r.length;have hn:=qhi;have I':Inv X pins σ (upd H p (.lst (xs.set j v))) { s with heap:=s.heap.update p (Obj.mapSeq (·.setIfInBounds j u)) } :=
    I.lstUpd hp ho (qeo its n j u) (r.set rv j) (by rw [List.length_set]; exact hz) s.toks
  by_cases h0:0≤k
  · have hk:k.toNat=j:=by
      rw [seqIndex_of h0 h4] at h1;exact Option.some.inj h1
    exact PySem.W.ki_setAt ho h0 (by omega) (by rw [List.size_toArray,← hl]; exact h4) (by rw [hk]; exact ⟨_,I',q⟩)
  · have hk:(k+(its.toArray.size:Int)).toNat=j:=by
      rw [seqIndex_neg (by omega) h3] at h1;rw [List.size_toArray,← hl];exact Option.some.inj h1
    exact PySem.W.ki_setBack ho (by omega) (by rw [List.size_toArray,← hl]; exact h3) (by omega) (by rw [hk]; exact ⟨_,I',q⟩)
theorem qdh (lo hi:Option Int)(n:Nat):(sliceBounds lo hi none n).1=((HT.sIx n 0 lo:Nat):Int)∧(sliceBounds lo hi none n).2.1=((HT.sIx n n hi:Nat):Int)∧(sliceBounds lo hi none n).2.2=1:=by
  refine ⟨?_,?_,rfl⟩
  · cases lo with
    | none=>simp [sliceBounds,HT.sIx]
    | some i =>
      simp only [sliceBounds,HT.sIx,Option.getD_none,show (1:Int) > 0 by decide,if_true]
      by_cases h:i<0
      · simp only [h,if_true] <;> omega
      · simp only [h,if_false] <;> omega
  · cases hi with
    | none=>simp [sliceBounds,HT.sIx]
    | some i =>
      simp only [sliceBounds,HT.sIx,Option.getD_none,show (1:Int) > 0 by decide,if_true]
      by_cases h:i<0
      · simp only [h,if_true] <;> omega
      · simp only [h,if_false] <;> omega
theorem qkf (its:List Value)(lo hi:Option Int):slicePick its.toArray lo hi none=((its.drop (HT.sIx its.length 0 lo)).take (HT.sIx its.length its.length hi - HT.sIx its.length 0 lo)).toArray:=by
  obtain ⟨h1,h2,h3⟩:=qdh lo hi its.toArray.size;unfold slicePick;rw [h1,h2,h3]
  simp only [sliceRange_one,pick_run,List.size_toArray] <;> rfl
def rSlL (K:W.Frag):V→Option Int→Option Int→Hp→VK→Prop:=fun x lo hi H Q=>∃ a xs,x=.ref a∧SqL K H a xs∧∀ p,H p=none→Q (.ref p) (upd H p (.lst (cutV xs lo hi)))
theorem qs3:SlR X (rSlL X.K):=by
  intro pins s σ H x v vl vu lo hi sl Q I rx hs pl pu h;obtain ⟨a,xs,rfl,hx,q⟩:=h;cases rx;obtain ⟨its,r,ht,hz⟩:=I.list hx;have hlen:=r.length;refine ⟨"list",_,slot_list_getitem.lookup,ht.isList.typeIs,?_⟩;refine wpAny_getItem_list_slice ht.isList hs pl pu .none (by simp) ?_ (by rw [List.size_toArray] <;> omega);rw [qkf,← hlen];refine ⟨.ref s.heap.objs.size,_,I.laid (t':=s.toks) (o:=.lst (cutV xs lo hi)) (fun b ob q=>Heap.get?_push_of_some _ q) (Nat.le_refl _) ?_,rfl,q _ (I.hok.fresh (Nat.le_refl _))⟩;exact ⟨Nat.le_trans (qcd xs lo hi) hz,_,0,(r.drop (HT.sIx xs.length 0 lo)).take (HT.sIx xs.length xs.length hi - HT.sIx xs.length 0 lo),Heap.get?_push_size _ rfl⟩
def qgg:V→Bool
  | .non=>true
  | .bl _=>true
  | .int _=>true
  | .str _=>true
  | _=>false
def eqV:V→V→Bool
  | .non,.non=>true
  | .bl a,.bl b=>a == b
  | .bl a,.int b=>(if a then 1 else 0) == b
  | .int a,.bl b=>a == (if b then 1 else 0)
  | .int a,.int b=>a == b
  | .str a,.str b=>a == b
  | _,_=>false
theorem eqAt_V {y:V}(ry:RelV y u)(rx:RelV x v)(fy:qgg y=true)(fx:qgg x=true):SeqAt.EqAt A s u v (eqV y x):=by
  cases y with
  | non =>
    cases ry
    cases x with
    | non=>cases rx; exact SeqAt.EqAt.same _
    | bl b=>cases rx; exact SeqAt.EqAt.none_bool b
    | int b=>obtain ⟨t,rfl⟩:=rx; exact SeqAt.EqAt.none_int b t
    | str b=>obtain ⟨t,rfl⟩:=rx; exact SeqAt.EqAt.none_str b t
    | _=>exact absurd (show false=true from fx) Bool.false_ne_true
  | bl a =>
    cases ry
    cases x with
    | non=>cases rx; exact SeqAt.EqAt.bool_none a
    | bl b=>cases rx; exact SeqAt.EqAt.bool_bool a b
    | int b=>obtain ⟨t,rfl⟩:=rx; exact SeqAt.EqAt.bool_int a b t
    | str b=>obtain ⟨t,rfl⟩:=rx; exact SeqAt.EqAt.bool_str a b t
    | _=>exact absurd (show false=true from fx) Bool.false_ne_true
  | int a =>
    obtain ⟨t',rfl⟩:=ry
    cases x with
    | non=>cases rx; exact SeqAt.EqAt.int_none a t'
    | bl b=>cases rx; exact SeqAt.EqAt.int_bool a t' b
    | int b=>obtain ⟨t,rfl⟩:=rx; exact SeqAt.EqAt.int_int a t' b t
    | str b=>obtain ⟨t,rfl⟩:=rx; exact SeqAt.EqAt.int_str a t' b t
    | _=>exact absurd (show false=true from fx) Bool.false_ne_true
  | str a =>
    obtain ⟨t',rfl⟩:=ry
    cases x with
    | non=>cases rx; exact SeqAt.EqAt.str_none a t'
    | bl b=>cases rx; exact SeqAt.EqAt.str_bool a t' b
    | int b=>obtain ⟨t,rfl⟩:=rx; exact SeqAt.EqAt.str_int a t' b t
    | str b=>obtain ⟨t,rfl⟩:=rx; exact SeqAt.EqAt.str_str a t' b t
    | _=>exact absurd (show false=true from fx) Bool.false_ne_true
  | _=>exact absurd (show false=true from fy) Bool.false_ne_true
def eqU (x:V)(u:Value):Bool:=match u with
  | .none=>eqV .non x
  | .bool b=>eqV (.bl b) x
  | .int i _=>eqV (.int i) x
  | .str z _=>eqV (.str z) x
  | _=>false
theorem eqU_of {y:V}(r:RelV y u)(f:qgg y=true):eqU x u=eqV y x:=by
  cases y with
  | non=>cases r; rfl
  | bl b=>cases r; rfl
  | int i=>obtain ⟨t,rfl⟩:=r; rfl
  | str z=>obtain ⟨t,rfl⟩:=r; rfl
  | _=>exact absurd (show false=true from f) Bool.false_ne_true
theorem qjl :∀ {xs:List V} {us:List Value},Vals xs us→xs.all qgg=true→us.any (eqU x)=xs.any fun y=>eqV y x
  | _,_,.nil,_=>rfl
  | y::xs,u::us,.cons r t,f=>by
    rw [List.all_cons,Bool.and_eq_true] at f;rw [List.any_cons,List.any_cons,eqU_of r f.1,qjl t f.2]
theorem qzf (rx:RelV x v)(fx:qgg x=true):∀ {xs:List V} {us:List Value},Vals xs us→xs.all qgg=true→∀ u∈us,SeqAt.EqAt A s u v (eqU x u)
  | _,_,.nil,_=>fun u hu=>by cases hu
  | y::xs,u::us,.cons r t,f=>fun u' hu=>by
    rw [List.all_cons,Bool.and_eq_true] at f
    rcases List.mem_cons.mp hu with rfl | hu
    · rw [eqU_of r f.1]; exact eqAt_V r rx f.1 fx
    · exact qzf rx fx t f.2 u' hu
def inV (x:V)(xs:List V):Bool:=xs.any fun y=>eqV y x
def rIn (K:W.Frag)(neg:Bool):R2:=fun x y H Q=>∃ p xs,y=.ref p∧(SqL K H p xs∨SqT K H p xs)∧qgg x=true∧xs.all qgg=true∧Q (.bl (if neg then !inV x xs else inV x xs)) H
theorem qer:OpR X (compareOp .In) (rIn X.K false):=by
  intro pins s σ H x y v u Q I rx ry h;obtain ⟨p,xs,rfl,hq,fx,fs,q⟩:=h;cases ry
  rcases hq with hq | hq
  · obtain ⟨its,r,pl,hz⟩:=I.list hq
    refine SeqAt.in_listAt (eqU x) pl.isList (fun w hw=>qzf rx fx r fs w (by simpa using hw)) ⟨.bl _,H,I,rfl,?_⟩;rw [show its.toArray.any (eqU x)=its.any (eqU x) by simp,qjl r fs];exact q
  · obtain ⟨its,r,pl,hz⟩:=I.tuple hq
    refine SeqAt.in_tupleAt (eqU x) pl (fun w hw=>qzf rx fx r fs w (by simpa using hw)) ⟨.bl _,H,I,rfl,?_⟩;rw [show its.toArray.any (eqU x)=its.any (eqU x) by simp,qjl r fs];exact q
theorem qwi:qn6 X (.builtin "len") (fun xs H Q=>∃ p ys,xs=[.ref p]∧(SqL X.K H p ys∨SqT X.K H p ys)∧Q (.int ys.length) H):=by
  intro pins s σ H xs us Q I r h;obtain ⟨p,ys,rfl,hq,q⟩:=h;obtain ⟨u,rfl,rx⟩:=qyo r;cases rx;have hn:=qhi
  rcases hq with hq | hq
  · obtain ⟨its,r',pl,hz⟩:=I.list hq
    have hlen:=r'.length;exact Calls.call_len_list pl.isList (by simp only [List.size_toArray] <;> omega) ⟨.int ys.length,H,I.tok _,⟨s.toks+1,by rw [List.size_toArray,hlen]⟩,q⟩
  · obtain ⟨its,r',pl,hz⟩:=I.tuple hq
    have hlen:=r'.length;exact len_tuple pl (by simp only [List.size_toArray] <;> omega) ⟨.int ys.length,H,I.tok _,⟨s.toks+1,by rw [List.size_toArray,hlen]⟩,q⟩
theorem qvi:qn6 X (.type "list") (fun xs H Q=>∃ p ys,xs=[.ref p]∧(SqL X.K H p ys∨SqT X.K H p ys)∧∀ l,H l=none→Q (.ref l) (upd H l (.lst ys))):=by
  intro pins s σ H xs us Q I r h;obtain ⟨p,ys,rfl,hq,q⟩:=h;obtain ⟨u,rfl,rx⟩:=qyo r;cases rx;have fin:∀ (its:List Value),Vals ys its→ys.length≤sizeLine→∀ (h':Heap) (c':Nat),(∀ b o',s.heap.get? b=some o'→h'.get? b=some o') →
      h'.get? s.heap.objs.size=some { cls:=.type "list",dict:=none,data:=.seq its.toArray c',slots:=#[] }→EP X pins σ Q (.ref s.heap.objs.size) { s with heap:=h' }:=fun its r' hz h' c' kp e =>
    ⟨.ref s.heap.objs.size,_,I.laid (t':=s.toks) kp (Nat.le_refl _) (show ObjOk X.prog X.w _ h' _ (.lst ys) from ⟨hz,its,c',r',e⟩),rfl,q _ (I.hok.fresh (Nat.le_refl _))⟩
  rcases hq with hq | hq
  · obtain ⟨its,r',pl,hz⟩:=I.list hq
    have hlen:=r'.length;obtain ⟨o,ho,hc,n,hd⟩:=pl.isList;exact call_list_seq p (.inl rfl) ho hc hd (fun h' c' kp e=>fin its r' hz h' c' kp e) (by simp only [List.size_toArray] <;> omega)
  · obtain ⟨its,r',pl,hz⟩:=I.tuple hq
    have hlen:=r'.length;obtain ⟨o,ho,hc,n,hd⟩:=pl;exact call_list_seq p (.inr rfl) ho hc hd (fun h' c' kp e=>fin its r' hz h' c' kp e) (by simp only [List.size_toArray] <;> omega)
theorem qmg:qn6 X (.type "tuple") (fun xs H Q=>∃ p ys,xs=[.ref p]∧((SqL X.K H p ys∧∀ l,H l=none→Q (.ref l) (upd H l (.tup ys)))∨(SqT X.K H p ys∧Q (.ref p) H))):=by
  intro pins s σ H xs us Q I r h;obtain ⟨p,ys,rfl,h⟩:=h;obtain ⟨u,rfl,rx⟩:=qyo r;cases rx
  rcases h with ⟨hq,q⟩ | ⟨hq,q⟩
  · obtain ⟨its,r',pl,hz⟩:=I.list hq
    have hlen:=r'.length;refine call_tuple_list pl.isList (fun h' kp=>?_) (by simp only [List.size_toArray] <;> omega);have I1:Inv X pins σ H { s with heap:=h' }:=I.kept (t':=s.toks) kp;have I2:Inv X pins σ (upd H h'.objs.size (.tup ys)) { s with heap:=h'.push { cls:=.type "tuple",data:=.seq its.toArray } } :=
      I1.laid (t':=s.toks) (fun b o e=>Heap.get?_push_of_some _ e) (Nat.le_refl _) (show ObjOk X.prog X.w _ _ _ (.tup ys) from ⟨hz,its,r',IsTup.new _ _⟩)
    exact ⟨.ref h'.objs.size,_,I2,rfl,q _ (I1.hok.fresh (Nat.le_refl _))⟩
  · obtain ⟨its,r',pl,hz⟩:=I.tuple hq
    exact call_tuple_same pl ⟨.ref p,H,I,rfl,q⟩
def tyV (K:W.Frag)(T:String)(x:V)(H:Hp):Prop:=match x with
  | .str _=>T="str"
  | .int _=>T="int"
  | .ref p=>(T="list"∧∃ xs,SqL K H p xs)∨(T="tuple"∧∃ o,K.lookup p=some o∧o.cls=.type "tuple"∧o.dict=none) ∨
      (T="dict"∧((∃ kvs,H p=some (.dK kvs))∨∃ kvs,H p=some (.dT kvs)))∨(T="set"∧∃ S n,H p=some (.set S n))
  | _=>False
theorem tyV_is {T:String}(I:Inv X pins σ H s)(r:RelV x v)(ty:tyV X.K T x H) :
    s.TypeIs v T∧∀ a,v=.ref a→∃ ob,s.heap.get? a=some ob∧ob.dict=none:=by
  cases x with
  | str z =>
    obtain ⟨t,rfl⟩:=r;cases (show T="str" from ty);exact ⟨typeIs_str s z t,fun _ e=>nomatch e⟩
  | int i =>
    obtain ⟨t,rfl⟩:=r;cases (show T="int" from ty);exact ⟨typeIs_int s i t,fun _ e=>nomatch e⟩
  | ref p =>
    cases r
    rcases ty with ⟨rfl,xs,hq⟩ | ⟨rfl,o,hk,hc,hd⟩ | ⟨rfl,hk⟩ | ⟨rfl,S,n,hk⟩
    · obtain ⟨its,_,pl,_⟩:=I.list hq
      refine ⟨pl.isList.typeIs,fun a e=>?_⟩;cases e;obtain ⟨o,n,e,c,hd,_⟩:=pl;exact ⟨o,e,hd⟩
    · refine ⟨⟨o,I.kIn p o hk,hc⟩,fun a e=>?_⟩
      cases e;exact ⟨o,I.kIn _ o hk,hd⟩
    · have z:∃ o,s.heap.get? p=some o∧o.ExactDict:=by
        rcases hk with ⟨kvs,hk⟩ | ⟨kvs,hk⟩
        · obtain ⟨_,_,_,_,o,_,_,e,ex,_⟩:=I.hok p _ hk
          exact ⟨o,e,ex⟩
        · obtain ⟨_,_,_,_,o,_,_,e,ex,_⟩:=I.hok p _ hk
          exact ⟨o,e,ex⟩
      obtain ⟨o,e,ex⟩:=z;refine ⟨⟨o,e,ex.1⟩,fun a e2=>?_⟩;cases e2;exact ⟨o,e,ex.2.1⟩
    · obtain ⟨o,_,_,_,e,ex,_⟩:=I.hok p _ hk
      refine ⟨⟨o,e,ex.1⟩,fun a e2=>?_⟩;cases e2;exact ⟨o,e,ex.2.1⟩
  | _=>exact False.elim ty
def tBM0 (K:W.Frag)(T:String)(r:V→List V→Hp→VK→Prop)(to:TE):TE:=fun σ H Q=>to σ H fun x H1=>tyV K T x H1∧r x [] H1 Q
def tBM (K:W.Frag)(T:String)(r:V→List V→Hp→VK→Prop)(to:TE)(t:TA):TE:=fun σ H Q=>to σ H fun x H1=>tyV K T x H1∧t σ H1 fun xs H2=>r x xs H2 Q
variable {o e:Expr}{es:List Expr}{to:TE}{t:TA}{name:Str}{apos cpos:Pos}{T id:String}{r:V→List V→Hp→VK→Prop}
theorem pe_bm0 (pa:PlainAttrs T)(slot:Slot T name id)(hty:typeOf (.builtin id)=pure (.type "method_descriptor"))(hm:MtR X id r)(ho:PE X o to)
    (hbase:attributeBase o name X.env (eval o X.env)=eval o X.env:=by rfl) (hline:(apos.endLine == cpos.line)=true:=by rfl):PE X (.Call (.Attribute o name apos) [] [] cpos) (tBM0 X.K T r to):=by
  intro pins s σ H Q I h;refine wpAny_Call_method0_late hbase hline (thn (ho pins s σ H _ I h) fun v s1 ⟨x,H1,I1,r1,ty,q1⟩=>?_);obtain ⟨h1,h2⟩:=tyV_is I1 r1 ty;exact ⟨T,id,pa,slot,hty,h1,h2,Calls.callWith_builtin rfl (PySem.evalArgs_none (hm pins s1 σ H1 x [] v [] Q I1 r1 .nil q1))⟩
theorem qp8 (pa:PlainAttrs T)(slot:Slot T name id)(hty:typeOf (.builtin id)=pure (.type "method_descriptor"))(hm:MtR X id r)(ho:PE X o to)(ha:PA X (e::es) t)
    (hbase:attributeBase o name X.env (eval o X.env)=eval o X.env:=by rfl)
    (hfew:((backTo cpos (starEach (e::es) X.env)).all (fun x=>!x.1) && (backToKw cpos (keywordEach [] X.env)).all (fun x=>x.1.isSome)
      && decide ((e::es).length+([]:List Keyword).length+(if ([]:List Keyword).isEmpty then 0 else 1)<30))=true:=by rfl)
    (hline:(apos.endLine == cpos.line)=true:=by rfl) (hs:starEach (e::es) X.env=(false,eval e X.env)::starEach es X.env:=by rfl) (hplain:(backTo cpos (starEach es X.env)).any (·.1)=false:=by rfl) :
    PE X (.Call (.Attribute o name apos) (e::es) [] cpos) (tBM X.K T r to t):=by
  intro pins s σ H Q I h;refine wpAny_Call_method_late hbase hfew hline rfl (thn (ho pins s σ H _ I h) fun v s1 ⟨x,H1,I1,r1,ty,q1⟩=>?_);obtain ⟨h1,h2⟩:=tyV_is I1 r1 ty;refine ⟨T,id,pa,slot,hty,h1,h2,?_⟩;have hA:=ha cpos pins s1 σ H1 _ I1 q1;rw [hs] at hA ⊢;refine Calls.callWith_builtin (by show (false || (backTo cpos (starEach es X.env)).any (·.1))=false; rw [hplain] <;> rfl) (Calls.evalArgs_plain ?_);exact thn hA fun us s2 ⟨vs,H2,I2,r2,q2⟩=>hm pins s2 σ H2 x vs v us Q I2 r1 r2 q2
end
end L2
namespace L2
open PySem PySem.Spec PyProof.Rows
variable {its us:List Value}{α:Type}
def MtM (X:Cx)(id:String)(r:V→List V→Hp→VK→Prop):Prop :=
  ∀ (pins:List (Addr×Obj)) (s:Shared) (σ:St) (H:Hp) (x:V) (xs:List V) (v:Value) (us:List Value) (Q:VK),Inv X pins σ H s→RelV x v→Vals xs us→r x xs H Q →
    wpAny (model X.prog X.w) X.A (call (.builtin id) (v::us)) (EP X pins σ Q) X.xe s
theorem Vals.one:∀ {x:V} {us:List Value},Vals [x] us→∃ u,us=[u]∧RelV x u
  | _,_,.cons r .nil=>⟨_,rfl,r⟩
theorem Vals.two:∀ {x y:V} {us:List Value},Vals [x,y] us→∃ u v,us=[u,v]∧RelV x u∧RelV y v
  | _,_,_,.cons r (.cons q .nil)=>⟨_,_,rfl,r,q⟩
theorem Vals.zero:∀ {us:List Value},Vals [] us→us=[]
  | _,.nil=>rfl
theorem Vals.dropLast {xs:List V}(h:Vals xs us):Vals xs.dropLast us.dropLast:=by
  induction h with
  | nil=>exact .nil
  | cons r t ih =>
    cases t with
    | nil=>exact .nil
    | cons q t'=>exact .cons r ih
theorem Vals.rep {xs:List V}(h:Vals xs us):∀ k:Nat,Vals (List.replicate k xs).flatten (List.replicate k us).flatten
  | 0=>.nil
  | k+1=>by
    rw [List.replicate_succ,List.replicate_succ,List.flatten_cons,List.flatten_cons];exact Vals.append h (Vals.rep h k)
theorem qko (l:List α):l.eraseIdx (l.length - 1)=l.dropLast:=by
  induction l with
  | nil=>rfl
  | cons a r ih =>
    cases r with
    | nil=>rfl
    | cons b r =>
      have e:(a::b::r).length - 1=((b::r).length - 1)+1:=by
        have h1:(a::b::r).length=r.length+2:=rfl;have h2:(b::r).length=r.length+1:=rfl;omega
      rw [e,List.eraseIdx_cons_succ,ih]
      all_goals rfl
theorem qpi (its:List Value):∀ (k:Nat) (acc:List Value),
    List.foldl (fun x1 x2=>x1++x2) acc.toArray (List.replicate k its.toArray)=(acc++(List.replicate k its).flatten).toArray
  | 0,acc=>by simp
  | k+1,acc=>by
    have e:acc.toArray++its.toArray=(acc++its).toArray:=by simp
    have e2:(acc++its)++(List.replicate k its).flatten=acc++(List.replicate (k+1) its).flatten:=by
      rw [List.replicate_succ,List.flatten_cons,List.append_assoc]
    rw [← e2,← qpi its k (acc++its),← e,List.replicate_succ,List.foldl_cons]
section
variable {X:Cx}{pins:List (Addr×Obj)}{σ:St}{H:Hp}{s:Shared}{l b:Addr}{xs ys zs:List V}
theorem Inv.lset {its its':List Value}{n:Nat}{f:Array Value→Array Value}{t':Nat}(I:Inv X pins σ H s)(hH:H l=some (.lst xs))
    (e:s.heap.get? l=some { cls:=.type "list",data:=.seq its.toArray n }) (hf:f its.toArray=its'.toArray) (hv:Vals ys its') (hz:ys.length≤sizeLine) :
    Inv X pins σ (upd H l (.lst ys)) { s with heap:=s.heap.update l (Obj.mapSeq f),toks:=t' }:=by
  have q:=PySem.IsL.update e f;rw [hf] at q;refine I.write (x:=l) (e:=l) (by rw [hH]; exact trivial) (.inl rfl) (fun b' u hb hu=>(Heap.get?_update_other s.heap (Obj.mapSeq f) (Ne.symm hb)).trans hu) ⟨_,q⟩ ?_;exact ⟨hz,its',_,hv,q⟩
theorem Inv.lnew {t':Nat}(I:Inv X pins σ H s)(hv:Vals ys its)(hz:ys.length≤sizeLine) :
    Inv X pins σ (upd H s.heap.objs.size (.lst ys)) { s with heap:=s.heap.push { cls:=.type "list",data:=.seq its.toArray },toks:=t' } :=
  I.laid (fun _ _ q=>Heap.get?_push_of_some _ q) (Nat.le_refl _) ⟨hz,its,0,hv,Heap.get?_push_size _ rfl⟩
theorem Inv.fresh (I:Inv X pins σ H s):H s.heap.objs.size=none:=I.hok.fresh (Nat.le_refl _)
theorem Inv.lstM (I:Inv X pins σ H s)(hH:H l=some (.lst xs)):xs.length≤sizeLine∧∃ (its:List Value) (n:Nat),Vals xs its∧xs.length=its.length∧s.heap.get? l=some { cls:=.type "list",data:=.seq its.toArray n }:=by
  obtain ⟨z,its,n,r,e⟩:=I.hok l _ hH;exact ⟨z,its,n,r,r.length,e⟩
theorem qzv {n:Nat}(h:n≤sizeLine):Builtin.List.listTooLong n=false:=by
  unfold Builtin.List.listTooLong;exact decide_eq_false (by omega)
end
section
variable {X:Cx}
def qek:V→List V→Hp→VK→Prop:=fun x vs H Q=>∃ l xs y,x=.ref l∧vs=[y]∧H l=some (.lst xs)∧xs.length<sizeLine∧Q .non (upd H l (.lst (xs++[y])))
theorem qr1:MtM X "list.append" qek:=by
  intro pins s σ H x vs v us Q I rx rv h;obtain ⟨l,xs,y,rfl,rfl,hH,hz,q⟩:=h;cases rx;obtain ⟨u,rfl,ru⟩:=rv.one;obtain ⟨z,its,n,r,hl,e⟩:=I.lstM hH;refine call_meets F.slot_list_append ⟨_,e,rfl⟩ F.entry_list_append (F.args_list_append_2 _ _) (PySem.list_append l its.toArray n u (by rw [List.size_toArray]; omega)) ⟨e,?_⟩;refine ⟨.non,_,I.lset (its':=its++[u]) hH e (by simp) (r.append (.cons ru .nil)) ?_,rfl,q⟩;rw [List.length_append,List.length_singleton];omega
def rPop:V→List V→Hp→VK→Prop:=fun x vs H Q=>∃ l xs y,x=.ref l∧vs=[]∧H l=some (.lst xs)∧xs[xs.length - 1]?=some y∧Q y (upd H l (.lst xs.dropLast))
theorem mt_pop:MtM X "list.pop" rPop:=by
  intro pins s σ H x vs v us Q I rx rv h;obtain ⟨l,xs,y,rfl,rfl,hH,hy,q⟩:=h;cases rx;have hus:=rv.zero;subst hus;obtain ⟨z,its,n,r,hl,e⟩:=I.lstM hH;obtain ⟨u,hu,ru⟩:=r.get hy
  have hy':its.toArray[its.toArray.size - 1]?=some u:=by
    show its.toArray[its.length - 1]?=some u;rw [← Array.getElem?_toList,← hl];exact hu
  refine call_meets F.slot_list_pop ⟨_,e,rfl⟩ F.entry_list_pop (F.args_list_pop_1 _) (MeetsSeq.list_pop_last l its.toArray n u hy' (by rw [List.size_toArray]; omega)) ⟨e,?_⟩;refine ⟨y,_,I.lset (its':=its.dropLast) hH e ?_ r.dropLast ?_,ru,q⟩
  · show its.toArray.eraseIdxIfInBounds (its.toArray.size - 1)=its.dropLast.toArray
    rw [List.size_toArray,List.eraseIdxIfInBounds_toArray,qko]
  · rw [List.length_dropLast]
    omega
def rRep:R2:=fun x y H Q=>∃ l k xs,x=.ref l∧y=.int k∧H l=some (.lst xs)∧-(2 ^ 63)≤k∧k<2 ^ 63∧xs.length * k.toNat≤sizeLine ∧
  ∀ p,H p=none→Q (.ref p) (upd H p (.lst (List.replicate k.toNat xs).flatten))
theorem len_rep (xs:List α)(k:Nat):(List.replicate k xs).flatten.length=k * xs.length:=by
  induction k with
  | zero=>simp
  | succ k ih=>rw [List.replicate_succ,List.flatten_cons,List.length_append,ih,Nat.succ_mul,Nat.add_comm]
theorem op_rep:OpR X (binaryOp .Mult) rRep:=by
  intro pins s σ H x y v u Q I rx ry h;obtain ⟨l,k,xs,rfl,rfl,hH,h1,h2,hz,q⟩:=h;cases rx;obtain ⟨t,rfl⟩:=ry;obtain ⟨z,its,n,r,hl,e⟩:=I.lstM hH
  have hlen:its.toArray.size * k.toNat≤sizeLine:=by rw [List.size_toArray,← hl]; exact hz
  have hcap:¬ its.toArray.size * k.toNat > (2 ^ 63 - 1) / 8:=by
    have:(sizeLine:Nat)≤(2 ^ 63 - 1) / 8:=by decide
    omega
  have hfit:¬ (!Builtin.List.listFitsIndex k)=true:=by
    rw [fitsIndex_both h1 h2];exact Bool.false_ne_true
  have hlong:¬ Builtin.List.listTooLong (its.toArray.size * k.toNat)=true:=by
    rw [qzv hlen];exact Bool.false_ne_true
  have hnew:List.foldl (fun x1 x2=>x1++x2) #[] (List.replicate (if its.toArray.isEmpty=true then 0 else k.toNat) its.toArray)=(List.replicate k.toNat its).flatten.toArray:=by
    have f0:∀ m:Nat,List.foldl (fun x1 x2=>x1++x2) #[] (List.replicate m its.toArray)=(List.replicate m its).flatten.toArray:=fun m=>by
      have:=qpi its m [];rw [List.nil_append] at this;exact this
    rw [f0]
    cases its with
    | nil=>simp
    | cons a r'=>rw [if_neg (by simp)]
  refine wpAny_binaryOp_repeat_ref (T:="list") (U:="int") (by decide) ⟨_,e,rfl⟩ (fun s'=>typeIs_int s' k t) noFill_list_mul F.fills_int_mul F.slot_int_rmul repeat_list F.slot_int_index.lookup
    (call_meets F.slot_int_rmul (typeIs_int s k t) F.entry_int_rmul (F.args_int_rmul_2 _ _) (int___rmul___int_list k t l its.toArray n)
      ⟨e,rfl,⟨_,e,rfl⟩,call_meets F.slot_list_mul ⟨_,e,rfl⟩ F.entry_list_mul (F.args_list_mul_2 _ _) (AutoListH.list___mul___list_int_3 l its.toArray n k t hfit hcap hlong) ⟨e,?_⟩⟩)
  rw [hnew];exact ⟨.ref _,_,I.lnew (t':=s.toks) (r.rep k.toNat) (by rw [len_rep,Nat.mul_comm]; exact hz),rfl,q _ I.fresh⟩
end
section
variable {prog:Program}{w:World}{A:Around}{E:Value→Shared→Prop}{s:Shared}
set_option maxRecDepth 100000 in
end
section
variable {X:Cx}
end
end L2
namespace Att
open PySem PySem.W PySem.Calls PyProof.Rows
theorem qxc {P:Params}{h:Heap}:∀ (ns:List Int) (vs:List Value),WellAll P h vs (ns.map WData.int)→IntsAre vs ns:=by
  intro ns
  induction ns with
  | nil =>
    intro vs w;rw [List.map_nil] at w;cases w;exact .nil
  | cons n ns ih =>
    intro vs w;rw [List.map_cons] at w
    cases w with
    | cons a b =>
      cases a;exact .cons _ _ (ih _ b)
theorem qaq {l:OpenLaw}{n:Nat}(hn:l.most=some n){P:Params}{h:Heap}{args:List WData}{vals:List Value}
    (hpre:l.row.toRowW.claim.pre args=true) (hwl:WellAll P h vals args) :
    ∃ a vs ns,vals=[Value.ref a]∧args=[WData.list (ns.map WData.int)]∧h.get? a=some { cls:=.type "list",data:=.seq vs.toArray }∧IntsAre vs ns∧ns.length≤n:=by
  have hsh:WShape.hasAll [] args [.list .int]=true:=(pre_splitW hpre).1;have hc:l.pre.holds [] { args:=args }=true:=(pre_splitW hpre).2;obtain ⟨d,r,rfl,h1,h2⟩:=hasAllW_cons hsh;obtain rfl:=hasAllW_nil h2;obtain ⟨xs,rfl,h3⟩:=hasW_list h1;obtain ⟨ns,rfl⟩:=items_int h3
  have hlen:ns.length≤n:=by
    unfold OpenLaw.pre at hc
    have h4:(WTm.not (.lt (.lit (.int (n:Int))) (.len (.arg 0)))).holds [] { args:=[.list (ns.map .int)] }=true:=by
      have h4:=(holds_andW hc).1;rw [hn] at h4;exact h4
    have h5:=condW_of h4 (w_not (w_lt w_lit (w_len_list (w_arg rfl))));rw [List.length_map] at h5;refine Nat.le_of_not_lt fun q=>?_
    have q':(n:Int)<((ns.length:Nat):Int):=by omega
    first
      | (rw [decide_eq_true q'] at h5; exact absurd h5 (by decide))
      | (simp at h5; omega)
  cases hwl with
  | cons w1 w2 =>
    cases w2
    cases w1 with
    | list ho hall=>exact ⟨_,_,ns,rfl,rfl,ho,qxc ns _ hall,hlen⟩
theorem qoq (l:OpenLaw)(args:List WData):l.row.toRowW.claim.post args (.bool true) args=true :=
  postW_of (r:=l.row.toRowW) (X:=(true == true))
    (show WShape.has [] (.bool true) .bool=true by first | rfl | decide | simp [WShape.has,WShape.arms,WShape.armsAll])
    (show (WTm.eq .res (.lit (.bool true))).value [] { args:=args,res:=some (.bool true),after:=args }=some (.bool (true == true)) from w_eq_bool (w_res rfl) w_lit) rfl
theorem attach_call {l:OpenLaw}{n:Nat}{q:Program}{loose:List Str}{XP:(Str→Option Value)→Heap→Prop}{YP:World→Heap→Prop}{d:DefRec}
    (hn:l.most=some n) (hdf:d.params.defaults=[])
    (call:∀ (w:World) (s₀ s₁:Shared) (mg mb:Str→Option Value) (fa:Addr) (o:Obj) (pm cd doc:Value) (a:Addr) (vs:List Value) (ns:List Int),
      Ground q loose [] XP w s₀ mg mb s₁.heap→YP w s₁.heap →
      s₁.heap.get? fa=some o→o.data=.func (docDef d.name d.params d.body d.scope pm cd doc)→s₁.heap.CodeRec cd d.name→mg d.name=some (.ref fa) →
      s₁.heap.get? a=some { cls:=.type "list",data:=.seq vs.toArray }→IntsAre vs ns→ns.length≤n→s₁.gens=#[] →
      codeAny (model l.prog w) callerA (.call (.ref fa) ⟨[.ref a],[]⟩) (fun r s'=>r=.ok (.ret (.bool true))∧OldK s₁.heap s'.heap∧s'.os=s₁.os∧AllBare s'.gens) s₁) :
    WalkO q loose XP YP l.row.toRowW d [] (fun f vs=>PySem.call f vs):=by
  intro w s₀ s₁ mg mb G Y fa o pm cd doc dV kV ho hd hcd hD hmg hg args vals as hpre hlay hrd hwl hlo;obtain rfl:dV=.none:=Dflts.none hD hdf;obtain rfl:kV=.none:=Dflts.noKw hD;obtain ⟨a,vs,ns,rfl,rfl,hobj,hints,hlen⟩:=qaq hn hpre hwl;refine enter_call (codeAny_mono (call w s₀ s₁ mg mb fa o pm cd doc a vs ns G Y ho (fd_plain hd) hcd hmg hobj hints hlen hg) fun r s' hq=>?_);obtain ⟨rfl,h2,h3,h4⟩:=hq;exact ⟨.inl ⟨.bool true,.bool true,[],rfl,fun _=>rfl,.bool true,qoq l _,fun _=>⟨List.Pairwise.nil,fun _ hm=>(nomatch hm)⟩⟩,h2,h3,h4⟩
section
variable {prog:Program}{w:World}{A:Around}{E:Value→Shared→Prop}{s:Shared}{K:Frag}
end
end Att
namespace L2
open PySem PySem.Spec PyProof.Rows
theorem qqg:∀ {vs:List Value} {ns:List Int},IntsAre vs ns→Vals (ns.map V.int) vs
  | _,_,.nil=>.nil
  | _,_,.cons n t h=>.cons ⟨t,rfl⟩ (qqg h)
def Only (H:Hp):Prop:=∀ b,H b=none∨∃ o xs,H b=some (.frz o (.lst xs))
theorem law_call {P:Program}{w:World}{K:W.Frag}{mg mb:Str→Option Value}{CX:CXT}{k:Nat}{fa a:Addr}{fd:FuncData}{x:Str}{sp:Sp}{s₁:Shared}{vs:List Value}{ns:List Int}
    (KX:K.In s₁.heap) (hns:s₁.heap.Ns mainGlobals mg) (hb:s₁.heap.Ns builtinsNs mb) (hbb:∀ x:Str,x≠"__name__"→mb x=bootBuiltins x) (hlim:s₁.heap.NoLimit) (hg:s₁.gens=#[])
    (ha:s₁.heap.get? a=some { cls:=.type "list",data:=.seq vs.toArray }) (hi:IntsAre vs ns) (hl:ns.length≤sizeLine) (hr:Room k callerA)
    (F:∀ base:Heap,K.In base→base.Ns mainGlobals mg→FnOk P w K mg base CX k fa fd [x] sp) (hbind:∀ (s:Shared) (u:Value),BindsTo s fd ⟨[u],[]⟩ [(x,u)])
    (hsp:∀ H:Hp,Only H→SqL K H a (ns.map V.int)→sp [.ref a] H (fun v _=>v=.bl true) fun _ _ _=>False)
    (hCX:∀ H e s',CX [] H s₁ (fun _ _ _=>False) e s'→False) :
    codeAny (model P w) callerA (.call (.ref fa) ⟨[.ref a],[]⟩) (fun r s'=>r=.ok (.ret (.bool true))∧OldK s₁.heap s'.heap∧s'.os=s₁.os∧AllBare s'.gens) s₁:=by
  have rv:=qqg hi;have lenV:=hi.length
  -- from an abstract heap in which nothing but the script may be tracked
  have core:∀ H:Hp,Only H→SqL K H a (ns.map V.int)→HOk P w H s₁.heap→(∀ b,H b≠none→b=a)→(H a≠none→K.lookup a=none) →
      codeAny (model P w) callerA (.call (.ref fa) ⟨[.ref a],[]⟩) (fun r s'=>r=.ok (.ret (.bool true))∧OldK s₁.heap s'.heap∧s'.os=s₁.os∧AllBare s'.gens) s₁:=by
    intro H hO hS hok hA hK;have base_of:∀ {b:Addr} {o:Obj},s₁.heap.get? b=some o→H b=none→(hidT s₁.heap H).get? b=some o:=fun e n=>qkw e n
    have noA:∀ {b:Addr} {o:Obj} {es:Array DictEntry} {ep:Nat},s₁.heap.get? b=some o→o.data=.dict es ep→H b=none:=fun {b o es ep} e d=>by
      cases q:H b with
      | none=>rfl
      | some u =>
        have e':b=a:=hA b (by rw [q]; simp);subst e';rw [ha] at e; cases e;have d':Data.seq vs.toArray _=Data.dict es ep:=d;cases d'
    have nsK:∀ {b:Addr} {m:Str→Option Value},s₁.heap.Ns b m→(hidT s₁.heap H).Ns b m:=fun {b m} ⟨o,es,ep,e,d,r⟩=>⟨o,es,ep,base_of e (noA e d),d,r⟩
    have hKb:K.In (hidT s₁.heap H):=fun b o e=>base_of (KX b o e) (by
      cases q:H b with
      | none=>rfl
      | some u =>
        have e':b=a:=hA b (by rw [q]; simp);subst e'
        rw [hK (by rw [q]; simp)] at e; cases e)
    have hM:Mod K mg (hidT s₁.heap H):=⟨hKb,nsK hns,⟨mb,nsK hb,hbb⟩,let ⟨mc,h1,h2⟩:=hlim; ⟨mc,nsK h1,h2⟩⟩;have e0:Env0 P w K mg (hidT s₁.heap H) callerA [] s₁ H:=⟨rfl,hM,fun b o e=>of_hidT e,Nat.le_of_eq (qms _ _),trivial,fun b hb=>absurd (show b∈([]:List Addr) from hb) (by simp),hok,.of_eq hg⟩;refine codeAny_mono ((F _ hKb (nsK hns)).run callerA [] s₁ H ⟨[.ref a],[]⟩ [.ref a] [.ref a] _ _ hr e0 (hbind s₁ (.ref a)) (.cons rfl .nil) (hsp H hO hS)) fun r s' h=>?_
    cases r with
    | error e=>exact (hCX H e s' h).elim
    | ok fl =>
      cases fl with
      | next=>exact False.elim h
      | brk=>exact False.elim h
      | cont=>exact False.elim h
      | ret u =>
        obtain ⟨v,H',os,bare,un,hok',r',q⟩:=h;have q':v=.bl true:=q;subst q';obtain rfl:u=Value.bool true:=r';refine ⟨rfl,OldK.of_keep fun b o e=>?_,os,bare⟩
        cases q:H b with
        | none=>exact un.keep b o e q (by intro z; exact absurd (show b∈([]:List Addr) from z) (by simp)) (by simp)
        | some u =>
          rcases hO b with z | ⟨ob,xs,z⟩
          · rw [q] at z; cases z
          · have z2:=un.frzs b ob _ z
            obtain ⟨e1,_⟩:=hok b _ z;obtain ⟨e2,_⟩:=hok' b _ z2;rw [e] at e1; cases e1;exact e2
  cases hk:K.lookup a with
  | some o =>
    -- the script is one of the module's own objects
    have e:=KX a o hk;rw [ha] at e;cases e;refine core (fun _=>none) (fun _=>.inl rfl) (.inr ⟨_,vs.toArray,_,hk,rfl,rfl,rfl,by rw [List.size_toArray,lenV]; exact hl,by simpa using rv⟩) (fun b u z=>by have z':(none:Option HO)=some u:=z; cases z') (fun b z=>absurd rfl z) fun z=>absurd rfl z
  | none =>
    refine core (fun b=>if b=a then some (.frz { cls:=.type "list",data:=.seq vs.toArray } (.lst (ns.map V.int))) else none) (fun b=>?_) (.inl (.inr ⟨{ cls:=.type "list",data:=.seq vs.toArray },if_pos rfl⟩)) (fun b u z=>?_) (fun b z=>?_) fun _=>hk
    · by_cases hb:b=a
      · exact .inr ⟨_,_,if_pos hb⟩
      · exact .inl (if_neg hb)
    · by_cases hb:b=a
      · have z':=(if_pos hb).symm.trans z
        cases z';subst hb;exact ⟨ha,by rw [List.length_map]; exact hl,vs,_,rv,ha⟩
      · have z':=(if_neg hb).symm.trans z
        cases z'
    · by_cases hb:b=a
      · exact hb
      · exact absurd (if_neg hb) z
end L2
namespace L2
open PySem PySem.Spec PyProof.Rows
theorem walk_of {l:W.OpenLaw}{n k:Nat}{q:Program}{loose:List Str}{XP:(Str→Option Value)→Heap→Prop}{YP:World→Heap→Prop}{d:DefRec}{K:Params→W.Frag}{CX:World→CXT}{sp:World→Sp}{x:Str}
    (hn:l.most=some n) (hn2:n≤sizeLine) (hdf:d.params.defaults=[]) (hr:Room k callerA)
    (hY:∀ (w:World) (h:Heap),YP w h→(K w.params).In h)
    (F:∀ (w:World) (mg:Str→Option Value) (fa:Addr) (h:Heap),(K w.params).In h→h.Ns mainGlobals mg→mg d.name=some (.ref fa) →
      ∃ fd:FuncData,(∀ (s:Shared) (u:Value),BindsTo s fd ⟨[u],[]⟩ [(x,u)]) ∧
        ∀ base:Heap,(K w.params).In base→base.Ns mainGlobals mg→FnOk l.prog w (K w.params) mg base (CX w) k fa fd [x] (sp w))
    (hsp:∀ (w:World) (H:Hp) (a:Addr) (ns:List Int),ns.length≤n→Only H→SqL (K w.params) H a (ns.map V.int)→sp w [.ref a] H (fun v _=>v=.bl true) fun _ _ _=>False)
    (hCX:∀ (w:World) (H:Hp) (s:Shared) (e:Value) (s':Shared),CX w [] H s (fun _ _ _=>False) e s'→False) :
    PySem.W.WalkO q loose XP YP l.row.toRowW d [] (fun f vs=>PySem.call f vs):=by
  refine Att.attach_call hn hdf fun w s₀ s₁ mg mb fa o pm cd doc a vs ns G Y ho hd hcd hmg hobj hints hlen hg=>?_;have KX:=hY w _ Y;obtain ⟨fd,hb,hF⟩:=F w mg fa _ KX G.T.g hmg;exact law_call KX G.T.g G.T.b G.T.builtins G.T.nolimit hg hobj hints (Nat.le_trans hlen hn2) hr hF hb (fun H hO hS=>hsp w H a ns hlen hO hS) fun H e s'=>hCX w H s₁ e s'
end L2
namespace L2
open PySem PySem.Spec PyProof.Rows
variable {H:Hp}
def qj2 (s:Stmt)(j:Nat):Stmt:=match s with
  | .ClassDef _ _ _ body _ _ _ _ _ _ _=>body.getD j (.Pass ⟨0,0,0,0⟩)
  | _=>.Pass ⟨0,0,0,0⟩
def qo4 (s:Stmt):Arguments:=match s with
  | .FunctionDef _ a _ _ _ _ _ _ _ _=>a
  | _=>{ posonlyargs:=[],args:=[],vararg:=none,kwonlyargs:=[],kw_defaults:=[],kwarg:=none,defaults:=[] }
def qw3 (s:Stmt):List Stmt:=match s with
  | .FunctionDef _ _ b _ _ _ _ _ _ _=>b
  | _=>[]
def qh (s:Stmt):Scope:=match s with
  | .FunctionDef _ _ _ _ _ _ sc _ _ _=>sc
  | _=>{ kind:=.function,names:=[],isGenerator:=false,isCoroutine:=false }
abbrev CX0:CXT:=fun _ _ _ _ _ _=>False
abbrev E0:XK:=fun _ _ _=>False
theorem qnn {X:Cx}:qoe CX0 X E0:=fun _ _ _ _ _ _ _ h=>h.elim
structure Fun (K:W.Frag)(x qual:Str)(st:Stmt)(f:Addr)(fd:FuncData):Prop where
  ex:∃ (oc:Value) (od:Option Addr) (kV doc pm:Value) (an:Option Addr) (cdv ct:Value) (osl:Array (Option Value)),
    fd=PySem.W.fnOf x qual (qo4 st) (qw3 st) (qh st) .none kV doc pm an cdv ct∧K.lookup f=some ⟨oc,od,.func fd,osl⟩∧PySem.W.codeIn K cdv qual=true
  kp:PySem.W.keepIn K (.ref f)=true
section
variable {P:Program}{w:World}{K:W.Frag}{mg:Str→Option Value}{base:Heap}
theorem Fun.ok {x qual:Str}{st:Stmt}{f:Addr}{fd:FuncData}{N ps:List Str}{k:Nat}{sp:Sp}(F:Fun K x qual st f fd)(S:qo N ps (qh st))(len:∀ vs H Q E,sp vs H Q E→vs.length=ps.length)
    (hbody:∀ (cdv:Value) (A:Around) (outer:List Env) (s:Shared) (H:Hp) (vs:List V) (Q:VK) (E:XK),Room k (A.deeper (envOfC qual (qh st) s.heap.objs.size f cdv))→sp vs H Q E →
      ∃ t,PSs (cxOf CX0 P w K mg base N qual (qh st) f cdv A outer s H E).nox (qw3 st) t∧t { nx:=fun _ H'=>Q .non H',rt:=Q } (qk1 N vs) H):FnOk P w K mg base CX0 (k+1) f fd ps sp:=by
  obtain ⟨oc,od,kV,doc,pm,an,cdv,ct,osl,rfl,lk,hcd⟩:=F.ex;refine fn_of lk hcd S len fun A outer s H vs Q E hr hsp=>?_;obtain ⟨t,h,q⟩:=hbody cdv A outer s H vs Q E hr hsp;exact ⟨t,h.nox,q⟩
theorem Fun.binds {x qual:Str}{st:Stmt}{f:Addr}{fd:FuncData}{ps:List Str}(F:Fun K x qual st f fd)
    (h:∀ (kV doc pm:Value) (an:Option Addr) (cdv ct:Value) (us:List Value),us.length=ps.length→bindArgs (PySem.W.fnOf x qual (qo4 st) (qw3 st) (qh st) .none kV doc pm an cdv ct) ⟨us,[]⟩=pure (ps.zip us)):Binds K fd ps []:=by
  obtain ⟨oc,od,kV,doc,pm,an,cdv,ct,osl,rfl,lk,hcd⟩:=F.ex;exact .all (h kV doc pm an cdv ct)
theorem qqs {x qual:Str}{st:Stmt}{f:Addr}{oc:Value}{od an:Option Addr}{osl:Array (Option Value)}{kV doc pm cdv ct:Value}(l:K.lookup f=some ⟨oc,od,.func (W.fnOf x qual (qo4 st) (qw3 st) (qh st) .none kV doc pm an cdv ct),osl⟩)
    (c:PySem.W.codeIn K cdv qual=true) (k:PySem.W.keepIn K (.ref f)=true):Fun K x qual st f (PySem.W.fnOf x qual (qo4 st) (qw3 st) (qh st) .none kV doc pm an cdv ct):=⟨⟨oc,od,kV,doc,pm,an,cdv,ct,osl,rfl,l,c⟩,k⟩
end
theorem qu9 {A:Around}{k:Nat}(hr:Room k A):A.units+1<cLine:=Nat.lt_of_le_of_lt (Nat.add_le_add_left (by decide:1≤64) _) hr.units
theorem qg2 {n:Nat}(h:n≤1000):n<sizeLine:=Nat.lt_of_le_of_lt h (by decide)
section
variable {X:Cx}
theorem pv (i:Nat){x:Str}{pos:Pos}(hN:X.N[i]?=some x:=by rfl)(hv:Vis X.env.scope x:=by first | exact Or.inl rfl | exact Or.inr (Or.inl rfl) | exact Or.inr (Or.inr rfl))(hd:(x == ("__debug__":Str))=false:=by decide)
    (hcd:(x == ("__classdict__":Str))=false:=by decide):PE X (.Name x pos) (tVar i):=pe_var hN hv hd hcd
end
def Same (H H':Hp):Prop:=∀ b o,H b=some o→H' b=some o
theorem Same.refl (H:Hp):Same H H:=fun _ _ h=>h
theorem Same.trans {H1 H2:Hp}(a:Same H H1)(b:Same H1 H2):Same H H2:=fun c o h=>b c o (a c o h)
theorem Same.free {H':Hp}(e:Same H H'){l:Addr}(h:H' l=Option.none):H l=Option.none:=by
  cases q:H l with
  | none=>rfl
  | some o =>
    rw [e l o q] at h;cases h
theorem Same.seq {K:W.Frag}{H':Hp}{a:Addr}{xs:List V}(e:Same H H')(h:SqL K H a xs):SqL K H' a xs:=by
  rcases h with (h | ⟨o,h⟩) | h
  · exact .inl (.inl (e _ _ h))
  · exact .inl (.inr ⟨o,e _ _ h⟩)
  · exact .inr h
end L2
section
end
set_option maxHeartbeats 4000000
namespace Sv
open PySem PySem.Spec PyProof.Rows L2
variable {H:Hp}{pins:List (Addr×Obj)}{s:Shared}{σ:L2.St}
section
variable {X:Cx}
def CDivW (_ j:Int):Prop:=0<j∧j<18446744073709551616
theorem qv3:OpR X (binaryOp .FloorDiv) (rI CDivW fun i j=>.int (i / j)):=opI fun i j _ _ _ _ _ hc q=>by
 have p1:(0:Int)<j:=hc.1;have p2:j<18446744073709551616:=hc.2
 have lg:j.natAbs.log2<9000:=by
  have a:j.natAbs≠0:=by omega
  have b:j.natAbs<2 ^ 64:=by omega
  have c:=(Nat.log2_lt a).mpr b;omega
 refine floordiv_int (by omega) ?_ (.inl (PyProof.noPylong_of_log2 lg));rw [Int.fdiv_eq_ediv_of_nonneg i (by omega)];exact q
def Its (lo c:Int)(n:Nat):It:=⟨fun i _=>i<n,fun i H x H'=>H'=H∧x=.int (lo+(i:Int) * c),fun i _=>n≤i⟩
def evens (hi:Int):Nat:=((hi+1) / 2).toNat
theorem qmw {lo c:Int}{n:Nat}{g:TG}{tb:TS}{D:Ends}{σ:L2.St}{H:Hp}(Pv:Nat→L2.St→Hp→Prop)(h0:Pv 0 σ H)
  (hs:∀ i σ H,i<n→Pv i σ H→g (.int (lo+(i:Int) * c)) σ H fun σ2 H2=>tb { D with nx:=Pv (i+1),ct:=Pv (i+1),bk:=D.nx } σ2 H2) (hd:∀ σ H,Pv n σ H→D.nx σ H) :
  ∃ W:Nat→Nat→L2.St→Hp→Prop,(∃ m,W 0 m σ H)∧∀ i m σ H,W i m σ H →
   ((Its lo c n).stop i H∧D.nx σ H)∨((Its lo c n).go i H∧∃ N:L2.St→Hp→Prop,(∀ σ' H',N σ' H'→∃ m',m'<m∧W (i+1) m' σ' H')∧∀ x H',(Its lo c n).yld i H x H'→g x σ H' fun σ2 H2=>tb { D with nx:=N,ct:=N,bk:=D.nx } σ2 H2):=by
 refine ⟨fun i m σ H=>m=n - i∧i≤n∧Pv i σ H,⟨n,rfl,Nat.zero_le _,h0⟩,fun i m σ H hw=>?_⟩;obtain ⟨rfl,hi,p⟩:=hw
 by_cases lt:i<n
 ·refine .inr ⟨lt,Pv (i+1),fun σ' H' p'=>⟨n - (i+1),by omega,rfl,lt,p'⟩,fun x H' y=>?_⟩
  obtain ⟨e,y⟩:=y;subst e y;exact hs i σ _ lt p
 ·obtain rfl:i=n:=by omega
  exact .inl ⟨Nat.le_refl _,hd σ H p⟩
def rIsi (K:W.Frag):List V→Hp→VK→Prop:=fun xs H Q=>∃ x T t b,xs=[x,.ty T]∧TyOf K H x t∧W.kitOne K t (.type T)=some b∧Q (.bl b) H
theorem qvm:qn6 X (.builtin "isinstance") (rIsi X.K):=by
 intro pins s σ H xs us Q I r h;obtain ⟨x,T,t,b,rfl,ty,e,q⟩:=h;obtain ⟨u,v,rfl,ru,rv⟩:=Vals.two r;obtain rfl:v=Value.type T:=rv;exact qli I ru ty e fun tk=>⟨.bl b,H,I.tok tk,rfl,q⟩
theorem qjm (K:W.Frag)(T:String):W.kitOne K (.type T) (.type T)=some true:=by
 unfold PySem.W.kitOne;rw [if_pos (beq_self_eq_true _)]
mutual
inductive Dt (H:Hp):V→PyData→Prop where
 | non:Dt H .non .none
 | bl (b:Bool):Dt H (.bl b) (.bool b)
 | int (i:Int):Dt H (.int i) (.int i)
 | str (x:Str):Dt H (.str x) (.str x)
 | tup {a:Addr} {xs:List V} {ds:List PyData} (e:Rd H a (.tup xs)) (r:Dts H xs ds):Dt H (.ref a) (.tuple ds)
 | lst {a:Addr} {xs:List V} {ds:List PyData} (e:Rd H a (.lst xs)) (r:Dts H xs ds):Dt H (.ref a) (.list ds)
inductive Dts (H:Hp):List V→List PyData→Prop where
 | nil:Dts H [] []
 | cons {x:V} {d:PyData} {xs:List V} {ds:List PyData} (h:Dt H x d) (t:Dts H xs ds):Dts H (x::xs) (d::ds)
end
mutual
theorem Dt.reads (I:Inv X pins σ H s):∀ {x:V} {d:PyData} {u:Value},Dt H x d→RelV x u→∃ as,Reads s.heap u d as
 | _,_,_,.non,r=>by cases r; exact ⟨_,.none⟩
 | _,_,_,.bl b,r=>by cases r; exact ⟨_,.bool b⟩
 | _,_,_,.int i,r=>by obtain ⟨t,rfl⟩:=r; exact ⟨_,.int i t⟩
 | _,_,_,.str x,r=>by obtain ⟨t,rfl⟩:=r; exact ⟨_,.str x t⟩
 | _,_,_,.tup e q,r=>by
  cases r;obtain ⟨_,its,rv,o,h1,h2,n,h3⟩:=e.ok I.hok;obtain ⟨as,ra⟩:=Dts.reads I q rv;exact ⟨_,.tuple h1 h2 h3 (by simpa using ra)⟩
 | _,_,_,.lst e q,r=>by
  cases r;obtain ⟨_,its,n,rv,h1⟩:=e.ok I.hok;obtain ⟨as,ra⟩:=Dts.reads I q rv;exact ⟨_,.list h1 rfl rfl (by simpa using ra)⟩
theorem Dts.reads (I:Inv X pins σ H s):∀ {xs:List V} {ds:List PyData} {us:List Value},Dts H xs ds→Vals xs us→∃ as,ReadsAll s.heap us ds as
 | _,_,_,.nil,r=>by cases r; exact ⟨_,.nil⟩
 | _,_,_,.cons h t,r=>by
  cases r with
  | cons r1 r2 =>
   obtain ⟨a1,q1⟩:=Dt.reads I h r1;obtain ⟨a2,q2⟩:=Dts.reads I t r2;exact ⟨_,.cons q1 q2⟩
end
def rEqD (neg:Bool):R2:=fun x y H Q=>∃ d e,Dt H x d∧Dt H y e∧SeqAt.shaped d=true∧SeqAt.shaped e=true∧Q (.bl (if neg then !PyData.eqv d e else PyData.eqv d e)) H
theorem qgr (hu:X.A.units+64<cLine):OpR X (compareOp .Eq) (rEqD false):=by
 intro pins s σ H x y v u Q I rx ry h;obtain ⟨d,e,hd,he,sd,se,q⟩:=h;obtain ⟨as,ra⟩:=hd.reads I rx;obtain ⟨bs,rb⟩:=he.reads I ry;exact SeqAt.eqOverData X.prog X.w X.A _ s v u d e as bs _ ra rb (SeqAt.canLay_of_shaped sd) (SeqAt.canLay_of_shaped se) (SeqAt.room_of_shaped sd hu) ⟨.bl _,H,I,rfl,q⟩
theorem qzh (hu:X.A.units+64<cLine):OpR X (compareOp .NotEq) (rEqD true):=by
 intro pins s σ H x y v u Q I rx ry h;obtain ⟨d,e,hd,he,sd,se,q⟩:=h;obtain ⟨as,ra⟩:=hd.reads I rx;obtain ⟨bs,rb⟩:=he.reads I ry;exact SeqAt.neOverData X.prog X.w X.A _ s v u d e as bs _ ra rb (SeqAt.canLay_of_shaped sd) (SeqAt.canLay_of_shaped se) (SeqAt.room_of_shaped sd hu) ⟨.bl _,H,I,rfl,q⟩
end
end Sv
namespace Sv
open PySem PySem.Spec PyProof.Rows L2
variable {C:Int→Int→Prop}{E:XK}{K:W.Frag}{N:List Str}{P:Bool→Prop}{R:It→Hp→Prop}{T:String}{X:Cx}{a:Addr}{i j:Int}{mg:Str→Option Value}{outer:List Env}{xs:List V}{z:Str}
def BrS (b:Bool)(f g:L2.St→Hp→Prop)(σ:L2.St)(H:Hp):Prop:=if b=true then f σ H else g σ H
def BrA (b:Bool)(u:TT)(σ:L2.St)(H:Hp)(Q:Bool→Hp→Prop):Prop:=if b=true then u σ H Q else Q false H
def BrO (b:Bool)(u:TT)(σ:L2.St)(H:Hp)(Q:Bool→Hp→Prop):Prop:=if b=true then Q true H else u σ H Q
def BrAV (b:Bool)(u:TE)(σ:L2.St)(H:Hp)(Q:VK):Prop:=if b=true then u σ H Q else Q (.bl false) H
section
variable {f g:L2.St→Hp→Prop}{σ:L2.St}{H:Hp}{u:TT}{ue:TE}{Q:Bool→Hp→Prop}{Qv:VK}{b:Bool}
theorem brS_t:BrS true f g σ H=f σ H:=rfl
theorem brS_f:BrS false f g σ H=g σ H:=rfl
theorem brA_t:BrA true u σ H Q=u σ H Q:=rfl
theorem brA_f:BrA false u σ H Q=Q false H:=rfl
theorem brO_t:BrO true u σ H Q=Q true H:=rfl
theorem brO_f:BrO false u σ H Q=u σ H Q:=rfl
theorem brAV_t:BrAV true ue σ H Qv=ue σ H Qv:=rfl
theorem brAV_f:BrAV false ue σ H Qv=Qv (.bl false) H:=rfl
theorem BrS.go (h1:b=true→f σ H)(h2:b=false→g σ H):BrS b f g σ H:=by
 cases b with
 | true=>exact h1 rfl
 | false=>exact h2 rfl
theorem BrS.dec {c:Prop} [Decidable c](h1:c→f σ H)(h2:¬ c→g σ H):BrS (decide c) f g σ H :=
 BrS.go (fun e=>h1 (of_decide_eq_true e)) fun e=>h2 (of_decide_eq_false e)
theorem BrA.dec {c:Prop} [Decidable c](h1:c→u σ H Q)(h2:¬ c→Q false H):BrA (decide c) u σ H Q:=by
 by_cases z:c
 ·rw [decide_eq_true z]; exact h1 z
 ·rw [decide_eq_false z]; exact h2 z
theorem BrO.dec {c:Prop} [Decidable c](h1:c→Q true H)(h2:¬ c→u σ H Q):BrO (decide c) u σ H Q:=by
 by_cases z:c
 ·rw [decide_eq_true z]; exact h1 z
 ·rw [decide_eq_false z]; exact h2 z
end
def ForR (J:It)(g:TG)(tb:TS)(D:Ends)(σ:L2.St)(H:Hp):Prop:=∃ W:Nat→Nat→L2.St→Hp→Prop,(∃ m,W 0 m σ H)∧∀ i m σ H,W i m σ H →
 (J.stop i H∧D.nx σ H)∨(J.go i H∧∃ N:L2.St→Hp→Prop,(∀ σ' H',N σ' H'→∃ m',m'<m∧W (i+1) m' σ' H')∧∀ x H',J.yld i H x H'→g x σ H' fun σ2 H2=>tb { D with nx:=N,ct:=N,bk:=D.nx } σ2 H2)
theorem ForR.range {lo:Int}{n:Nat}{g:TG}{tb:TS}{D:Ends}{σ:L2.St}{H:Hp}(Pv:Nat→L2.St→Hp→Prop)(h0:Pv 0 σ H)
  (hs:∀ i σ H,i<n→Pv i σ H→g (.int (lo+i)) σ H fun σ2 H2=>tb { D with nx:=Pv (i+1),ct:=Pv (i+1),bk:=D.nx } σ2 H2) (hd:∀ σ H,Pv n σ H→D.nx σ H):ForR (Itr lo n) g tb D σ H :=
 qss Pv h0 hs hd
theorem ForR.step {lo c:Int}{n:Nat}{g:TG}{tb:TS}{D:Ends}{σ:L2.St}{H:Hp}(Pv:Nat→L2.St→Hp→Prop)(h0:Pv 0 σ H)
  (hs:∀ i σ H,i<n→Pv i σ H→g (.int (lo+(i:Int) * c)) σ H fun σ2 H2=>tb { D with nx:=Pv (i+1),ct:=Pv (i+1),bk:=D.nx } σ2 H2) (hd:∀ σ H,Pv n σ H→D.nx σ H):ForR (Its lo c n) g tb D σ H :=
 qmw Pv h0 hs hd
theorem ForR.list {K:W.Frag}{a:Addr}{xs:List V}{g:TG}{tb:TS}{D:Ends}{σ:L2.St}{H:Hp}(Pv:Nat→L2.St→Hp→Prop)(h0:Pv 0 σ H)(hl:∀ i σ H,i≤xs.length→Pv i σ H→SqL K H a xs)
  (hs:∀ i x σ H,xs[i]?=some x→Pv i σ H→g x σ H fun σ2 H2=>tb { D with nx:=Pv (i+1),ct:=Pv (i+1),bk:=D.nx } σ2 H2) (hd:∀ σ H,Pv xs.length σ H→D.nx σ H):ForR (Itl K a) g tb D σ H :=
 qnw Pv h0 hl hs hd
def WhR (Pv:L2.St→Hp→Prop)(μ:L2.St→Hp→Nat)(m:Nat)(tb:TS)(D:Ends)(b:Bool)(σ:L2.St)(H:Hp):Prop :=
 if b=true then ∃ N:L2.St→Hp→Prop,(∀ σ' H',N σ' H'→∃ m',m'<m∧(m'=μ σ' H'∧Pv σ' H'))∧tb { D with nx:=N,ct:=N,bk:=D.nx } σ H else D.nx σ H
theorem WhR.on {Pv:L2.St→Hp→Prop}{μ:L2.St→Hp→Nat}{m:Nat}{tb:TS}{D:Ends}{b:Bool}{σ:L2.St}{H:Hp}(h1:b=true→tb { D with nx:=fun σ' H'=>Pv σ' H'∧μ σ' H'<m,ct:=fun σ' H'=>Pv σ' H'∧μ σ' H'<m,bk:=D.nx } σ H)
  (h2:b=false→D.nx σ H):WhR Pv μ m tb D b σ H:=by
 cases b with
 | true=>exact ⟨_,fun σ' H' p=>⟨_,p.2,rfl,p.1⟩,h1 rfl⟩
 | false=>exact h2 rfl
theorem qyt {c:TT}{tb:TS}{D:Ends}{σ:L2.St}{H:Hp}(Pv:L2.St→Hp→Prop)(μ:L2.St→Hp→Nat)(h0:Pv σ H)
  (hs:∀ σ H,Pv σ H→c σ H fun b H1=>WhR Pv μ (μ σ H) tb D b σ H1):qfp c tb D σ H:=by
 refine ⟨fun m σ H=>m=μ σ H∧Pv σ H,⟨_,rfl,h0⟩,fun m σ H hw=>?_⟩;obtain ⟨rfl,p⟩:=hw;exact hs σ H p
section
variable {t u:TS}{D:Ends}{σ:L2.St}{H:Hp}{te ta tb tc:TE}{Q:VK}{tr:TA}{c tt tu:TT}{Qb:Bool→Hp→Prop}{Ql:List V→Hp→Prop}{G:TG}{v x:V}{r r':R2}{wi:TI}
theorem seq_:tSeq t u D σ H=t { D with nx:=u D } σ H:=rfl
theorem next_:tNext D σ H=D.nx σ H:=rfl
theorem ret_:tRet te D σ H=te σ H D.rt:=rfl
theorem drop_:tDrop te D σ H=te σ H fun _ H1=>D.nx σ H1:=rfl
theorem ifS_:tIfS c t u D σ H=c σ H fun b H1=>BrS b (t D) (u D) σ H1:=rfl
theorem asg_:tAsg te G D σ H=te σ H fun x H1=>G x σ H1 D.nx:=rfl
theorem gname_ {i:Nat}{R:L2.St→Hp→Prop}:qb4 i v σ H R=R (σ.set i (some v)) H:=rfl
theorem var_ {i:Nat}:tVar i σ H Q=∃ v,σ[i]?=some (some v)∧Q v H:=rfl
theorem ex_ {α:Type}{x:α}{P:α→Prop}:(∃ v,some (some x)=some (some v)∧P v)=P x:=by
 apply propext
 constructor
 ·intro h
  obtain ⟨v,e,p⟩:=h;cases e;exact p
 ·exact fun p=>⟨x,rfl,p⟩
theorem exb_ {b:Bool}:(∃ k,V.bl b=V.bl k∧P k)=P b:=by
 apply propext
 constructor
 ·intro h
  obtain ⟨v,e,p⟩:=h;cases e;exact p
 ·exact fun p=>⟨b,rfl,p⟩
theorem c_:tC v σ H Q=Q v H:=rfl
theorem op_:tOp r ta tb σ H Q=ta σ H fun x H1=>tb σ H1 fun y H2=>r x y H2 Q:=rfl
theorem un_ {f:V→Hp→VK→Prop}:tUn f ta σ H Q=ta σ H fun x H1=>f x H1 Q:=rfl
theorem test_:tTest te σ H Qb=te σ H fun x H1=>∃ k,x=.bl k∧Qb k H1:=rfl
theorem tB_:tB te σ H Qb=te σ H fun x H1=>∃ k,x=.bl k∧Qb k H1:=rfl
theorem and_:tAnd tt tu σ H Qb=tt σ H fun b H1=>BrA b tu σ H1 Qb:=rfl
theorem or_:tOr tt tu σ H Qb=tt σ H fun b H1=>BrO b tu σ H1 Qb:=rfl
theorem not_:tNot tt σ H Qb=tt σ H fun b H1=>Qb (!b) H1:=rfl
theorem andV_:tAndV ta tb σ H Q=ta σ H fun x H1=>∃ k,x=.bl k∧BrAV k tb σ H1 Q:=rfl
theorem rI0_ {g:Int→Int→V}:rI0 g (.int i) (.int j) H Q=Q (g i j) H:=by
 apply propext
 constructor
 ·intro h
  obtain ⟨a,b,e1,e2,q⟩:=h;cases e1; cases e2;exact q
 ·exact fun q=>⟨i,j,rfl,rfl,q⟩
theorem rI_ {g:Int→Int→V}:rI C g (.int i) (.int j) H Q=(C i j∧Q (g i j) H):=by
 apply propext
 constructor
 ·intro h
  obtain ⟨a,b,e1,e2,q⟩:=h;cases e1; cases e2;exact q
 ·exact fun q=>⟨i,j,rfl,rfl,q⟩
theorem rEqI_ :rEq (.int i) (.int j) H Q=Q (.bl (decide (i=j))) H:=by
 have e:decide (V.int i=V.int j)=decide (i=j):=by rw [qkg,Bool.beq_eq_decide_eq]
 unfold rEq;rw [e];exact propext ⟨fun h=>h.2,fun h=>⟨rfl,h⟩⟩
theorem rNeI_ :rNe (.int i) (.int j) H Q=Q (.bl (!decide (i=j))) H:=by
 have e:decide (V.int i=V.int j)=decide (i=j):=by rw [qkg,Bool.beq_eq_decide_eq]
 unfold rNe;rw [e];exact propext ⟨fun h=>h.2,fun h=>⟨rfl,h⟩⟩
theorem rEqS_ {i j:Str}:rEq (.str i) (.str j) H Q=Q (.bl (decide (i=j))) H:=by
 have e:decide (V.str i=V.str j)=decide (i=j):=by rw [qjg,Bool.beq_eq_decide_eq]
 unfold rEq;rw [e];exact propext ⟨fun h=>h.2,fun h=>⟨rfl,h⟩⟩
theorem rNeS_ {i j:Str}:rNe (.str i) (.str j) H Q=Q (.bl (!decide (i=j))) H:=by
 have e:decide (V.str i=V.str j)=decide (i=j):=by rw [qjg,Bool.beq_eq_decide_eq]
 unfold rNe;rw [e];exact propext ⟨fun h=>h.2,fun h=>⟨rfl,h⟩⟩
theorem rU_ {g:Int→V}:rU g (.int i) H Q=Q (g i) H:=by
 apply propext
 constructor
 ·intro h
  obtain ⟨a,e,q⟩:=h;cases e;exact q
 ·exact fun q=>⟨i,rfl,q⟩
theorem nil_:tNil σ H Ql=Ql [] H:=rfl
theorem cons_:tCons te tr σ H Ql=te σ H fun x H1=>tr σ H1 fun xs H2=>Ql (x::xs) H2:=rfl
def TupR (xs:List V)(H:Hp)(Q:VK):Prop:=xs.length≤sizeLine∧∀ p,H p=none→Q (.ref p) (upd H p (.tup xs))
def LstR (xs:List V)(H:Hp)(Q:VK):Prop:=xs.length≤sizeLine∧∀ p,H p=none→Q (.ref p) (upd H p (.lst xs))
theorem tup_:tTup tr σ H Q=tr σ H fun xs H1=>TupR xs H1 Q:=rfl
theorem lst_:tLst tr σ H Q=tr σ H fun xs H1=>LstR xs H1 Q:=rfl
theorem TupR.go (h:xs.length≤1000)(q:∀ p,H p=none→Q (.ref p) (upd H p (.tup xs))):TupR xs H Q:=⟨Nat.le_of_lt (qg2 h),q⟩
theorem LstR.go (h:xs.length≤1000)(q:∀ p,H p=none→Q (.ref p) (upd H p (.lst xs))):LstR xs H Q:=⟨Nat.le_of_lt (qg2 h),q⟩
theorem call_ {sp:Sp}:qhj sp [] E tr σ H Q=tr σ H fun vs H1=>sp vs H1 Q E:=by
 unfold qhj;simp only [List.append_nil]
theorem cb_ {f:List V→Hp→VK→Prop}:tCB f tr σ H Q=tr σ H fun vs H1=>f vs H1 Q:=rfl
theorem for_:tFor wi G t D σ H=wi σ H fun J H1=>ForR J G t D σ H1:=rfl
def RngR (vs:List V)(H:Hp)(R:It→Hp→Prop):Prop:=∃ j:Int,vs=[.int j]∧-(2 ^ 62)≤j∧j<2 ^ 62∧R (Itr 0 j.toNat) H
theorem rng1_ :iRng1 tr σ H R=tr σ H fun vs H1=>RngR vs H1 R:=rfl
theorem RngR.go (h1:-(2 ^ 62)≤j)(h2:j<2 ^ 62)(q:R (Itr 0 j.toNat) H):RngR [.int j] H R:=⟨j,rfl,h1,h2,q⟩
def Rng3R (vs:List V)(H:Hp)(R:It→Hp→Prop):Prop:=∃ j:Int,vs=[.int 0,.int j,.int 2]∧0≤j∧j<1000000∧R (Its 0 2 (evens j)) H
theorem Rng3R.go (h1:0≤j)(h2:j<1000000)(q:R (Its 0 2 (evens j)) H):Rng3R [.int 0,.int j,.int 2] H R:=⟨j,rfl,h1,h2,q⟩
def LenR (K:W.Frag):List V→Hp→VK→Prop:=fun xs H Q=>∃ p ys,xs=[.ref p]∧(SqL K H p ys∨SqT K H p ys)∧Q (.int ys.length) H
theorem qb5 :qn6 X (.builtin "len") (LenR X.K):=qwi
theorem LenR.lst {ys:List V}(h:SqL K H a ys)(q:Q (.int ys.length) H):LenR K [.ref a] H Q:=⟨a,ys,rfl,.inl h,q⟩
def MaxR:List V→Hp→VK→Prop:=fun xs H Q=>∃ i j,xs=[.int i,.int j]∧Q (.int (if j > i then j else i)) H
def MinR:List V→Hp→VK→Prop:=fun xs H Q=>∃ i j,xs=[.int i,.int j]∧Q (.int (if j<i then j else i)) H
theorem qq7 (hc:X.calm=true):qn6 X (.builtin "max") MaxR:=qkt hc
theorem qp7 (hc:X.calm=true):qn6 X (.builtin "min") MinR:=qjt hc
theorem max_ :MaxR [.int i,.int j] H Q=Q (.int (max i j)) H:=by
 have e:(if j > i then j else i)=max i j:=by split <;> omega
 apply propext
 constructor
 ·intro h
  obtain ⟨a,b,e1,q⟩:=h;cases e1;rw [e] at q;exact q
 ·intro q
  refine ⟨i,j,rfl,?_⟩;rw [e];exact q
theorem min_ :MinR [.int i,.int j] H Q=Q (.int (min i j)) H:=by
 have e:(if j<i then j else i)=min i j:=by split <;> omega
 apply propext
 constructor
 ·intro h
  obtain ⟨a,b,e1,q⟩:=h;cases e1;rw [e] at q;exact q
 ·intro q
  refine ⟨i,j,rfl,?_⟩;rw [e];exact q
theorem ixT_go {i:Nat}(h:SqT K H a xs)(e:xs[i]?=some v)(q:Q v H):rIxT K (.ref a) (.int (i:Int)) H Q:=⟨a,xs,_,v,rfl,rfl,h,qhl e,q⟩
theorem qw2 {i:Nat}(h:SqL K H a xs)(e:xs[i]?=some v)(q:Q v H):rIxL K (.ref a) (.int (i:Int)) H Q:=⟨a,xs,_,v,rfl,rfl,h,qhl e,q⟩
theorem bm0_ {f:V→List V→Hp→VK→Prop}:tBM0 K T f te σ H Q=te σ H fun x H1=>tyV K T x H1∧f x [] H1 Q:=rfl
theorem bm_ {f:V→List V→Hp→VK→Prop}:tBM K T f te tr σ H Q=te σ H fun x H1=>tyV K T x H1∧tr σ H1 fun xs H2=>f x xs H2 Q:=rfl
theorem tyInt_ :tyV K "int" (.int i) H=True:=propext ⟨fun _=>True.intro,fun _=>rfl⟩
theorem tyStr_ :tyV K "str" (.str z) H=True:=propext ⟨fun _=>True.intro,fun _=>rfl⟩
end
theorem isi_str {H:Hp}{Q:VK}(q:Q (.bl true) H):rIsi K [.str z,.ty "str"] H Q:=⟨_,_,_,_,rfl,.str z,qjm K "str",q⟩
theorem isi_tup {H:Hp}{Q:VK}(e:H a=some (.tup xs))(q:Q (.bl true) H):rIsi K [.ref a,.ty "tuple"] H Q:=⟨_,_,_,_,rfl,.tup e,qjm K "tuple",q⟩
theorem cxK {CX:CXT}{P:Program}{w:World}{base:Heap}{qual:Str}{sc:Scope}{f:Addr}{cd:Value}{A:Around}{s:Shared}{H:Hp} :
  (cxOf CX P w K mg base N qual sc f cd A outer s H E).nox.K=K:=rfl
theorem qe {H:Hp}{p:Addr}(h:H p=none)(o:HO):Same H (upd H p o):=fun b u q=>by
 rw [qt (qz q h)];exact q
end Sv
namespace Sv
open PySem L2
end Sv
namespace Sv
open PySem L2
variable {H:Hp}{K:W.Frag}{R:L2.St→Hp→Prop}{l:Addr}{xs:List V}
theorem qio {a:Addr}{x y:V}{i j:Nat}{σ:L2.St}(h:SqT K H a [x,y])(q:R ((σ.set i (some x)).set j (some y)) H) :
  gTup K 2 (qu6 (qb4 i) (qu6 (qb4 j) gNil)) (.ref a) σ H R:=⟨a,_,rfl,h,rfl,_,_,rfl,_,_,rfl,rfl,q⟩
theorem qm6 {y:V}{Q:VK}(h:H l=some (.lst xs))(z:xs.length≤1000)(q:Q .non (upd H l (.lst (xs++[y])))):qek (.ref l) [y] H Q :=
 ⟨l,xs,y,rfl,rfl,h,qg2 z,q⟩
theorem qy4 (h:H l=some (.lst xs)):tyV K "list" (.ref l) H:=.inl ⟨rfl,xs,SqL.of h⟩
end Sv
namespace Sv
open PySem L2
variable {H:Hp}{K:W.Frag}{R:It→Hp→Prop}
def IlR (K:W.Frag)(x:V)(H:Hp)(R:It→Hp→Prop):Prop:=∃ a,x=.ref a∧(∃ xs,SqL K H a xs)∧R (Itl K a) H
theorem ilist_ {te:TE}{σ:L2.St}:iList K te σ H R=te σ H fun x H1=>IlR K x H1 R:=rfl
theorem IlR.go {a:Addr}{xs:List V}(h:SqL K H a xs)(q:R (Itl K a) H):IlR K (.ref a) H R:=⟨a,rfl,⟨xs,h⟩,q⟩
end Sv
namespace Sv
open PySem L2
variable {K:W.Frag}{N:List Str}{P:Program}{mg:Str→Option Value}{outer:List Env}
theorem cxK2 {CX:CXT}{w:World}{base:Heap}{qual:Str}{sc:Scope}{f:Addr}{cd:Value}{A:Around}{s:Shared}{H:Hp}{E:XK} :
  (cxOf CX P w K mg base N qual sc f cd A outer s H E).K=K:=rfl
end Sv
namespace Sv
open PySem PySem.Spec PyProof.Rows L2
variable {E:XK}{H:Hp}{K:W.Frag}{Q:VK}{ns:List Int}
theorem qg8:bootBuiltins "len"=some (.builtin "len"):=by decide +kernel
theorem qyi:bootBuiltins "max"=some (.builtin "max"):=by decide +kernel
theorem qxi:bootBuiltins "min"=some (.builtin "min"):=by decide +kernel
theorem qo2:bootBuiltins "isinstance"=some (.builtin "isinstance"):=by decide +kernel
theorem bo_int:bootBuiltins "int"=some (.type "int"):=by decide +kernel
theorem bo_str:bootBuiltins "str"=some (.type "str"):=by decide +kernel
theorem qv6:bootBuiltins "tuple"=some (.type "tuple"):=by decide +kernel
theorem qpt:bootBuiltins "list"=some (.type "list"):=by decide +kernel
structure Fn (P:Program)(w:World)(K:W.Frag)(mg:Str→Option Value)(base:Heap)(x:Str)(k:Nat)(ps:List Str)(sp:Sp):Prop where
 ex:∃ (f:Addr) (fd:FuncData),FnOk P w K mg base CX0 k f fd ps sp∧mg x=some (.ref f)∧PySem.W.keepIn K (.ref f)=true∧Binds K fd ps []
section
variable {X:Cx}{x:Str}{k j:Nat}{ps:List Str}{sp:Sp}{e:Expr}{es:List Expr}{t:TA}{p pos:Pos}
theorem qf1 (F:Fn X.prog X.w X.K X.mg X.base x k ps sp)(hr:Room j X.A)(hk:k≤j)(hg:Gl X x)(ha:PA X (e::es) t)(hdb:(x == ("__debug__":Str))=false:=by decide)
  (he:starEach (e::es) X.env=(false,eval e X.env)::starEach es X.env:=by rfl) (hpl:(backTo pos (starEach es X.env)).any (·.1)=false:=by rfl):PE X (.Call (.Name x p) (e::es) [] pos) (qhj sp [] E0 t):=by
 obtain ⟨f,fd,G,m,kp,b⟩:=F.ex;exact pe_call G (hr.mono hk) hg m kp b .nil qnn ha hdb he hpl
theorem qwq (F:Fn X.prog X.w X.K X.mg X.base x k ps sp)(hr:Room j X.A)(hk:k≤j)(hg:Gl X x)(hdb:(x == ("__debug__":Str))=false:=by decide):PE X (.Call (.Name x p) [] [] pos) (qhj sp [] E0 tNil):=by
 obtain ⟨f,fd,G,m,kp,b⟩:=F.ex;exact qdv G (hr.mono hk) hg m kp b .nil qnn hdb
end
structure Def (K:W.Frag)(mg:Str→Option Value)(x:Str)(st:Stmt):Prop where
 ex:∃ (f:Addr) (fd:FuncData),Fun K x x st f fd∧mg x=some (.ref f)
theorem mk_def {K:W.Frag}{h:Heap}{mg:Str→Option Value}{x:Str}{st:Stmt}{f:Addr}{oc kV dc pm cd ct:Value}{od an:Option Addr}{sl:Array (Option Value)}(X:K.In h)(G:h.Ns mainGlobals mg)
  (a:PySem.W.nsIn K mainGlobals x=some (some (.ref f))) (l:K.lookup f=some ⟨oc,od,.func (PySem.W.fnOf x x (qo4 st) (qw3 st) (qh st) .none kV dc pm an cd ct),sl⟩)
  (c:PySem.W.codeIn K cd x=true) (k:PySem.W.keepIn K (.ref f)=true):Def K mg x st:=⟨⟨f,_,qqs l c k,PySem.W.mg_of X G a⟩⟩
theorem Def.fn {P:Program}{w:World}{K:W.Frag}{mg:Str→Option Value}{base:Heap}{x:Str}{st:Stmt}{k:Nat}{ps:List Str}{sp:Sp}(D:Def K mg x st)
  (b:∀ (kV doc pm:Value) (an:Option Addr) (cdv ct:Value) (us:List Value),us.length=ps.length→bindArgs (PySem.W.fnOf x x (qo4 st) (qw3 st) (qh st) .none kV doc pm an cdv ct) ⟨us,[]⟩=pure (ps.zip us))
  (ok:∀ (f:Addr) (fd:FuncData),Fun K x x st f fd→FnOk P w K mg base CX0 k f fd ps sp):Fn P w K mg base x k ps sp:=by
 obtain ⟨f,fd,F,m⟩:=D.ex;exact ⟨⟨f,fd,ok f fd F,m,F.kp,F.binds b⟩⟩
def cell (ns:List Int)(k:Int):Int:=ns.getD k.toNat 0
def spCell (K:W.Frag):Sp:=fun vs H Q _=>∃ (a:Addr) (ns:List Int) (k:Int),vs=[.ref a,.int k]∧SqL K H a (ns.map V.int)∧0≤k∧Q (.int (cell ns k)) H
def spWhole:Sp:=fun vs H Q _=>∃ i:Int,vs=[.int i]∧Q (.bl true) H
def quu (K:W.Frag):Sp:=fun vs H Q _=>∃ (a:Addr) (ns:List Int),vs=[.ref a]∧SqL K H a (ns.map V.int)∧ns.length≤63∧∀ H',Q (.bl true) H'
theorem spCell.go {a:Addr}{k:Int}(h:SqL K H a (ns.map V.int))(h0:0≤k)(q:Q (.int (cell ns k)) H):spCell K [.ref a,.int k] H Q E:=⟨a,ns,k,rfl,h,h0,q⟩
theorem spWhole.go {i:Int}(q:Q (.bl true) H):spWhole [.int i] H Q E:=⟨i,rfl,q⟩
end Sv
namespace Sv
variable {α:Type}
theorem us1 {us:List α}(h:us.length=1):∃ a,us=[a]:=by
 cases us with
 | nil=>cases h
 | cons a us=>cases us with
  | nil=>exact ⟨a,rfl⟩
  | cons b us=>cases h
theorem us2 {us:List α}(h:us.length=2):∃ a b,us=[a,b]:=by
 cases us with
 | nil=>cases h
 | cons a us =>
  obtain ⟨b,rfl⟩:=us1 (Nat.succ.inj h);exact ⟨a,b,rfl⟩
theorem us3 {us:List α}(h:us.length=3):∃ a b c,us=[a,b,c]:=by
 cases us with
 | nil=>cases h
 | cons a us =>
  obtain ⟨b,c,rfl⟩:=us2 (Nat.succ.inj h);exact ⟨a,b,c,rfl⟩
theorem us4 {us:List α}(h:us.length=4):∃ a b c d,us=[a,b,c,d]:=by
 cases us with
 | nil=>cases h
 | cons a us =>
  obtain ⟨b,c,d,rfl⟩:=us3 (Nat.succ.inj h);exact ⟨a,b,c,d,rfl⟩
theorem us5 {us:List α}(h:us.length=5):∃ a b c d e,us=[a,b,c,d,e]:=by
 cases us with
 | nil=>cases h
 | cons a us =>
  obtain ⟨b,c,d,e,rfl⟩:=us4 (Nat.succ.inj h);exact ⟨a,b,c,d,e,rfl⟩
end Sv
namespace Sv
open PySem PySem.Spec PyProof.Rows L2
variable {C:Int→Int→Prop}{H:Hp}{Q:VK}{f:Value→Value→Sem Value}{g:Int→Int→V}{o:Option (Option V)}
def VarQ (o:Option (Option V))(H:Hp)(Q:VK):Prop:=match o with
 | some (some v)=>Q v H
 | _=>False
theorem VarQ.ex (h:VarQ o H Q):∃ v,o=some (some v)∧Q v H:=by
 match o,h with
 | some (some v),h=>exact ⟨v,rfl,h⟩
def jI0 (g:Int→Int→V):R2:=fun x y H Q=>match x,y with
 | .int i,.int j=>Q (g i j) H
 | _,_=>False
def jI (C:Int→Int→Prop)(g:Int→Int→V):R2:=fun x y H Q=>match x,y with
 | .int i,.int j=>C i j∧Q (g i j) H
 | _,_=>False
theorem jI0.ex {x y:V}(h:jI0 g x y H Q):rI0 g x y H Q:=by
 match x,y,h with
 | .int i,.int j,h=>exact ⟨i,j,rfl,rfl,h⟩
theorem jI.ex {x y:V}(h:jI C g x y H Q):rI C g x y H Q:=by
 match x,y,h with
 | .int i,.int j,h=>exact ⟨i,j,rfl,rfl,h.1,h.2⟩
section
variable {X:Cx}
theorem OpR.j (o:OpR X f (rI C g)):OpR X f (jI C g):=fun pins s σ H x y v u Q I r1 r2 h=>o pins s σ H x y v u Q I r1 r2 h.ex
variable {x:Str}{k j:Nat}{ps:List Str}{sp:Sp}{e:Expr}{es:List Expr}{t:TA}{p pos:Pos}
end
end Sv
namespace Sv
open PySem PySem.Spec PyProof.Rows L2
variable {K:W.Frag}{N:List Str}{a:Addr}{e:Expr}{env:Env}{lo:Int}{n:Nat}{v:V}{x:Str}{xs:List V}{β:Type}
theorem qzc {α:Type}{f:α→β→Sem (ForInStep β)}(g:β→α→β):∀ (l:List α) (c:β),(∀ x∈l,∀ c,f x c=pure (.yield (g c x)))→forIn l c f=pure (l.foldl g c)
 | [],_,_=>rfl
 | x::l,c,h=>by
  rw [List.forIn_cons,h x List.mem_cons_self,pure_bind];exact qzc g l (g c x) fun y hy=>h y (List.mem_cons_of_mem _ hy)
def qy5 (env:Env)(b:List (Str×Addr))(x:Str×NameKind):List (Str×Addr):=if x.2 == .free then (x.1,(env.cells.lookup x.1).getD 0)::b else b
def clOf (env:Env)(sc:Scope):List (Str×Addr):=sc.names.foldl (qy5 env) []
theorem qje {sc:Scope}(hf:∀ x∈sc.names,x.2=.free→∃ c,env.cells.lookup x.1=some c):closureFor sc env=pure (clOf env sc):=by
 simp only [closureFor]
 rw [qzc (qy5 env) sc.names [] (fun x hx c=>by
  obtain ⟨n,k⟩:=x
  cases hk:k == NameKind.free with
  | true =>
   obtain ⟨a,ha⟩:=hf (n,k) hx (by simpa using hk);have ha':env.cells.lookup n=some a:=ha;simp only [qy5,hk,if_true,cellOf,ha',Option.getD_some,pure_bind]
  | false=>simp only [qy5,hk,Bool.false_eq_true,if_false])]
 rfl
theorem cl_all :∀ (names:List (Str×NameKind)) (acc:List (Str×Addr)),(∀ x∈names,x.2=.free→∃ c,env.cells.lookup x.1=some c)→(∀ p∈acc,env.cells.lookup p.1=some p.2) →
  ∀ p∈names.foldl (qy5 env) acc,env.cells.lookup p.1=some p.2
 | [],_,_,ha,p,hp=>ha p hp
 | (n,k)::r,acc,hf,ha,p,hp=>by
  refine cl_all r (qy5 env acc (n,k)) (fun x hx=>hf x (List.mem_cons_of_mem _ hx)) (fun q hq=>?_) p hp;unfold qy5 at hq
  split at hq
  ·rename_i hk
   rcases List.mem_cons.mp hq with e | hq
   ·obtain ⟨c,hc⟩:=hf (n,k) List.mem_cons_self (by simpa using hk)
    have hc':env.cells.lookup n=some c:=hc;rw [e];show env.cells.lookup n=some ((env.cells.lookup n).getD 0);rw [hc'];rfl
   ·exact ha q hq
  ·exact ha q hq
theorem cl_sub :∀ (names:List (Str×NameKind)) (acc:List (Str×Addr)) (p:Str×Addr),p∈acc→p∈names.foldl (qy5 env) acc
 | [],_,_,h=>h
 | (n,k)::r,acc,p,h=>by
  refine cl_sub r (qy5 env acc (n,k)) p ?_;unfold qy5
  split
  ·exact List.mem_cons_of_mem _ h
  ·exact h
theorem cl_mem :∀ (names:List (Str×NameKind)) (acc:List (Str×Addr)) (x:Str),(x,NameKind.free)∈names→∃ c,(x,c)∈names.foldl (qy5 env) acc
 | [],_,_,h=>nomatch h
 | (n,k)::r,acc,x,h=>by
  rcases List.mem_cons.mp h with e | h
  ·have e1:x=n:=congrArg Prod.fst e
   have e2:k=.free:=(congrArg Prod.snd e).symm;refine ⟨(env.cells.lookup n).getD 0,cl_sub r (qy5 env acc (n,k)) _ ?_⟩;simp [qy5,e1,e2]
  ·exact cl_mem r (qy5 env acc (n,k)) x h
theorem qpc :∀ {l:List (Str×β)} {x:Str} {c:β},(x,c)∈l→∃ c',l.lookup x=some c'
 | [],_,_,h=>nomatch h
 | (y,d)::r,x,c,h=>by
  rw [List.lookup_cons]
  cases e:x == y with
  | true=>exact ⟨d,rfl⟩
  | false =>
   rcases List.mem_cons.mp h with q | q
   ·cases q
    simp at e
   ·exact qpc q
theorem qh7 {env:Env}:∀ {names:List (Str×NameKind)} {x:Str} {k':NameKind},
  (names.map fun (n,k)=>if (k == NameKind.free && env.scope.kind == .function && env.kindOf n == some .cell) then (n,NameKind.cell) else (n,k)).lookup x=some k' →
   names.lookup x=some k'∨(names.lookup x=some .free∧k'=.cell)
 | [],_,_,h=>by simp at h
 | (n,k)::r,x,k',h=>by
  have ih:=@qh7 env r x k';rw [List.map_cons] at h
  dsimp only at h
  by_cases hc:(k == NameKind.free && env.scope.kind == .function && env.kindOf n == some .cell)=true
  ·rw [if_pos hc] at h
   have hk:k=.free:=by
    rw [Bool.and_eq_true,Bool.and_eq_true] at hc
    simpa using hc.1.1
   cases e:x == n with
   | true =>
    simp only [List.lookup_cons,e] at h ⊢;rw [hk];exact .inr ⟨rfl,(Option.some.inj h).symm⟩
   | false =>
    simp only [List.lookup_cons,e] at h ⊢;exact ih h
  ·rw [if_neg hc] at h
   cases e:x == n with
   | true =>
    simp only [List.lookup_cons,e] at h ⊢;exact .inl h
   | false =>
    simp only [List.lookup_cons,e] at h ⊢;exact ih h
theorem qda {env:Env}:∀ {names:List (Str×NameKind)} {x:Str},names.lookup x=some .free →
  (names.map fun (n,k)=>if (k == NameKind.free && env.scope.kind == .function && env.kindOf n == some .cell) then (n,NameKind.cell) else (n,k)).lookup x=some .cell ∨
  (names.map fun (n,k)=>if (k == NameKind.free && env.scope.kind == .function && env.kindOf n == some .cell) then (n,NameKind.cell) else (n,k)).lookup x=some .free
 | [],_,h=>by simp at h
 | (n,k)::r,x,h=>by
  have ih:=@qda env r x;rw [List.map_cons]
  dsimp only
  by_cases hc:(k == NameKind.free && env.scope.kind == .function && env.kindOf n == some .cell)=true
  ·rw [if_pos hc]
   cases e:x == n with
   | true =>
    simp only [List.lookup_cons,e];exact .inl trivial
   | false =>
    simp only [List.lookup_cons,e] at h ⊢;exact ih h
  ·rw [if_neg hc]
   cases e:x == n with
   | true =>
    simp only [List.lookup_cons,e] at h ⊢;exact .inr h
   | false =>
    simp only [List.lookup_cons,e] at h ⊢;exact ih h
def cxC (X:Cx)(sc:Scope)(T:List Str)(cap:List Nat)(fp:List Addr)(s:Shared)(H:Hp):Cx where
 prog:=X.prog
 w:=X.w
 K:=X.K
 mg:=X.mg
 base:=X.base
 A:=X.A
 N:=T++cap.map fun i=>X.N.getD i Str.empty
 s₀:=s
 H₀:=H
 env:=compEnvC sc (clOf X.env sc) s.heap.objs.size X.env
 outer:=X.stack
 stack:=X.stack
 ex:=fp
 fn:=fun _=>false
 calm:=X.calm
 pn:=[]
 xe:=fun _ _=>False
structure COk (X:Cx)(sc:Scope)(cap:List Nat):Prop where
 kind:sc.kind=.function
 nocell:∀ y∈sc.names,y.2≠.cell
 loc:∀ y∈sc.names,y.2=.local→sc.names.lookup y.1=some .local
 free:∀ y∈sc.names,y.2=.free→X.env.kindOf y.1=some .cell∨X.env.kindOf y.1=some .free
 cap:∀ i∈cap,∃ x,X.N[i]?=some x∧sc.names.lookup x=some .free
def cChk (sc out:Scope)(N:List Str)(cap:List Nat):Bool :=
 sc.kind == .function && (sc.names.all fun y=>y.2 != .cell && (y.2 != .local || sc.names.lookup y.1 == some .local) && (y.2 != .free || (out.names.lookup y.1 == some .cell || out.names.lookup y.1 == some .free))) &&
  cap.all fun i=>match N[i]? with | some x=>sc.names.lookup x == some .free | none=>false
theorem COk.of {X:Cx}{sc out:Scope}{cap:List Nat}(ho:X.env.scope=out)(hN:X.N=N)(h:cChk sc out N cap=true):COk X sc cap:=by
 unfold cChk at h;rw [Bool.and_eq_true,Bool.and_eq_true,List.all_eq_true,List.all_eq_true] at h;obtain ⟨⟨h1,h2⟩,h3⟩:=h
 have h2':∀ y∈sc.names,y.2≠.cell∧(y.2=.local→sc.names.lookup y.1=some .local)∧(y.2=.free→out.names.lookup y.1=some .cell∨out.names.lookup y.1=some .free):=fun y hy=>by
  have q:=h2 y hy;rw [Bool.and_eq_true,Bool.and_eq_true] at q;obtain ⟨⟨q1,q2⟩,q3⟩:=q;refine ⟨by simpa using q1,fun e=>?_,fun e=>?_⟩
  ·rw [e] at q2
   simpa using q2
  ·rw [e] at q3
   simpa using q3
 refine ⟨by simpa using h1,fun y hy=>(h2' y hy).1,fun y hy=>(h2' y hy).2.1,fun y hy e=>?_,fun i hi=>?_⟩
 ·have q:=(h2' y hy).2.2 e
  rw [← ho] at q;exact q
 ·have q:=h3 i hi
  rw [hN]
  cases e:N[i]? with
  | none =>
   rw [e] at q;cases q
  | some x =>
   rw [e] at q;exact ⟨x,rfl,by simpa using q⟩
section
variable {X:Cx}{sc:Scope}{T:List Str}{cap:List Nat}{fp:List Addr}{pins:List (Addr×Obj)}{σ:L2.St}{H:Hp}{s:Shared}{h₁:Heap}{t':Nat}{m:Str→Option Value}
theorem COk.cells (O:COk X sc cap)(ok:X.Ok):∀ x∈sc.names,x.2=.free→∃ c,X.env.cells.lookup x.1=some c:=fun x hx e=>ok.has x.1 (O.free x hx e)
theorem COk.cl (O:COk X sc cap)(ok:X.Ok){c:Addr}(h:(clOf X.env sc).lookup x=some c):X.env.cells.lookup x=some c :=
 cl_all sc.names [] (O.cells ok) (fun p hp=>nomatch hp) (x,c) (PySem.mem_of_lookup h)
theorem COk.has (O:COk X sc cap)(h:sc.names.lookup x=some .free):∃ c,(clOf X.env sc).lookup x=some c:=by
 obtain ⟨c,hc⟩:=cl_mem (env:=X.env) sc.names [] x (PySem.mem_of_lookup h);exact qpc hc
theorem qiw (O:COk X sc cap)(I:Inv X pins σ H s)(hf:∀ b∈fp,FpOk X pins H b)(hfo:∀ b∈fp,∃ o,s.heap.get? b=some o)(hn:h₁.Ns s.heap.objs.size m)(keep:∀ b o,s.heap.get? b=some o→h₁.get? b=some o) :
  Inv (cxC X sc T cap fp s H) [] (List.replicate T.length none++cap.map fun i=>σ.getD i none) H { s with heap:=h₁,toks:=t' }:=by
 have cle:∀ x c,(clOf X.env sc).lookup x=some c→X.env.cells.lookup x=some c:=fun x c h=>O.cl I.ok h
 have fr:∀ x,(cxC X sc T cap fp s H).env.kindOf x=some .cell∨(cxC X sc T cap fp s H).env.kindOf x=some .free→sc.names.lookup x=some .free:=fun x h=>by
  rcases h with h | h
  ·rcases qh7 (env:=X.env) (names:=sc.names) (x:=x) h with q | q
   ·exact absurd rfl (O.nocell _ (PySem.mem_of_lookup q))
   ·exact q.1
  ·rcases qh7 (env:=X.env) (names:=sc.names) (x:=x) h with q | q
   ·exact q
   ·exact q.1
 refine ⟨⟨I.ok.mod,O.kind,I.ok.glob,I.ok.blt,Nat.le_refl _,fun x y c h1 h2=>I.ok.inj x y c (cle x c h1) (cle y c h2),fun x h=>O.has (fr x h),fun x c h=>absurd h Bool.false_ne_true,I.ok.hd,I.ok.frames,.inl rfl,
  fun b hb=>?_,I.bs,Nat.le_trans I.ok.bsz I.sz,fun b o e hb=>?_,fun b hb h=>?_,I.stack,I.stkFree⟩,rfl,I.bare,Un.kept keep,⟨m,hn,fun i x v e1 e2 e3=>?_⟩,fun x c e=>?_,I.hok.fresh (Nat.le_refl _),fun x c e=>I.freeC x c (cle x c e),
  fun p hp=>absurd hp (by simp [cxC]),I.hok.kept keep,?_⟩
 ·obtain ⟨o,ho⟩:=hfo b hb
  exact ⟨Nat.ne_of_lt (Heap.lt_size ho),fun x c e=>(hf b hb).2.2.2.2.1 x c (cle x c e)⟩
 ·rcases (hf b hb).2.2.2.1 with z | z
  ·exact I.ok.noex b o e z
  ·exact absurd (Nat.lt_of_lt_of_le (Heap.lt_size e) (Nat.le_trans I.ok.bsz z)) (Nat.lt_irrefl _)
 ·rcases List.mem_cons.mp (I.stkSub b h) with z | z
  ·exact (hf b hb).2.1 z
  ·exact (hf b hb).2.2.1 z
 ·have e1':(T++cap.map fun i=>X.N.getD i Str.empty)[i]?=some x:=e1
  by_cases hi:i<T.length
  ·rw [List.getElem?_append_left (by simpa using hi),List.getElem?_replicate] at e2
   split at e2 <;> cases e2
  ·rw [List.getElem?_append_right (by simpa using hi),List.length_replicate,List.getElem?_map] at e2
   rw [List.getElem?_append_right (by simpa using hi),List.getElem?_map] at e1'
   cases q:cap[i - T.length]? with
   | none=>rw [q] at e2; cases e2
   | some j =>
    rw [q] at e1' e2;obtain ⟨x',hx',hfr⟩:=O.cap j (List.mem_of_getElem? q)
    have ex:x'=x:=by
     have z:X.N.getD j Str.empty=x:=Option.some.inj e1';rw [List.getD_eq_getElem?_getD,hx'] at z;exact z
    subst ex
    have ev:σ[j]?=some (some v):=by
     have z:σ.getD j none=some v:=Option.some.inj e2;rw [List.getD_eq_getElem?_getD] at z
     cases q2:σ[j]? with
     | none=>rw [q2] at z; cases z
     | some y=>rw [q2] at z; exact congrArg some z
    have vis:=O.free (x',.free) (PySem.mem_of_lookup hfr) rfl;obtain ⟨m0,hn0,hl0⟩:=I.loc;obtain ⟨u,r,l⟩:=hl0 j x' v hx' ev (.inr vis);refine ⟨u,r,.inr ⟨qda (env:=X.env) hfr,?_⟩⟩;obtain ⟨c',hc'⟩:=O.has hfr
    rcases l with ⟨kk,_⟩ | ⟨_,c,ec,z⟩
    ·rcases vis with z | z
     ·rw [show X.env.kindOf x'=some .local from kk] at z; cases z
     ·rw [show X.env.kindOf x'=some .local from kk] at z; cases z
    ·have e:=cle x' c' hc'
     rw [ec] at e;cases e;obtain ⟨o,ho,hd⟩:=z;exact ⟨_,hc',o,keep _ o ho,hd⟩
 ·obtain ⟨v,o,ho,hd⟩:=I.cell x c (cle x c e)
  exact ⟨v,o,keep c o ho,hd⟩
 ·show _=(T++cap.map fun i=>X.N.getD i Str.empty).length
  simp
end
section
variable {prog:Program}{w:World}{A:Around}{R:Result→Shared→Prop}{s:Shared}
theorem qti {elt target iter:Expr}{ifs:List Expr}{scope:Scope}{pos:Pos}{it acc:Value}{env:Env}(I:Nat→Shared→Prop)
  (turn:∀ n s,I n s→wpAny (model prog w) A (pyNext it) (fun r s₁=>match r with
   | none=>R (.ok .next) s₁
   | some v=>wpAny (model prog w) A (letOwnedTupleGo target it v) (fun _ s₀=>wpAny (model prog w) A (assign target env v) (fun _ s₂ =>
     wpAny (model prog w) A (forIn ifs true fun c r=>if r=true then do let ok ← isTrue c env (eval c env); pure (ForInStep.yield ok) else pure (ForInStep.yield r)) (fun ok s₃ =>
      if ok=true then wpAny (model prog w) A (eval elt env) (fun x s₄=>wpAny (model prog w) A (call (.builtin "list.append") [acc,x]) (fun _ s₅=>∃ m,m<n∧I m s₅) (fun _ _=>False) s₄) (fun _ _=>False) s₃
      else ∃ m,m<n∧I m s₃) (fun _ _=>False) s₂) (fun _ _=>False) s₀) (fun _ _=>False) s₁) (fun _ _=>False) s)
  (n:Nat) (h:I n s):codeAny (model prog w) A (.compLoop (.ListComp elt [⟨target,iter,ifs,0⟩] scope pos) 0 it acc env) R s:=by
 refine codeAny_loop rfl I (fun n s hI=>?_) n h;show wpAny _ A ((compTurn (.ListComp elt [⟨target,iter,ifs,0⟩] scope pos) 0 it acc env).onRaise (fun x=>do noteFrame x env; theTreesLotGoes x)) _ _ s;refine wpAny_noted ?_;rw [compTurn_list];have nf:∀ {E:Value→Shared→Prop} (x:Value) (s:Shared),(fun _ _=>False:Value→Shared→Prop) x s→E x s:=fun _ _ z=>z.elim;refine wpAny_bind (wpAny_standAt (wpAny_bind (wpAny_mono (turn n s hI) (fun r s₁ h₁=>?_) nf)))
 cases r with
 | none=>exact wpAny_pure h₁
 | some v =>
  refine wpAny_bind (wpAny_mono h₁ (fun _ s₀ h₀=>wpAny_bind (wpAny_mono h₀ (fun _ s₂ h₂=>wpAny_bind (wpAny_mono h₂ (fun ok s₃ h₃=>?_) nf)) nf)) nf)
  cases ok with
  | false=>exact wpAny_pure ⟨rfl,h₃⟩
  | true=>exact wpAny_bind (wpAny_bind (wpAny_mono h₃ (fun x s₄ h₄=>wpAny_bind (wpAny_mono h₄ (fun _ s₅ h₅=>wpAny_pure (wpAny_pure ⟨rfl,h₅⟩)) nf)) nf))
end
def PIfs (X:Cx)(ifs:List Expr)(tc:TT):Prop:=∀ (pins:List (Addr×Obj)) (s:Shared) (σ:L2.St) (H:Hp) (Q:Bool→Hp→Prop),Inv X pins σ H s→tc σ H Q →
 wpAny (model X.prog X.w) X.A (forIn ifs true fun c r=>if r=true then do let ok ← isTrue c X.env (eval c X.env); pure (ForInStep.yield ok) else pure (ForInStep.yield r)) (TP X pins σ Q) X.xe s
def tYes:TT:=fun _ H Q=>Q true H
theorem ql4 {X:Cx}:PIfs X [] tYes:=fun _ _ _ H _ I h=>wpAny_tests_nil ⟨H,I,h⟩
theorem qzl {X:Cx}{c:Expr}{tc:TT}(hc:PT X c tc):PIfs X [c] tc:=fun pins s σ H Q I h=>wpAny_tests_one (hc pins s σ H Q I h)
def CompR (D:Addr)(J:It)(g:TG)(tc:TT)(te:TE)(σ:L2.St)(H:Hp)(Q:VK):Prop :=
 ∃ W:Nat→Nat→L2.St→Hp→Prop,(∃ m,W 0 m σ H)∧∀ i m σ H,W i m σ H →
  (J.stop i H∧Q (.ref D) H)∨(J.go i H∧∃ N:L2.St→Hp→Prop,(∀ σ' H',N σ' H'→∃ m',m'<m∧W (i+1) m' σ' H') ∧
   ∀ x H',J.yld i H x H'→g x σ H' fun σ2 H2=>tc σ2 H2 fun b H3=>if b=true then te σ2 H3 fun y H4=>∃ ys,H4 D=some (.lst ys)∧ys.length<sizeLine∧N σ2 (upd H4 D (.lst (ys++[y]))) else N σ2 H3)
def CmpR (nT:Nat)(cap:List Nat)(g:TG)(tc:TT)(te:TE)(J:It)(σ:L2.St)(H:Hp)(Q:VK):Prop :=
 ∀ D,H D=none→CompR D J g tc te (List.replicate nT none++cap.map fun i=>σ.getD i none) (upd H D (.lst [])) Q
def tComp (wi:TI)(nT:Nat)(cap:List Nat)(g:TG)(tc:TT)(te:TE):TE:=fun σ H Q=>wi σ H fun J H1=>CmpR nT cap g tc te J σ H1 Q
section
variable {X:Cx}{sc:Scope}{T:List Str}{cap:List Nat}{tg elt iter:Expr}{ifs:List Expr}{pos:Pos}{g:TG}{tc:TT}{te:TE}{wi:TI}
theorem qsi {pins:List (Addr×Obj)}{s₂:Shared}{σ:L2.St}{H2:Hp}{it:Addr}{fp:List Addr}{tn:Nat→Heap→Prop}{J:It}{Q:VK}{RR:Value→Addr→Result→Shared→Prop}{E:Value→Shared→Prop}
  (hc:X.calm=true) (O:COk X sc cap) (hg:∀ fp s H,PG (cxC X sc T cap fp s H) tg g) (hifs:∀ fp s H,PIfs (cxC X sc T cap fp s H) ifs tc) (helt:∀ fp s H,PE (cxC X sc T cap fp s H) elt te)
  (I2:Inv X pins σ H2 s₂) (Tn:Turn X.prog X.w X.K tg J fp it tn) (st2:tn 0 s₂.heap) (f2:∀ b∈fp,FpOk X pins H2 b) (h:CmpR T.length cap g tc te J σ H2 Q)
  (hRR:∀ D C s' H',Inv X pins σ H' s'→FpOk X pins H' C→(∃ m,s'.heap.Ns C m)→Q (.ref D) H'→RR (.ref D) C (.ok .next) s') :
  wpAny (model X.prog X.w) X.A (newList []) (fun acc s₃=>wpAny (model X.prog X.w) X.A (newFunctionEnv sc X.env.globals (clOf X.env sc) [] X.env.qual none .none (some X.env)) (fun cenv s₄ =>
   codeAny (model X.prog X.w) X.A (.compStart (.ListComp elt [⟨tg,iter,ifs,0⟩] sc pos) 0 (.ref it) acc { cenv with scope:=relabel sc X.env }) (RR acc cenv.locals) s₄) E s₃) E s₂:=by
 have I3:=I2.lnew (its:=[]) (ys:=[]) (t':=s₂.toks) .nil (Nat.zero_le _);have hD:H2 s₂.heap.objs.size=none:=I2.fresh;obtain ⟨W,⟨m0,w0⟩,turn⟩:=h _ hD;refine wpAny_newObj_type (wpAny_newFunctionEnv O.nocell (by intro y hy; simp at hy) (fun h₁ hns₁ hsb₁=>?_) O.kind)
 dsimp only at hns₁ hsb₁ ⊢
 generalize hs3:({ s₂ with heap:=s₂.heap.push { cls:=.type "list",data:=.seq ([]:List Value).toArray },toks:=s₂.toks }:Shared)=s3 at I3
 have eh:s₂.heap.push { cls:=.type "list",dict:=none,data:=.seq ([]:List Value).toArray }=s3.heap:=by rw [← hs3]
 have e3:s3.os=s₂.os:=by rw [← hs3]
 have keep2:∀ b o,s₂.heap.get? b=some o→s3.heap.get? b=some o:=fun b o e=>by rw [← eh]; exact Heap.get?_push_of_some _ e
 have keep:∀ b o,s3.heap.get? b=some o→h₁.get? b=some o:=fun b o e=>by
  rw [eh] at hsb₁;rw [hsb₁.2 b (Nat.ne_of_lt (Heap.lt_size e))];exact Heap.get?_push_of_some _ e
 have f3:∀ b∈fp,FpOk X pins (upd H2 s₂.heap.objs.size (.lst [])) b:=fun b hb=>by
  refine ⟨?_,(f2 b hb).2⟩;obtain ⟨o,ho,_⟩:=Tn.obj 0 _ st2 b hb;rw [qt (Nat.ne_of_lt (Heap.lt_size ho))];exact (f2 b hb).1
 have fo3:∀ b∈fp,∃ o,s3.heap.get? b=some o:=fun b hb=>by
  obtain ⟨o,ho,_⟩:=Tn.obj 0 _ st2 b hb;exact ⟨o,keep2 b o ho⟩
 have hns:h₁.Ns s3.heap.objs.size (fun x=>([]:List (Str×Value)).reverse.lookup x):=by rw [← eh]; exact hns₁
 have I4:=fun t'=>qiw (T:=T) (fp:=fp) (t':=t') O I3 f3 fo3 hns keep;have st4:tn 0 h₁:=Tn.keep 0 _ _ st2 fun b _ o e=>keep b o (keep2 b o e);generalize hX:cxC X sc T cap fp s3 (upd H2 s₂.heap.objs.size (.lst []))=X' at I4
 have ex:X'.ex=fp:=by rw [← hX]; rfl
 have stat:∀ {H':Hp},(∀ b∈fp,H' b=none)→∀ b∈fp,FpOk X' [] H' b:=fun hn b hb=>by
  have ok:=(I4 0).ok;have q:=ok.exf b (by rw [ex]; exact hb);refine ⟨hn b hb,q.1,ok.exfs b (by rw [ex]; exact hb),.inl (by rw [ex]; exact hb),q.2,fun p hp=>?_⟩;subst hX;exact absurd hp (by simp [cxC])
 have nf:∀ {E:Value→Shared→Prop} (x:Value) (s:Shared),X'.xe x s→E x s:=fun x s z=>by
  subst hX;exact False.elim z
 have loop:∀ s4:Shared,(∃ t',s4={ s3 with heap:=h₁,toks:=t' })→codeAny (model X.prog X.w) X.A (.compLoop (.ListComp elt [⟨tg,iter,ifs,0⟩] sc pos) 0 (.ref it) (.ref s₂.heap.objs.size) (compEnvC sc (clOf X.env sc) s3.heap.objs.size X.env))
   (RR (.ref s₂.heap.objs.size) s3.heap.objs.size) s4:=by
  rintro s4 ⟨t',rfl⟩
  refine qti (fun n s'=>∃ i σ' H',Inv X' [] σ' H' s'∧tn i s'.heap∧(∀ b∈fp,H' b=none)∧W i n σ' H') ?_ m0 ⟨0,_,_,I4 t',st4,fun b hb=>(f3 b hb).1,w0⟩
  rintro n s5 ⟨i,σ5,H5,I5,st5,fr5,w5⟩
  rcases turn i n σ5 H5 w5 with ⟨stop,qn⟩ | ⟨go,N,hN,step⟩
  ·have ep:X'.prog=X.prog:=by rw [← hX]; rfl
   have ew:X'.w=X.w:=by rw [← hX]; rfl
   have eK:X'.K=X.K:=by rw [← hX]; rfl
   have ec:X'.calm=true:=by rw [← hX]; exact hc
   have eA:X'.A=X.A:=by rw [← hX]; rfl
   have d:=Tn.done X' ep ew eK ec i [] s5 σ5 H5 (fun _ _=>False) I5 (stat fr5) st5 stop;rw [eA] at d;refine thn d fun r s6 ⟨hr,I6⟩=>?_;subst hr
   have un:=(Un.laid (fs:=frs X.stack) (ex:=fp) (o:=.lst []) keep2 (Nat.le_refl _) hD).trans (by
    have b:=I6.base;subst hX
    exact b:Un (frs X.stack) fp (upd H2 s₂.heap.objs.size (.lst [])) H5 s3.heap s6.heap)
   have os6:s6.os=s₂.os:=by
    have q:=I6.os;subst hX;exact q.trans e3
   have hok:HOk X.prog X.w H5 s6.heap:=by
    have q:=I6.hok;rw [ep,ew] at q;exact q
   have J1:Inv X pins σ H5 s6:=I2.call' os6 un hok I6.bare fun b hb=>⟨(f2 b hb).2.2.2.1,(f2 b hb).2.1,(f2 b hb).2.2.2.2.1,(f2 b hb).2.2.2.2.2⟩
   have eL:X'.env.locals=s3.heap.objs.size:=by rw [← hX]; rfl
   have sz:s₂.heap.objs.size≤s3.heap.objs.size:=by rw [← eh,Heap.size_push]; exact Nat.le_succ _
   refine hRR _ _ s6 H5 J1 (I2.fpOk sz ?_) ?_ qn
   ·rw [← eL]; exact I6.free
   ·obtain ⟨m6,hm6,_⟩:=I6.loc
    rw [eL] at hm6;exact ⟨m6,hm6⟩
  ·have ep:X'.prog=X.prog:=by rw [← hX]; rfl
   have ew:X'.w=X.w:=by rw [← hX]; rfl
   have eK:X'.K=X.K:=by rw [← hX]; rfl
   have ec:X'.calm=true:=by rw [← hX]; exact hc
   have d:=Tn.item X' ep ew eK ec i [] s5 σ5 H5 (fun _ _=>False) I5 (stat fr5) st5 go;subst hX;refine thn d fun r s6 ⟨u,hr,h6⟩=>?_;subst hr;refine thn h6 fun _ s7 ⟨x,H7,I7,r7,y7,st7,fr7⟩=>?_;have I7':=I7.pinned (stat fr7) (Tn.obj _ _ st7);refine wpAny_mono (hg _ _ _ _ s7 σ5 H7 x u _ I7' r7 (step x H7 y7)) (fun _ s8 ⟨σ8,H8,I8,q8⟩=>?_) nf;refine wpAny_mono (hifs _ _ _ _ s8 σ8 H8 _ I8 q8) (fun b s9 ⟨H9,I9,q9⟩=>?_) nf;have again:∀ {s':Shared} {σ':L2.St} {H':Hp},Inv (cxC X sc T cap fp s3 (upd H2 s₂.heap.objs.size (.lst []))) ([]++quh fp s7.heap) σ' H' s'→N σ' H' →
     ∃ m,m<n∧∃ i σ' H',Inv (cxC X sc T cap fp s3 (upd H2 s₂.heap.objs.size (.lst []))) [] σ' H' s'∧tn i s'.heap∧(∀ b∈fp,H' b=none)∧W i m σ' H':=fun {s' σ' H'} Ia na=>by
    obtain ⟨m',hm,w'⟩:=hN σ' H' na;refine ⟨m',hm,i+1,σ',H',Ia.unpinned,Tn.keep _ _ _ st7 fun b hb o e=>(Ia.pin (b,o) (List.mem_append_right _ (List.mem_append_right _ (qa8 hb e)))).1,fun b hb=>?_,w'⟩;obtain ⟨o,e,_⟩:=Tn.obj _ _ st7 b hb;exact (Ia.pin (b,o) (List.mem_append_right _ (List.mem_append_right _ (qa8 hb e)))).2.1
   cases b with
   | false =>
    rw [if_neg Bool.false_ne_true] at q9 ⊢;exact again I9 q9
   | true =>
    rw [if_pos rfl] at q9 ⊢;refine wpAny_mono (helt _ _ _ _ s9 σ8 H9 _ I9 q9) (fun y s10 ⟨yv,H10,I10,ry,ys,hl,hz,n10⟩=>?_) nf;refine wpAny_mono (qr1 (X:=cxC X sc T cap fp s3 (upd H2 s₂.heap.objs.size (.lst []))) _ s10 σ8 H10 (.ref s₂.heap.objs.size) [yv] (.ref s₂.heap.objs.size) [y] (fun _ H'=>N σ8 H') I10 rfl (.cons ry .nil) ⟨_,ys,yv,rfl,rfl,hl,hz,n10⟩)
     (fun _ s11 ⟨_,H11,I11,_,n11⟩=>again I11 n11) nf
 subst hs3;exact codeAny_compStart_list (loop _ ⟨_,rfl⟩) (Tn.self X.A 0 _ _ _ st4 (loop _ ⟨_,rfl⟩))
theorem qa6 (hc:X.calm=true)(O:COk X sc cap)(hi:PI X tg iter wi)(hg:∀ fp s H,PG (cxC X sc T cap fp s H) tg g)(hifs:∀ fp s H,PIfs (cxC X sc T cap fp s H) ifs tc)(helt:∀ fp s H,PE (cxC X sc T cap fp s H) elt te)
  (hs:∀ x,foldedSetIterable iter X.env x=pure x:=by intro _; rfl):PE X (.ListComp elt [⟨tg,iter,ifs,0⟩] sc pos) (tComp wi T.length cap g tc te):=by
 intro pins s σ H Q I h;rw [eval_ListComp];refine wpAny_comprehension_free (use:=none) rfl hs (qje (O.cells I.ok)) O.kind O.loc (wpAny_mono (hi pins s σ H _ I h) (fun v s1 h1=>wpAny_mono h1 (fun itv s2 h2=>?_) fun _ _ e=>e) fun _ _ e=>e);obtain ⟨it,fp,tn,J,H2,e,I2,Tn,st2,f2,R⟩:=h2;subst e;refine qsi (RR:=fun acc C=>compPost (model X.prog X.w) X.A X.xe none (EP X pins σ Q) acc C) hc O hg hifs helt I2 Tn st2 f2 R fun D C s' H' I' f' hm q=>?_;obtain ⟨m,hm⟩:=hm;refine ⟨m,hm,fun h' hs'=>⟨.ref D,H',?_,rfl,q⟩⟩;exact I'.turned (t':=s'.toks) (fun b o hb e=>(hs'.2 b hb).trans e) f'.1 f'.2.1 f'.2.2.2.1 f'.2.2.2.2.1 f'.2.2.2.2.2
def qpl (i:Nat)(te:TE):TS:=fun D σ H=>te σ H fun x H1=>D.nx (σ.set i (some x)) H1
theorem qo9 {i:Nat}{x:Str}{px spos:Pos}(hc:X.calm=true)(O:COk X sc cap)(hN:X.N.Nodup)(hix:X.N[i]?=some x)(hx:Loc X.env.scope x)(hi:PI X tg iter wi)(hg:∀ fp s H,PG (cxC X sc T cap fp s H) tg g)(hifs:∀ fp s H,PIfs (cxC X sc T cap fp s H) ifs tc)
  (helt:∀ fp s H,PE (cxC X sc T cap fp s H) elt te) (hsw:swapsWith (.ListComp elt [⟨tg,iter,ifs,0⟩] sc pos) (some (.Name x px)) spos.line X.env=pure true:=by rfl)
  (hf:X.fn x=true∨X.env.scope.names.lookup x=some .local:=by first | exact .inl rfl | exact .inr rfl | assumption)
  (hs:∀ x,foldedSetIterable iter X.env x=pure x:=by intro _; rfl):PS X (.Assign [.Name x px] (.ListComp elt [⟨tg,iter,ifs,0⟩] sc pos) spos) (qpl i (tComp wi T.length cap g tc te)):=by
 intro pins s σ H D I h;rw [exec_Assign_Name_used _ _ _ _ hsw];refine wpAny_bind (wpAny_standAt (wpAny_bind ?_));show wpAny _ X.A (do let _ ← comprehension (.ListComp elt [⟨tg,iter,ifs,0⟩] sc pos) sc X.env _ (newList []) false (eval iter X.env) (some (assign (.Name x px) X.env))) _ _ s
 refine wpAny_bind (wpAny_mono (wpAny_comprehension_free (use:=some (assign (.Name x px) X.env)) (Q:=fun _ s'=>SP X pins D .next s') rfl hs (qje (O.cells I.ok)) O.kind O.loc
  (wpAny_mono (hi pins s σ H _ I h) (fun v s1 h1=>wpAny_mono h1 (fun itv s2 h2=>?_) fun _ _ e=>e) fun _ _ e=>e)) (fun _ s' hq=>wpAny_pure (wpAny_pure hq)) fun _ _ e=>e)
 obtain ⟨it,fp,tn,J,H2,e,I2,Tn,st2,f2,R⟩:=h2;subst e;refine qsi (RR:=fun acc C=>compPost (model X.prog X.w) X.A X.xe (some (assign (.Name x px) X.env)) (fun _ s'=>SP X pins D .next s') acc C) hc O hg hifs helt I2 Tn st2 f2 R fun Dl C s' H' I' f' hm q=>?_;obtain ⟨m,hm⟩:=hm;show wpAny _ X.A (assign (.Name x px) X.env (.ref Dl)) _ _ s';refine wpAny_assign_Name (qvg (v:=.ref Dl) I' hN hix hx rfl (fun s'' I'' hsb=>?_) hf);obtain ⟨a,hsb,ha⟩:=hsb
 have hCa:C≠a:=by
  rcases ha with z | z
  ·rw [z]; exact f'.2.1
  ·exact fun e=>f'.2.2.2.2.1 x a z e.symm
 refine ⟨m,hm.sameBut hsb hCa,fun h' hs'=>⟨_,H',?_,q⟩⟩;exact I''.turned (t':=s''.toks) (fun b o hb e=>(hs'.2 b hb).trans e) f'.1 f'.2.1 f'.2.2.2.1 f'.2.2.2.2.1 f'.2.2.2.2.2
end
structure ItOf (J:It)(xs:List V)(Ok:Hp→Prop):Prop where
 go:∀ i H,Ok H→i<xs.length→J.go i H
 yld:∀ i H x H',Ok H→i<xs.length→J.yld i H x H'→H'=H∧xs[i]?=some x
 stop:∀ i H,Ok H→xs.length≤i→J.stop i H
theorem itl :ItOf (Itl K a) xs (fun H=>SqL K H a xs) :=
 ⟨fun i _ h l=>⟨xs,xs[i],h,List.getElem?_eq_getElem l⟩,fun _ _ _ _ h _ y=>⟨y.1,y.2 xs h⟩,fun _ _ h l=>⟨xs,h,l⟩⟩
theorem itt :ItOf (Itt K a) xs (fun H=>SqT K H a xs) :=
 ⟨fun i _ h l=>⟨xs,xs[i],h,List.getElem?_eq_getElem l⟩,fun _ _ _ _ h _ y=>⟨y.1,y.2 xs h⟩,fun _ _ h l=>⟨xs,h,l⟩⟩
def rngV (lo:Int)(n:Nat):List V:=(List.range n).map fun (i:Nat)=>V.int (lo+(i:Int))
theorem qq6 (lo:Int)(n:Nat):(rngV lo n).length=n:=by unfold rngV; rw [List.length_map,List.length_range]
theorem qvl {i:Nat}(h:i<n):(rngV lo n)[i]?=some (.int (lo+(i:Int))):=by
 unfold rngV;rw [List.getElem?_map,List.getElem?_range h];rfl
theorem itr :ItOf (Itr lo n) (rngV lo n) (fun _=>True) where
 go:=fun i H _ l=>by
  rw [qq6] at l;exact l
 yld:=fun i H x H' _ l y=>by
  rw [qq6] at l;refine ⟨y.1,?_⟩;rw [qvl l,y.2]
 stop:=fun i H _ l=>by
  rw [qq6] at l;exact l
theorem CmpR.map {cap:List Nat}{te:TE}{J:It}{σ:L2.St}{H:Hp}{Q:VK}{xs:List V}{Ok:Hp→Prop}(f:V→V)(it:ItOf J xs Ok)(hz:xs.length≤1000)(ok:∀ D ys,H D=none→Ok (upd H D (.lst ys)))
  (hs:∀ D x ys (Q':VK),H D=none→x∈xs→Q' (f x) (upd H D (.lst ys))→te (some x::cap.map fun i=>σ.getD i none) (upd H D (.lst ys)) Q')
  (hd:∀ D,H D=none→Q (.ref D) (upd H D (.lst (xs.map f)))):CmpR 1 cap (qb4 0) tYes te J σ H Q:=by
 intro D hD;refine ⟨fun i m σ' H'=>m=xs.length - i∧i≤xs.length∧∃ t,σ'=t::(cap.map fun i=>σ.getD i none)∧H'=upd H D (.lst ((xs.take i).map f)),⟨_,rfl,Nat.zero_le _,none,rfl,rfl⟩,fun i m σ' H' hw=>?_⟩;obtain ⟨rfl,hi,t,rfl,rfl⟩:=hw
 by_cases lt:i<xs.length
 ·refine .inr ⟨it.go i _ (ok D _ hD) lt,fun σ2 H2=>∃ t,σ2=t::(cap.map fun i=>σ.getD i none)∧H2=upd H D (.lst ((xs.take (i+1)).map f)),fun σ2 H2 n2=>⟨_,?_,rfl,lt,n2⟩,fun x H2 y=>?_⟩
  ·omega
  ·obtain ⟨rfl,hx⟩:=it.yld i _ x H2 (ok D _ hD) lt y
   show te (some x::(cap.map fun i=>σ.getD i none)) _ _;refine hs D x _ _ hD (List.mem_of_getElem? hx) ⟨_,qb0,?_,_,rfl,?_⟩
   ·rw [List.length_map,List.length_take]
    exact qg2 (by omega)
   ·rw [qz6,List.take_add_one,hx,List.map_append]
    rfl
 ·obtain rfl:i=xs.length:=by omega
  refine .inl ⟨it.stop _ _ (ok D _ hD) (Nat.le_refl _),?_⟩;rw [List.take_length];exact hd D hD
theorem CmpR.mapS {cap:List Nat}{te:TE}{J:It}{σ:L2.St}{H:Hp}{Q:VK}{xs:List V}{Ok:Hp→Prop}(f:V→V)(it:ItOf J xs Ok)(hz:xs.length≤1000)(ok:∀ H',Same H H'→Ok H')
  (hs:∀ x H' (Q':VK),x∈xs→Same H H'→(∀ H2,Same H' H2→Q' (f x) H2)→te (some x::cap.map fun i=>σ.getD i none) H' Q')
  (hd:∀ D H',H D=none→Same H H'→H' D=some (.lst (xs.map f))→Q (.ref D) H'):CmpR 1 cap (qb4 0) tYes te J σ H Q:=by
 intro D hD
 have keep:∀ {H':Hp} {o:HO},Same H H'→Same H (upd H' D o):=fun sm b o e=>by
  rw [qt (qz e hD)];exact sm b o e
 refine ⟨fun i m σ' H'=>m=xs.length - i∧i≤xs.length∧∃ t,σ'=t::(cap.map fun i=>σ.getD i none)∧Same H H'∧H' D=some (.lst ((xs.take i).map f)),⟨_,rfl,Nat.zero_le _,none,rfl,keep (Same.refl _),qb0⟩,fun i m σ' H' hw=>?_⟩;obtain ⟨rfl,hi,t,rfl,sm,hl⟩:=hw
 by_cases lt:i<xs.length
 ·refine .inr ⟨it.go i _ (ok _ sm) lt,fun σ2 H2=>∃ t,σ2=t::(cap.map fun i=>σ.getD i none)∧Same H H2∧H2 D=some (.lst ((xs.take (i+1)).map f)),fun σ2 H2 n2=>⟨_,?_,rfl,lt,n2⟩,fun x H2 y=>?_⟩
  ·omega
  ·obtain ⟨rfl,hx⟩:=it.yld i _ x H2 (ok _ sm) lt y
   show te (some x::(cap.map fun i=>σ.getD i none)) _ _;refine hs x H2 _ (List.mem_of_getElem? hx) sm fun H3 s3=>⟨_,s3 _ _ hl,?_,_,rfl,keep (sm.trans s3),?_⟩
   ·rw [List.length_map,List.length_take]
    exact qg2 (by omega)
   ·rw [qb0,List.take_add_one,hx,List.map_append]
    rfl
 ·obtain rfl:i=xs.length:=by omega
  refine .inl ⟨it.stop _ _ (ok _ sm) (Nat.le_refl _),?_⟩;rw [List.take_length] at hl;exact hd D H' hD sm hl
section
variable {wi:TI}{nT:Nat}{cap:List Nat}{g:TG}{tc:TT}{te:TE}{σ:L2.St}{H:Hp}{Q:VK}{D:Ends}{i:Nat}{Qb:Bool→Hp→Prop}
theorem comp_:tComp wi nT cap g tc te σ H Q=wi σ H fun J H1=>CmpR nT cap g tc te J σ H1 Q:=rfl
theorem setComp_:qpl i te D σ H=te σ H fun x H1=>D.nx (σ.set i (some x)) H1:=rfl
theorem yes_:tYes σ H Qb=Qb true H:=rfl
end
theorem gsub_ {to ti:TE}{t:TSet}{σ:L2.St}{H:Hp}{R:L2.St→Hp→Prop}:gSub to ti t v σ H R=to σ H fun o H1=>ti σ H1 fun i H2=>t o i v H2 fun H3=>R σ H3:=rfl
theorem qzp {p:Addr}{i:Nat}{H:Hp}{Q:Hp→Prop}(h:H p=some (.lst xs))(hi:i<xs.length)(q:Q (upd H p (.lst (xs.set i v)))):rSetL (.ref p) (.int (i:Int)) v H Q:=by
 refine ⟨p,xs,i,i,rfl,rfl,h,?_,q⟩;unfold ixN;rw [if_pos (by omega),if_pos (by omega)];simp
def ItR (K:W.Frag)(x:V)(H:Hp)(R:It→Hp→Prop):Prop:=∃ a,x=.ref a∧(∃ xs,SqT K H a xs)∧R (Itt K a) H
theorem itup_ {te:TE}{σ:L2.St}{H:Hp}{R:It→Hp→Prop}:iTup K te σ H R=te σ H fun x H1=>ItR K x H1 R:=rfl
theorem ItR.go {H:Hp}{R:It→Hp→Prop}(h:SqT K H a xs)(q:R (Itt K a) H):ItR K (.ref a) H R:=⟨a,rfl,⟨xs,h⟩,q⟩
theorem ForR.items {J:It}{xs:List V}{Ok:Hp→Prop}{g:TG}{tb:TS}{D:Ends}{σ:L2.St}{H:Hp}(it:ItOf J xs Ok)(Pv:Nat→L2.St→Hp→Prop)(h0:Pv 0 σ H)(hok:∀ i σ H,Pv i σ H→Ok H)
  (hs:∀ i x σ H,xs[i]?=some x→Pv i σ H→g x σ H fun σ2 H2=>tb { D with nx:=Pv (i+1),ct:=Pv (i+1),bk:=D.nx } σ2 H2) (hd:∀ σ H,Pv xs.length σ H→D.nx σ H):ForR J g tb D σ H:=by
 refine ⟨fun i m σ H=>m=xs.length - i∧i≤xs.length∧Pv i σ H,⟨_,rfl,Nat.zero_le _,h0⟩,fun i m σ H hw=>?_⟩;obtain ⟨rfl,hi,p⟩:=hw
 by_cases lt:i<xs.length
 ·refine .inr ⟨it.go i H (hok i σ H p) lt,Pv (i+1),fun σ' H' p'=>⟨_,?_,rfl,lt,p'⟩,fun x H' y=>?_⟩
  ·omega
  ·obtain ⟨rfl,hx⟩:=it.yld i H x H' (hok i σ H p) lt y
   exact hs i x σ H' hx p
 ·obtain rfl:i=xs.length:=by omega
  exact .inl ⟨it.stop _ _ (hok _ _ _ p) (Nat.le_refl _),hd σ H p⟩
def Itc (z:Str):It:=⟨fun i _=>i<z.cps.size,fun i H x H'=>H'=H∧∃ c,z.cps[i]?=some c∧x=.str ⟨#[c]⟩,fun i _=>z.cps.size≤i⟩
def IsR (x:V)(H:Hp)(R:It→Hp→Prop):Prop:=∃ z,x=.str z∧R (Itc z) H
theorem IsR.go {z:Str}{H:Hp}{R:It→Hp→Prop}(q:R (Itc z) H):IsR (.str z) H R:=⟨z,rfl,q⟩
def cval:Expr→Option V
 | .Constant (.str x) _ _=>some (.str x)
 | .Constant (.int i) _ _=>some (.int i)
 | .Constant (.bool b) _ _=>some (.bl b)
 | .Constant .none _ _=>some .non
 | _=>none
def qvw:List Expr→Option (List V)
 | []=>some []
 | e::es=>(cval e).bind fun v=>(qvw es).map fun vs=>v::vs
def tVals (vs:List V):TA:=fun _ H Q=>Q vs H
theorem vals_ {vs:List V}{σ:L2.St}{H:Hp}{Q:List V→Hp→Prop}:tVals vs σ H Q=Q vs H:=rfl
theorem qww (h:cval e=some v):∃ c a b,e=.Constant c a b∧((∃ x,c=.str x∧v=.str x)∨(∃ x,c=.int x∧v=.int x)∨(∃ x,c=.bool x∧v=.bl x)∨(c=.none∧v=.non)):=by
 unfold cval at h
 split at h
 ·cases h; exact ⟨_,_,_,rfl,.inl ⟨_,rfl,rfl⟩⟩
 ·cases h; exact ⟨_,_,_,rfl,.inr (.inl ⟨_,rfl,rfl⟩)⟩
 ·cases h; exact ⟨_,_,_,rfl,.inr (.inr (.inl ⟨_,rfl,rfl⟩))⟩
 ·cases h; exact ⟨_,_,_,rfl,.inr (.inr (.inr ⟨rfl,rfl⟩))⟩
 ·cases h
theorem pe_cval {X:Cx}(h:cval e=some v):PE X e (tC v)∧∀ es,starEach (e::es) X.env=(false,eval e X.env)::starEach es X.env:=by
 obtain ⟨c,a,b,rfl,⟨x,rfl,rfl⟩ | ⟨x,rfl,rfl⟩ | ⟨x,rfl,rfl⟩ | ⟨rfl,rfl⟩⟩:=qww h
 ·exact ⟨qq1,fun _=>rfl⟩
 ·exact ⟨qf,fun _=>rfl⟩
 ·exact ⟨qf9,fun _=>rfl⟩
 ·exact ⟨qw5,fun _=>rfl⟩
theorem qyh {X:Cx}:∀ {es:List Expr} {vs:List V},qvw es=some vs→PA X es (tVals vs)
 | [],vs,h=>by
  cases h;exact qd
 | e::es,vs,h=>by
  unfold qvw at h
  cases h1:cval e with
  | none=>rw [h1] at h; cases h
  | some v =>
   cases h2:qvw es with
   | none=>rw [h1,h2] at h; cases h
   | some ws =>
    rw [h1,h2] at h;obtain rfl:vs=v::ws:=(Option.some.inj h).symm;obtain ⟨p1,p2⟩:=pe_cval (X:=X) h1;exact qa p1 (qyh h2) (p2 es)
end Sv
namespace Sv
open PySem PySem.Spec PyProof.Rows L2
open PySem.Builtin PySem.Builtin.Str
variable {H:Hp}{K:W.Frag}{Q:VK}
section
variable {X:Cx}
def AddS:R2:=fun x y H Q=>∃ i j,x=.str i∧y=.str j∧i.length+j.length≤sizeLine∧Q (.str (i++j)) H
theorem qhr:OpR X (binaryOp .Add) AddS:=qsn
theorem qvt {i j:Str}(h:i.length+j.length≤1000000)(q:Q (.str (i++j)) H):AddS (.str i) (.str j) H Q:=⟨i,j,rfl,rfl,Nat.le_trans h (by decide),q⟩
def qrf (K:W.Frag):R2:=fun x y H Q=>∃ l b xs zs,x=.ref l∧y=.ref b∧SqL K H l xs∧SqL K H b zs∧xs.length+zs.length≤sizeLine∧∀ p,H p=none→Q (.ref p) (upd H p (.lst (xs++zs)))
theorem qv2:OpR X (binaryOp .Add) (qrf X.K):=by
 intro pins s σ H x y v u Q I rx ry h;obtain ⟨l,b,xs,zs,rfl,rfl,h1,h2,hz,q⟩:=h;cases rx;cases ry;obtain ⟨its,r,p,_⟩:=I.list h1;obtain ⟨its2,r2,p2,_⟩:=I.list h2;obtain ⟨⟨c,d,dt,sl⟩,n,e,hc,hd,hdt⟩:=p;obtain ⟨⟨c2,d2,dt2,sl2⟩,n2,e2,hc2,hd2,hdt2⟩:=p2;simp only at hc hd hdt hc2 hd2 hdt2;subst hc hd hdt hc2 hd2 hdt2;have l1:=r.length;have l2:=r2.length;refine concat_meets ⟨_,e,rfl⟩ ⟨_,e2,rfl⟩ noFill_list_add seq_list_add PySem.F.slot_list_add PySem.F.entry_list_add (PySem.F.args_list_add_2 _ _) (list_addW l b its.toArray its2.toArray n n2 none none sl sl2 (by rw [List.size_toArray,List.size_toArray]; omega)) ⟨e,e2,?_⟩
 have ea:its.toArray++its2.toArray=(its++its2).toArray:=by simp
 rw [ea];exact ⟨.ref _,_,I.lnew (t':=s.toks) (r.append r2) (by rw [List.length_append]; omega),rfl,q _ I.fresh⟩
theorem qe5 {l b:Addr}{xs zs:List V}(h1:SqL K H l xs)(h2:SqL K H b zs)(hz:xs.length+zs.length≤1000000)(q:∀ p,H p=none→Q (.ref p) (upd H p (.lst (xs++zs)))):qrf K (.ref l) (.ref b) H Q :=
 ⟨l,b,xs,zs,rfl,rfl,h1,h2,Nat.le_trans hz (by decide),q⟩
end
theorem qwm (x y:Str):(x++y).cps.toList=x.cps.toList++y.cps.toList:=by
 show (x.cps++y.cps).toList=_;rw [Array.toList_append]
end Sv
namespace Sv
open PySem PySem.Spec PyProof.Rows L2
variable {vs:Array Value}
def Chn:List (Addr×Obj)→Value→Prop
 | [],v=>v=.none
 | p::l,v=>v=.ref p.1∧∃ (ws:Array Value) (c:Value),p.2.data=.fields ws∧ws[2]?=some c∧Chn l c
def Ctx2 (B:Heap)(U:Addr→Prop)(vs:Array Value):Prop:=∃ (c:Value) (l:List (Addr×Obj)),vs[2]?=some c∧Chn l c∧∀ p∈l,B.get? p.1=some p.2∧U p.1
theorem Ctx2.no {B:Heap}{U:Addr→Prop}(h:vs[2]?=some .none):Ctx2 B U vs:=⟨_,[],h,rfl,fun _ z=>nomatch z⟩
theorem Ctx2.set {B:Heap}{U:Addr→Prop}{x:Value}(h:Ctx2 B U vs):Ctx2 B U (vs.setIfInBounds 1 x):=by
 obtain ⟨c,l,h1,r⟩:=h;exact ⟨c,l,by rw [Array.getElem?_setIfInBounds_ne (by decide)]; exact h1,r⟩
section
variable {M:Model}{A:Around}{E:Value→Shared→Prop}{s:Shared}{B:Heap}{U:Addr→Prop}{env:Env}{outer:List Env}{L e:Addr}{cls:Value}{dd:Option Addr}{Q:Unit→Shared→Prop}
end
end Sv
namespace Sv
open PySem PySem.Spec PyProof.Rows L2
variable {K:W.Frag}{P:Program}{h:Heap}
theorem qqr {w:World}{H:Hp}{a:Addr}{o:HO}(x:ObjOk P w H h a o):∃ ob,h.get? a=some ob:=by
 cases o with
 | lst xs=>obtain ⟨_,_,_,_,e⟩:=x; exact ⟨_,e⟩
 | tup xs=>obtain ⟨_,_,_,ob,e,_⟩:=x; exact ⟨ob,e⟩
 | dK kvs=>obtain ⟨_,_,_,_,ob,_,_,e,_⟩:=x; exact ⟨ob,e⟩
 | dT kvs=>obtain ⟨_,_,_,_,ob,_,_,e,_⟩:=x; exact ⟨ob,e⟩
 | set S n=>obtain ⟨ob,_,_,_,e,_⟩:=x; exact ⟨ob,e⟩
 | ins C dx fs=>obtain ⟨_,_,_,e,_⟩:=x; exact ⟨_,e⟩
 | own y=>exact x
 | xd fs=>obtain ⟨_,⟨ob,_,_,e,_⟩,_⟩:=x; exact ⟨ob,e⟩
 | rng lo hi=>obtain ⟨_,_,_,e⟩:=x; exact ⟨_,e⟩
 | frz ob u=>exact ⟨ob,x.1⟩
 | tbl ps=>exact ⟨_,x⟩
 | met f y=>exact ⟨_,x⟩
 | ext φ=>exact x.2.1
structure DefCx (X:Cx):Prop where
 stk:X.stack=X.env::X.outer
 frm:X.env.frame=some X.env.locals
 ex:X.ex=[]
section
variable {X:Cx}{E:XK}{pins:List (Addr×Obj)}{σ:L2.St}{H:Hp}{s s':Shared}{h' B:Heap}
end
structure ExcC (K:W.Frag)(mg:Str→Option Value)(x:Str)(C:Addr):Prop where
 mg:mg x=some (.ref C)
 own:∃ (Bn newId initId:String) (bm:List Value),ExcBaseFacts Bn newId initId bm∧PySem.W.excIn K C bm newId=true
theorem ExcC.cls {mg:Str→Option Value}{x:Str}{C:Addr}(O:ExcC K mg x C)(kin:K.In h):∃ (Bn newId initId:String) (bm:List Value),ExcBaseFacts Bn newId initId bm∧OwnCls x C bm newId mg h:=by
 obtain ⟨Bn,newId,initId,bm,F,q⟩:=O.own;refine ⟨Bn,newId,initId,bm,F,O.mg,?_⟩;unfold PySem.W.excIn at q
 split at q
 ·rename_i dd cd sl ho
  split at q
  ·rename_i C' tl k0 k1 k2 k3 n k5 hm hs
   simp only [Bool.and_eq_true,beq_iff_eq,Bool.not_eq_true'] at q;obtain ⟨⟨⟨⟨⟨rfl,rfl⟩,hdel⟩,ht⟩,hok⟩,hni⟩:=q;obtain ⟨nm,bs,mro,ns,qn,hd,sn,sub,ab,col,del⟩:=cd
   dsimp only at hm hdel hok hni
   subst hm hdel
   have hsl:sl=#[k0,k1,k2,k3,some (.builtin n),k5]:=by
    obtain ⟨l⟩:=sl;simp only at hs;rw [hs]
   subst hsl;exact ⟨tl,ns,nm,qn,bs,hd,sn,sub,ab,col,dd,k0,k1,k2,k3,k5,_,kin _ _ ho,.of_isNs (PySem.W.isNs_of_in kin hok),PySem.W.nsMap_none_of_in kin hok hni,PySem.W.tail_of_in kin ht⟩
  ·cases q
 ·cases q
end Sv
namespace Sv
open PySem PySem.Spec PyProof.Rows L2
variable {H1:Hp}{Q:VK}{acc y:Str}{r:List TE}
def cxP (X:Cx)(pn:List (Addr×Obj)):Cx:={ X with pn:=pn }
section
variable {X:Cx}{pins pn:List (Addr×Obj)}{σ:L2.St}{H:Hp}{s s':Shared}{xa:Addr}{D:Ends}{f:Flow}
end
def excO (xa:Addr)(cls:Value)(dd:Option Addr):HO:=.ext fun h=>∃ (vs:Array Value) (sl:Array (Option Value)),h.get? xa=some ⟨cls,dd,.fields vs,sl⟩
abbrev RX:=Value→Option Addr→L2.St→Hp→Prop
section
variable {X:Cx}{pins:List (Addr×Obj)}{σ:L2.St}{H:Hp}{s s':Shared}{Rr:RX}
theorem DefCx.p {pn:List (Addr×Obj)}(d:DefCx X):DefCx (cxP X pn):=⟨d.stk,d.frm,d.ex⟩
end
def asEnds (i:Nat)(D:Ends):Ends:={ nx:=fun σ H=>D.nx (σ.set i none) H,rt:=D.rt,bk:=fun σ H=>D.bk (σ.set i none) H,ct:=fun σ H=>D.ct (σ.set i none) H }
section
variable {X:Cx}{body suite:List Stmt}{b₀:Stmt}{x n:Str}{C:Addr}{np hpos pos:Pos}{tb ts:TS}{i:Nat}
end
section
variable {X:Cx}{x:Str}{k j:Nat}{ps:List Str}{sp:Sp}{e:Expr}{es:List Expr}{t:TA}{p pos:Pos}
end
section
variable {prog:Program}{w:World}{A:Around}{E:Value→Shared→Prop}{K:W.Frag}{x D:Addr}{ox:Obj}{odo:Option Obj}{name:Str}{s:Shared}
end
def jn:List TE→Str→TE
 | [],acc=>fun _ H Q=>Q (.str acc) H
 | t::r,acc=>fun σ H Q=>t σ H fun x H1=>∃ y,x=.str y∧(acc++y).length≤sizeLine∧jn r (acc++y) σ H1 Q
section
variable {X:Cx}{e v₁ v₂:Expr}{es rest:List Expr}{t:TE}{ts:List TE}{pos:Pos}
theorem jn0_ {σ:L2.St}{H:Hp}:jn [] acc σ H Q=Q (.str acc) H:=rfl
def JnR (r:List TE)(acc:Str)(σ:L2.St)(Q:VK)(x:V)(H1:Hp):Prop:=∃ y,x=.str y∧(acc++y).length≤sizeLine∧jn r (acc++y) σ H1 Q
theorem jnC_ {σ:L2.St}{H:Hp}:jn (t::ts) acc σ H Q=t σ H fun x H1=>JnR ts acc σ Q x H1:=rfl
theorem JnR.go {σ:L2.St}(h:(acc++y).length≤10000000)(q:jn r (acc++y) σ H1 Q):JnR r acc σ Q (.str y) H1:=⟨y,rfl,Nat.le_trans h (by decide),q⟩
def RepR (Q:VK)(x:V)(H1:Hp):Prop:=∃ y,x=.str y∧(reprText y).length≤sizeLine∧Q (.str (reprText y)) H1
theorem RepR.go (h:(reprText y).length≤10000000)(q:Q (.str (reprText y)) H1):RepR Q (.str y) H1:=⟨y,rfl,Nat.le_trans h (by decide),q⟩
def RaR (C:Addr)(E:XK)(vs:List V)(H1:Hp):Prop:=vs.length≤sizeLine∧E (.ref C) none H1
theorem RaR.go {C:Addr}{E:XK}{vs:List V}(h:vs.length≤1000)(q:E (.ref C) none H1):RaR C E vs H1:=⟨Nat.le_of_lt (qg2 h),q⟩
theorem asnx_ {i:Nat}{D:Ends}{σ:L2.St}{H:Hp}:(asEnds i D).nx σ H=D.nx (σ.set i none) H:=rfl
theorem asrt_ {i:Nat}{D:Ends}:(asEnds i D).rt=D.rt:=rfl
end
end Sv
namespace Sv
open PySem PySem.Spec PyProof.Rows L2
variable {K:W.Frag}{R:It→Hp→Prop}
section
variable {X:Cx}
def steps (c hi:Int):Nat:=(Builtin.Range.rangeSize 0 hi c).toNat
end
section
variable {H:Hp}{Q:VK}{σ:L2.St}{tr:TA}
def RngS (c:Int)(vs:List V)(H:Hp)(R:It→Hp→Prop):Prop:=∃ j:Int,vs=[.int 0,.int j,.int c]∧0≤j∧j<1000000∧R (Its 0 c (steps c j)) H
theorem RngS.go {c j:Int}(h1:0≤j)(h2:j<1000000)(q:R (Its 0 c (steps c j)) H):RngS c [.int 0,.int j,.int c] H R:=⟨j,rfl,h1,h2,q⟩
theorem rEqB_ {i j:Bool}:rEq (.bl i) (.bl j) H Q=Q (.bl (decide (i=j))) H:=by
 unfold rEq;have e:(V.bl i=V.bl j)=(i=j):=propext ⟨fun h=>V.bl.inj h,fun h=>by rw [h]⟩;simp only [e];exact propext ⟨fun h=>h.2,fun h=>⟨rfl,h⟩⟩
theorem _root_.L2.Same.seqT {H H':Hp}{a:Addr}{xs:List V}(e:Same H H')(h:SqT K H a xs):SqT K H' a xs:=by
 rcases h with (h | ⟨o,h⟩) | h
 ·exact .inl (.inl (e _ _ h))
 ·exact .inl (.inr ⟨o,e _ _ h⟩)
 ·exact .inr h
end
theorem qds {X:Cx}(h:X.K=K):IxR X (rIxT K):=h▸ql0
def IntB:List V→Hp→VK→Prop:=fun xs H Q=>∃ k,xs=[.bl k]∧Q (.int (if k=true then 1 else 0)) H
theorem qlt {X:Cx}:qn6 X (.type "int") IntB:=fun pins s σ H xs us Q I r h=>qmt pins s σ H xs us Q I r (.inr h)
theorem IntB.go {b:Bool}{H:Hp}{Q:VK}(q:Q (.int (if b=true then 1 else 0)) H):IntB [.bl b] H Q:=⟨b,rfl,q⟩
end Sv
namespace Sv
open PySem PySem.Spec PyProof.Rows L2
variable {b:Int×Int}{i n:Nat}{ns:List Int}{o:HO}{α:Type}
section
variable {X:Cx}
end
theorem qc4 {d:PyData}(h1:d.canLay0=true)(h2:d.depth≤64):SeqAt.shaped d=true:=by
 unfold SeqAt.shaped;rw [h1,decide_eq_true h2];rfl
theorem qz5 (g:α→PyData)(h:∀ x,(g x).canLay0=true):∀ xs:List α,PyData.canLayAll0 (xs.map g)=true
 | []=>by simp [PyData.canLayAll0]
 | x::xs=>by rw [List.map_cons,PyData.canLayAll0.eq_2,h x,qz5 g h xs]; rfl
theorem qc2 (g:α→PyData)(h:∀ x,(g x).depth≤n):∀ xs:List α,PyData.depthAll (xs.map g)≤n
 | []=>by simp [PyData.depthAll]
 | x::xs=>by
  rw [List.map_cons,PyData.depthAll.eq_2];exact Nat.max_le.mpr ⟨h x,qc2 g h xs⟩
def qra (b:Int×Int):PyData:=.tuple [.int b.1,.int b.2]
def boxD (bs:Bsx):PyData:=.tuple (bs.map qra)
def qga (ns:List Int):PyData:=.tuple (ns.map .int)
theorem qcr (b:Int×Int):(qra b).canLay0=true:=by simp [qra,PyData.canLay0,PyData.canLayAll0]
theorem qqn (b:Int×Int):(qra b).depth≤2:=by simp [qra,PyData.depth,PyData.depthAll]
theorem qjw (n:Int):(PyData.int n).canLay0=true:=by simp [PyData.canLay0]
theorem qis (n:Int):(PyData.int n).depth≤2:=by simp [PyData.depth]
theorem qya (bs:Bsx):(boxD bs).canLay0=true:=by
 have:=qz5 qra qcr bs;simp [boxD,PyData.canLay0,this]
theorem qs7 (bs:Bsx):(boxD bs).depth≤3:=by
 have:=qc2 qra qqn bs;simp only [boxD,PyData.depth];omega
theorem qt8 (bs:Bsx):SeqAt.shaped (boxD bs)=true:=qc4 (qya bs) (Nat.le_trans (qs7 bs) (by decide))
theorem quf (ns:List Int):SeqAt.shaped (qga ns)=true:=by
 have a:=qz5 PyData.int qjw ns;have b:=qc2 PyData.int qis ns;exact qc4 (by simp [qga,PyData.canLay0,a]) (by simp only [qga,PyData.depth]; omega)
theorem qad (g:α→PyData)(h:∀ x y,PyData.eqv (g x) (g y)=true↔x=y):∀ xs ys:List α,PyData.eqvAll (xs.map g) (ys.map g)=true↔xs=ys
 | [],[]=>by simp [PyData.eqvAll]
 | [],y::ys=>by simp [PyData.eqvAll]
 | x::xs,[]=>by simp [PyData.eqvAll]
 | x::xs,y::ys=>by
  rw [List.map_cons,List.map_cons];simp only [PyData.eqvAll,Bool.and_eq_true,h x y,qad g h xs ys,List.cons.injEq]
theorem qgv (b c:Int×Int):PyData.eqv (qra b) (qra c)=true↔b=c:=by
 obtain ⟨a,b⟩:=b;obtain ⟨c,d⟩:=c;simp [qra,PyData.eqv,PyData.eqvAll]
theorem qot (bs cs:Bsx):PyData.eqv (boxD bs) (boxD cs)=true↔bs=cs:=by
 have:=qad qra qgv bs cs
 simpa [boxD,PyData.eqv] using this
theorem qpq (ns ms:List Int):PyData.eqv (qga ns) (qga ms)=true↔ns=ms:=by
 have:=qad PyData.int (fun x y=>by simp [PyData.eqv]) ns ms
 simpa [qga,PyData.eqv] using this
inductive Strs (H:Hp):List V→Bsx→Prop where
 | nil:Strs H [] []
 | cons {a:Addr} {lo hi:Int} {vs:List V} {bs:Bsx} (h:H a=some (.tup [.int lo,.int hi])) (t:Strs H vs bs):Strs H (.ref a::vs) ((lo,hi)::bs)
section
variable {H H':Hp}{vs ws:List V}{bs cs:Bsx}{p a:Addr}
theorem Strs.len (h:Strs H vs bs):vs.length=bs.length:=by
 induction h with
 | nil=>rfl
 | cons _ _ ih=>rw [List.length_cons,List.length_cons,ih]
theorem Strs.mono (h:Strs H vs bs)(k:∀ a xs,H a=some (.tup xs)→H' a=some (.tup xs)):Strs H' vs bs:=by
 induction h with
 | nil=>exact .nil
 | cons h _ ih=>exact .cons (k _ _ h) ih
theorem Strs.same (h:Strs H vs bs)(s:Same H H'):Strs H' vs bs:=h.mono fun a xs e=>s _ _ e
theorem Strs.upd {xs:List V}(h:Strs H vs bs)(e:H p=some (.lst xs)):Strs (upd H p o) vs bs:=h.mono fun a ys q=>by
 have n:a≠p:=fun z=>by rw [z,e] at q; cases q
 rw [qt n];exact q
theorem Strs.app (h:Strs H vs bs)(k:Strs H ws cs):Strs H (vs++ws) (bs++cs):=by
 induction h with
 | nil=>exact k
 | cons h _ ih=>exact .cons h ih
theorem Strs.snoc {lo hi:Int}(h:Strs H vs bs)(e:H a=some (.tup [.int lo,.int hi])):Strs H (vs++[.ref a]) (bs++[(lo,hi)]):=h.app (.cons e .nil)
theorem Strs.at {x:V}(h:Strs H vs bs)(e:vs[i]?=some x):∃ a lo hi,x=.ref a∧bs[i]?=some (lo,hi)∧H a=some (.tup [.int lo,.int hi]):=by
 induction h generalizing i with
 | nil=>cases e
 | cons h _ ih =>
  cases i with
  | zero =>
   cases e;exact ⟨_,_,_,rfl,rfl,h⟩
  | succ j=>exact ih e
theorem Strs.ix (h:Strs H vs bs)(e:bs[i]?=some b):∃ a,vs[i]?=some (.ref a)∧H a=some (.tup [.int b.1,.int b.2]):=by
 induction h generalizing i with
 | nil=>cases e
 | cons h _ ih =>
  cases i with
  | zero =>
   cases e;exact ⟨_,rfl,h⟩
  | succ j=>exact ih e
theorem Strs.take (h:Strs H vs bs):Strs H (vs.take n) (bs.take n):=by
 induction h generalizing n with
 | nil=>rw [List.take_nil,List.take_nil]; exact .nil
 | cons h _ ih =>
  cases n with
  | zero=>exact .nil
  | succ m=>exact .cons h ih
theorem Strs.drop (h:Strs H vs bs):Strs H (vs.drop n) (bs.drop n):=by
 induction h generalizing n with
 | nil=>rw [List.drop_nil,List.drop_nil]; exact .nil
 | cons h t ih =>
  cases n with
  | zero=>exact .cons h t
  | succ m=>exact ih
theorem Strs.dts (h:Strs H vs bs):Dts H vs (bs.map qra):=by
 induction h with
 | nil=>exact .nil
 | cons h _ ih=>exact .cons (.tup (.inl h) (.cons (.int _) (.cons (.int _) .nil))) ih
theorem qlm (H:Hp):∀ ns:List Int,Dts H (ns.map V.int) (ns.map PyData.int)
 | []=>.nil
 | n::ns=>.cons (.int n) (qlm H ns)
def IsBox (H:Hp)(p:Addr)(bs:Bsx):Prop:=∃ vs,H p=some (.tup vs)∧Strs H vs bs
def IsPt (H:Hp)(p:Addr)(ns:List Int):Prop:=H p=some (.tup (ns.map V.int))
theorem IsBox.same (h:IsBox H p bs)(s:Same H H'):IsBox H' p bs:=by
 obtain ⟨vs,e,t⟩:=h;exact ⟨vs,s _ _ e,t.same s⟩
theorem IsPt.same (h:IsPt H p ns)(s:Same H H'):IsPt H' p ns:=s _ _ h
theorem IsBox.dt (h:IsBox H p bs):Dt H (.ref p) (boxD bs):=by
 obtain ⟨vs,e,t⟩:=h;exact .tup (.inl e) t.dts
theorem IsPt.dt (h:IsPt H p ns):Dt H (.ref p) (qga ns):=.tup (.inl h) (qlm H ns)
theorem _root_.L2.Same.put (s:Same H H')(h:H p=none):Same H (upd H' p o):=fun b u e=>by
 rw [qt (qz e h)];exact s b u e
end
section
variable {X:Cx}{H:Hp}{Q:VK}{p:Addr}{ys:List V}{K:W.Frag}
def TupOf (K:W.Frag):List V→Hp→VK→Prop:=fun xs H Q=>∃ p ys,xs=[.ref p]∧((SqL K H p ys∧∀ l,H l=none→Q (.ref l) (upd H l (.tup ys)))∨(SqT K H p ys∧Q (.ref p) H))
def LstOf (K:W.Frag):List V→Hp→VK→Prop:=fun xs H Q=>∃ p ys,xs=[.ref p]∧(SqL K H p ys∨SqT K H p ys)∧∀ l,H l=none→Q (.ref l) (upd H l (.lst ys))
theorem qw4:qn6 X (.type "tuple") (TupOf X.K):=qmg
theorem qke:qn6 X (.type "list") (LstOf X.K):=qvi
theorem TupOf.lst (h:SqL K H p ys)(q:∀ l,H l=none→Q (.ref l) (upd H l (.tup ys))):TupOf K [.ref p] H Q:=⟨p,ys,rfl,.inl ⟨h,q⟩⟩
theorem LstOf.lst (h:SqL K H p ys)(q:∀ l,H l=none→Q (.ref l) (upd H l (.lst ys))):LstOf K [.ref p] H Q:=⟨p,ys,rfl,.inl h,q⟩
end
end Sv
namespace Sv
open PySem L2
variable {H:Hp}{bs:Bsx}{vs:List V}
def lowV (H:Hp):V→V
 | .ref a=>match H a with
  | some (.tup (x::_))=>x
  | _=>.non
 | _=>.non
theorem qvr {a:Addr}{lo hi:Int}(h:H a=some (.tup [.int lo,.int hi])):lowV H (.ref a)=.int lo:=by
 simp only [lowV,h]
theorem Strs.lows (h:Strs H vs bs):vs.map (lowV H)=(bs.map (·.1)).map V.int:=by
 induction h with
 | nil=>rfl
 | cons h _ ih=>rw [List.map_cons,List.map_cons,List.map_cons,qvr h,ih]
theorem Strs.mem {x:V}(h:Strs H vs bs)(e:x∈vs):∃ a lo hi,x=.ref a∧(lo,hi)∈bs∧H a=some (.tup [.int lo,.int hi]):=by
 obtain ⟨i,hi⟩:=List.getElem?_of_mem e;obtain ⟨a,lo,hi',e1,e2,e3⟩:=h.at hi;exact ⟨a,lo,hi',e1,List.mem_of_getElem? e2,e3⟩
end Sv
namespace Sv
open PySem L2
variable {b c:Int×Int}{ds:Bsx}{n:Int}
section
variable {K:W.Frag}{H:Hp}{Q:VK}{p r:Addr}{bs cs:Bsx}{ns:List Int}{i:Nat}
theorem qh9 (h:IsBox H p bs)(e:bs[i]?=some b)(q:∀ a,H a=some (.tup [.int b.1,.int b.2])→Q (.ref a) H):rIxT K (.ref p) (.int (i:Int)) H Q:=by
 obtain ⟨vs,hp,hb⟩:=h;obtain ⟨a,ea,ha⟩:=hb.ix e;exact ixT_go (SqT.of hp) ea (q a ha)
theorem ixP_go (h:IsPt H p ns)(e:ns[i]?=some n)(q:Q (.int n) H):rIxT K (.ref p) (.int (i:Int)) H Q :=
 ixT_go (SqT.of h) (by rw [List.getElem?_map,e]; rfl) q
def qm2 (b c:Int×Int):Int×Int:=(max b.1 c.1,min b.2 c.2)
def full (b:Int×Int):Bool:=decide (b.1≤b.2)
def qt4 (bs cs:Bsx):Bsx:=List.zipWith qm2 bs cs
def qe3 (bs cs:Bsx):Option Bsx:=if (qt4 bs cs).all full=true then some (qt4 bs cs) else none
def qw (b:Int×Int)(n:Int):Bool:=decide (b.1≤n) && decide (n≤b.2)
def qr0 (bs:Bsx)(ns:List Int):Bool:=(List.zipWith qw bs ns).all id
theorem qr6 (e:bs[i]?=some b)(e':cs[i]?=some c):(qt4 bs cs)[i]?=some (qm2 b c):=by
 unfold qt4;rw [List.getElem?_zipWith,e,e']
theorem qj6 (h:cs.length=bs.length):(qt4 bs cs).length=bs.length:=by
 unfold qt4;rw [List.length_zipWith,h,Nat.min_self]
theorem qel (e:bs[i]?=some b)(e':cs[i]?=some c)(h:min b.2 c.2<max b.1 c.1):qe3 bs cs=none:=by
 unfold qe3;rw [if_neg];intro z;have:=List.all_eq_true.mp z _ (List.mem_of_getElem? (qr6 e e'));unfold full qm2 at this;have:=of_decide_eq_true this;omega
theorem qu8 (h:∀ b∈qt4 bs cs,full b=true):qe3 bs cs=some (qt4 bs cs):=by
 unfold qe3;rw [if_pos (List.all_eq_true.mpr h)]
theorem qp4 (h:qe3 bs cs=some ds):ds=qt4 bs cs∧∀ b∈ds,full b=true:=by
 unfold qe3 at h
 split at h
 ·rename_i z
  cases h;exact ⟨rfl,List.all_eq_true.mp z⟩
 ·cases h
theorem qq5 (e:bs[i]?=some b)(e':ns[i]?=some n)(h:qw b n=false):qr0 bs ns=false:=by
 unfold qr0;rw [List.all_eq_false];refine ⟨false,?_,Bool.false_ne_true⟩
 have:(List.zipWith qw bs ns)[i]?=some (qw b n):=by rw [List.getElem?_zipWith,e,e']
 rw [h] at this;exact List.mem_of_getElem? this
theorem qe2 (h:∀ (i:Nat) (b:Int×Int) (n:Int),bs[i]?=some b→ns[i]?=some n→qw b n=true):qr0 bs ns=true:=by
 unfold qr0;rw [List.all_eq_true];intro x hx;obtain ⟨i,hi⟩:=List.getElem?_of_mem hx;rw [List.getElem?_zipWith] at hi
 cases eb:bs[i]? with
 | none=>rw [eb] at hi; cases hi
 | some b =>
  cases en:ns[i]? with
  | none=>rw [eb,en] at hi; cases hi
  | some n =>
   rw [eb,en] at hi;cases hi;exact h i b n eb en
end
end Sv
namespace Sv
open PySem L2
variable {H:Hp}{Q:VK}{cs:Bsx}{r:Addr}
theorem qfl {b:Bool}{c:Prop} [Decidable c](h:b=true↔c):b=decide c:=by
 rw [Bool.eq_iff_iff,h,decide_eq_true_iff]
theorem eqB_go {p:Addr}{bs:Bsx}(h:IsBox H p bs)(h':IsBox H r cs)(q:Q (.bl (decide (bs=cs))) H):rEqD false (.ref p) (.ref r) H Q:=by
 refine ⟨boxD bs,boxD cs,h.dt,h'.dt,qt8 _,qt8 _,?_⟩;rw [if_neg Bool.false_ne_true,qfl (qot bs cs)];exact q
theorem eqN_go (h':IsBox H r cs)(q:Q (.bl false) H):rEqD false .non (.ref r) H Q:=by
 refine ⟨.none,boxD cs,.non,h'.dt,by decide,qt8 _,?_⟩;rw [if_neg Bool.false_ne_true,show PyData.eqv .none (boxD cs)=false by simp [boxD,PyData.eqv]];exact q
end Sv
namespace Sv
open PySem L2
def BothV (H:Hp)(bs cs:Bsx)(v:V):Prop:=(v=.non∧qe3 bs cs=none)∨∃ x ds,v=.ref x∧qe3 bs cs=some ds∧IsBox H x ds
theorem BothV.eqv {H:Hp}{Q:VK}{p:Addr}{bs cs ds:Bsx}{v:V}(h:BothV H bs cs v)(hp:IsBox H p ds)(q:Q (.bl (decide (qe3 bs cs=some ds))) H):rEqD false v (.ref p) H Q:=by
 rcases h with ⟨rfl,e⟩ | ⟨x,es,rfl,e,hx⟩
 ·rw [e] at q
  exact eqN_go hp q
 ·rw [e,show decide (some es=some ds)=decide (es=ds) by simp] at q
  exact eqB_go hx hp q
end Sv
namespace Sv
open PySem L2
variable {b:Bsx}{l:Addr}{o:HO}
section
variable {K:W.Frag}{σ:L2.St}{H:Hp}{Q:VK}{p:Addr}{xs:List V}{k:Nat}{r:V→Option Int→Option Int→Hp→VK→Prop}{te:TE}{tl th:TO}{Qo:Option Int→Hp→Prop}
theorem slice_:tSl r te tl th σ H Q=te σ H fun x H1=>tl σ H1 fun l H2=>th σ H2 fun u H3=>r x l u H3 Q:=rfl
theorem nopart_:qgp σ H Qo=Qo none H:=rfl
def PartR (x:V)(H:Hp)(Qo:Option Int→Hp→Prop):Prop:=∃ i,x=.int i∧Qo (some i) H
theorem part_:tPart te σ H Qo=te σ H fun x H1=>PartR x H1 Qo:=rfl
theorem PartR.go {i:Int}(q:Qo (some i) H):PartR (.int i) H Qo:=⟨i,rfl,q⟩
theorem qlg (h:k≤xs.length):cutV xs none (some (k:Int))=xs.take k:=by
 unfold cutV;rw [HT.sIx_nat,HT.sIx_none,Nat.min_eq_left h,List.drop_zero,Nat.sub_zero]
theorem qsm (h:k≤xs.length):cutV xs (some (k:Int)) none=xs.drop k:=by
 unfold cutV;rw [HT.sIx_nat,HT.sIx_none,Nat.min_eq_left h];exact List.take_of_length_le (by rw [List.length_drop]; exact Nat.le_refl _)
theorem qwp (h:SqL K H p xs)(hk:k≤xs.length)(q:∀ l,H l=none→Q (.ref l) (upd H l (.lst (xs.take k)))):rSlL K (.ref p) none (some (k:Int)) H Q:=⟨p,xs,rfl,h,by rw [qlg hk]; exact q⟩
theorem qat:cutV xs none (some (k:Int))=xs.take k:=by
 by_cases h:k≤xs.length
 ·exact qlg h
 ·unfold cutV
  rw [HT.sIx_nat,HT.sIx_none,List.drop_zero,Nat.sub_zero,Nat.min_eq_right (by omega),List.take_of_length_le (Nat.le_refl _),List.take_of_length_le (by omega)]
theorem qt7 (h:SqL K H p xs)(q:∀ l,H l=none→Q (.ref l) (upd H l (.lst (xs.take k)))):rSlL K (.ref p) none (some (k:Int)) H Q:=⟨p,xs,rfl,h,by rw [qat]; exact q⟩
end
inductive Bxs (H:Hp):List V→List Bsx→Prop where
 | nil:Bxs H [] []
 | cons {p:Addr} {b:Bsx} {vs:List V} {bss:List Bsx} (h:IsBox H p b) (t:Bxs H vs bss):Bxs H (.ref p::vs) (b::bss)
section
variable {H H':Hp}{vs ws:List V}{bss css:List Bsx}{p:Addr}
theorem IsBox.mono (h:IsBox H p b)(k:∀ a xs,H a=some (.tup xs)→H' a=some (.tup xs)):IsBox H' p b:=by
 obtain ⟨vs,e,t⟩:=h;exact ⟨vs,k _ _ e,t.mono k⟩
theorem qu2 {xs:List V}(e:H p=some (.lst xs)):∀ a ys,H a=some (.tup ys)→upd H p o a=some (.tup ys):=fun a ys q=>by
 have n:a≠p:=fun z=>by rw [z,e] at q; cases q
 rw [qt n];exact q
theorem IsBox.upd {xs:List V}(h:IsBox H p b)(e:H l=some (.lst xs)):IsBox (upd H l o) p b:=h.mono (qu2 e)
theorem Bxs.mono (h:Bxs H vs bss)(k:∀ a xs,H a=some (.tup xs)→H' a=some (.tup xs)):Bxs H' vs bss:=by
 induction h with
 | nil=>exact .nil
 | cons h _ ih=>exact .cons (h.mono k) ih
theorem Bxs.same (h:Bxs H vs bss)(s:Same H H'):Bxs H' vs bss:=h.mono fun a xs e=>s _ _ e
theorem Bxs.upd {xs:List V}(h:Bxs H vs bss)(e:H l=some (.lst xs)):Bxs (upd H l o) vs bss:=h.mono (qu2 e)
theorem Bxs.len (h:Bxs H vs bss):vs.length=bss.length:=by
 induction h with
 | nil=>rfl
 | cons _ _ ih=>rw [List.length_cons,List.length_cons,ih]
theorem Bxs.app (h:Bxs H vs bss)(k:Bxs H ws css):Bxs H (vs++ws) (bss++css):=by
 induction h with
 | nil=>exact k
 | cons h _ ih=>exact .cons h ih
theorem Bxs.snoc (h:Bxs H vs bss)(e:IsBox H p b):Bxs H (vs++[.ref p]) (bss++[b]):=h.app (.cons e .nil)
theorem Bxs.at {i:Nat}{x:V}(h:Bxs H vs bss)(e:vs[i]?=some x):∃ p b,x=.ref p∧bss[i]?=some b∧IsBox H p b:=by
 induction h generalizing i with
 | nil=>cases e
 | cons h _ ih =>
  cases i with
  | zero =>
   cases e;exact ⟨_,_,rfl,rfl,h⟩
  | succ j=>exact ih e
end
def qd3 (bs cs ds:Bsx)(k:Nat):List Bsx :=
 match bs[k]?,cs[k]? with
 | some b,some c=>(if b.1≤c.1 - 1 then [ds.take k++[(b.1,c.1 - 1)]++bs.drop (k+1)] else [])++(if c.2+1≤b.2 then [ds.take k++[(c.2+1,b.2)]++bs.drop (k+1)] else [])
 | _,_=>[]
def qg1 (bs cs ds:Bsx)(n:Nat):List Bsx:=(List.range n).flatMap (qd3 bs cs ds)
def qk3 (bs cs:Bsx):List Bsx:=match qe3 bs cs with
 | none=>[bs]
 | some ds=>qg1 bs cs ds bs.length
theorem qz3 (bs cs ds:Bsx)(n:Nat):qg1 bs cs ds (n+1)=qg1 bs cs ds n++qd3 bs cs ds n:=by
 unfold qg1;rw [List.range_succ,List.flatMap_append];simp
theorem ql8 (bs cs ds:Bsx)(n:Nat):(qg1 bs cs ds n).length≤2 * n:=by
 induction n with
 | zero=>exact Nat.le_refl 0
 | succ n ih =>
  rw [qz3,List.length_append]
  have:(qd3 bs cs ds n).length≤2:=by
   unfold qd3
   split
   ·rw [List.length_append]
    split <;> split <;> simp
   ·decide
  omega
end Sv
namespace Sv
open PySem PySem.Spec PyProof.Rows L2
variable {H:Hp}{K:W.Frag}{a p q:Addr}{b:Bool}{ch:List Addr}{es:List Expr}{h h':Heap}{i k0 n:Nat}{its:Array Value}{pins:List (Addr×Obj)}{pos tp:Pos}{ta:TA}{xs:List V}{σ:L2.St}
section
variable {P:Program}{w:World}{A:Around}{E:Value→Shared→Prop}{s:Shared}
theorem nextT {q p:Addr}{i:Nat}{its:Array Value}{x:Value}{Q:Value→Shared→Prop}(hq:s.heap.IsTupleIter q p i)(hp:s.heap.IsTuple p its)(hx:its[i]?=some x)
  (k:∀ h',h'.IsTupleIter q p (i+1)→Heap.SameBut q s.heap h'→Q x { s with heap:=h' }):wpAny (model P w) A (Builtin.SmallTypes.nextOf (.ref q)) Q E s:=by
 obtain ⟨o,ho,hc,hd⟩:=id hq;obtain ⟨ot,hot,_,nt,hdt⟩:=hp;unfold Builtin.SmallTypes.nextOf;refine wpAny_bind (wpAny_callSpecial?_slot (name:=Str.ofString "__next__") hq.typeIs F.slot_tuple_iterator_next (wpAny_call_entry F.slot_tuple_iterator_next hq.typeIs F.entry_tuple_iterator_next ?_ (F.args_tuple_iterator_next_1 _)));show wpAny _ _ (field (.ref q) 0 >>= _) _ _ s;refine wpAny_bind (wpAny_field ho hd (x:=.ref p) rfl ?_);show wpAny _ _ (if (Value.ref p == Value.none)=true then _ else _) _ _ s;rw [if_neg (show ¬ ((Value.ref p == Value.none)=true) from Bool.false_ne_true)];show wpAny _ _ (field (.ref q) 1 >>= _) _ _ s;refine wpAny_bind (wpAny_field ho hd (x:=Value.int i 0) rfl ?_);show wpAny _ _ (seqItems? (.ref p) >>= _) _ _ s;refine wpAny_bind (wpAny_seqItems hot hdt ?_);simp only [Int.toNat_natCast,hx];refine wpAny_bind (wpAny_setField ho hd (by simp) (wpAny_pure ⟨x,rfl,wpAny_pure (k _ ?_ (Heap.SameBut.update ..))⟩));refine ⟨_,Heap.get?_update_self _ ho (Obj.isFreed_of_fields (Obj.data_mapFields hd _)),(Obj.cls_mapFields ..).trans hc,?_⟩;rw [Obj.data_mapFields hd];simp [rawInt]
theorem qrr {q p:Addr}{i:Nat}{its:Array Value}{Q:Value→Shared→Prop}(hh:A.handled=none)(hq:s.heap.IsTupleIter q p i)(hp:s.heap.IsTuple p its)(hx:its[i]?=none)
  (k:∀ h' e,Heap.ExtBut q s.heap h'→(∃ o,h'.get? e=some o∧o.cls=.type "StopIteration")→E (.ref e) { s with heap:=h' }):wpAny (model P w) A (Builtin.SmallTypes.nextOf (.ref q)) Q E s:=by
 obtain ⟨o,ho,hc,hd⟩:=id hq;obtain ⟨ot,hot,_,nt,hdt⟩:=hp;unfold Builtin.SmallTypes.nextOf;refine wpAny_bind (wpAny_callSpecial?_slot (name:=Str.ofString "__next__") hq.typeIs F.slot_tuple_iterator_next (wpAny_call_entry F.slot_tuple_iterator_next hq.typeIs F.entry_tuple_iterator_next ?_ (F.args_tuple_iterator_next_1 _)));show wpAny _ _ (field (.ref q) 0 >>= _) _ _ s;refine wpAny_bind (wpAny_field ho hd (x:=.ref p) rfl ?_);show wpAny _ _ (if (Value.ref p == Value.none)=true then _ else _) _ _ s;rw [if_neg (show ¬ ((Value.ref p == Value.none)=true) from Bool.false_ne_true)];show wpAny _ _ (field (.ref q) 1 >>= _) _ _ s;refine wpAny_bind (wpAny_field ho hd (x:=Value.int i 0) rfl ?_);show wpAny _ _ (seqItems? (.ref p) >>= _) _ _ s;refine wpAny_bind (wpAny_seqItems hot hdt ?_);simp only [Int.toNat_natCast,hx];refine wpAny_bind (wpAny_rule (wpAny_bind (wpAny_setField ho hd (by simp) (show wpAny _ _ (newExc (.type "StopIteration") [] >>= _) _ _ _ from wpAny_bind ?_))));simp only [newExc,newTuple];refine wpAny_bind (wpAny_newObj_type (wpAny_bind (m:=firstArgMember _ _) (wpAny_of_eq (a:=Value.none) (by first | rfl | (simp only [firstArgMember]; rfl)) (wpAny_newObj_type ?_ (by size_fits)))) (by size_fits));simp only [raiseNew];refine wpAny_bind (wpAny_handled ?_)
 first | rw [show A.in1.handled=none from hh] | rw [hh]
 refine wpAny_bind (wpAny_pure (wpAny_throw (k _ _ (((Heap.SameBut.update ..).extBut.push _).push _) ⟨_,Heap.get?_push_size _ rfl,rfl⟩)))
def IsIt (h:Heap):Bool→Addr→Addr→Nat→Prop
 | true=>h.IsTupleIter
 | false=>h.IsListIter
def IsSq (h:Heap):Bool→Addr→Array Value→Prop
 | true=>h.IsTuple
 | false=>h.IsList
theorem IsIt.at (x:IsIt h b q p i)(e:∀ o,h.get? q=some o→h'.get? q=some o):IsIt h' b q p i:=by
 cases b
 ·exact Heap.IsListIter.at x e
 ·exact Heap.IsTupleIter.at x e
theorem IsSq.at (x:IsSq h b p its)(e:∀ o,h.get? p=some o→h'.get? p=some o):IsSq h' b p its:=by
 cases b
 ·exact Heap.IsList.at x e
 ·obtain ⟨o,ho,r⟩:=x
  exact ⟨o,e _ ho,r⟩
theorem IsIt.ex (x:IsIt h b q p i):∃ o,h.get? q=some o∧∀ v,o.data≠.cell v:=by
 cases b
 ·obtain ⟨o,e,_,d⟩:=x
  exact ⟨o,e,fun v z=>by rw [d] at z; cases z⟩
 ·obtain ⟨o,e,_,d⟩:=x
  exact ⟨o,e,fun v z=>by rw [d] at z; cases z⟩
theorem qcw {b:Bool}{q p:Addr}{i:Nat}{its:Array Value}{x:Value}{Q:Value→Shared→Prop}(hq:IsIt s.heap b q p i)(hp:IsSq s.heap b p its)(hx:its[i]?=some x)
  (k:∀ h',IsIt h' b q p (i+1)→Heap.SameBut q s.heap h'→Q x { s with heap:=h' }):wpAny (model P w) A (Builtin.SmallTypes.nextOf (.ref q)) Q E s:=by
 cases b
 ·exact wpAny_nextOf_list_item hq hp hx k
 ·exact nextT hq hp hx k
theorem qxf {b:Bool}{q p:Addr}{i:Nat}{its:Array Value}{Q:Value→Shared→Prop}(hh:A.handled=none)(hq:IsIt s.heap b q p i)(hp:IsSq s.heap b p its)(hx:its[i]?=none)
  (k:∀ h' e,Heap.ExtBut q s.heap h'→(∃ o,h'.get? e=some o∧o.cls=.type "StopIteration")→E (.ref e) { s with heap:=h' }):wpAny (model P w) A (Builtin.SmallTypes.nextOf (.ref q)) Q E s:=by
 cases b
 ·exact wpAny_nextOf_list_end hh hq hp hx k
 ·exact qrr hh hq hp hx k
theorem qus {b:Bool}{e q p:Addr}{i:Nat}{its:Array Value}{x old:Value}{Q:Option Value→Shared→Prop}(he:IsEnum s.heap e q i old)(hq:IsIt s.heap b q p i)(hp:IsSq s.heap b p its)(hx:its[i]?=some x)(ne:e≠q)
  (k:∀ h',IsEnumOut h' e q ((i:Int)+1) x s.heap.objs.size→IsIt h' b q p (i+1)→h'.get? s.heap.objs.size=some { cls:=.type "tuple",data:=.seq #[.int i s.toks,x] }→h'.objs.size=s.heap.objs.size+1 →
   (∀ c o,c≠e→c≠q→s.heap.get? c=some o→h'.get? c=some o)→Q (some (.ref s.heap.objs.size)) { s with heap:=h',toks:=s.toks+1 }):wpAny (model P w) A (pyNext (.ref e)) Q E s:=by
 have hT:s.TypeIs (.ref e) "enumerate":=⟨_,he,rfl⟩;unfold pyNext;refine wpAny_bind (wpAny_attempt (wpAny_callSpecial?_slot (name:=Str.ofString "__next__") hT F.slot_enumerate_next (wpAny_call_entry F.slot_enumerate_next hT F.entry_enumerate_next ?_ (F.args_enumerate_next_1 _))));obtain ⟨hp0,g,d,tk,os⟩:=s;show wpAny _ _ (field (.ref e) 2 >>= _) _ _ _;refine wpAny_bind (wpAny_field he rfl (x:=.ref q) rfl (wpAny_bind (qcw hq hp hx fun h1 q1 s1=>?_)));replace s1:Heap.SameBut q hp0 h1:=s1;have e1:IsEnum h1 e q i old:=(s1.2 e ne).trans he;show wpAny _ _ (field (.ref e) 3 >>= _) _ _ ⟨h1,g,d,tk,os⟩;refine wpAny_bind (wpAny_field e1 rfl (x:=rawInt i) rfl ?_);show wpAny _ _ (field (.ref e) 4 >>= _) _ _ ⟨h1,g,d,tk,os⟩;refine wpAny_bind (wpAny_field e1 rfl (x:=.none) rfl ?_);show wpAny _ _ (mkInt i >>= _) _ _ ⟨h1,g,d,tk,os⟩;refine wpAny_bind (wpAny_mkInt ?_);show wpAny _ _ (setField (.ref e) 3 (rawInt ((i:Int)+1)) >>= _) _ _ ⟨h1,g,d,tk+1,os⟩;refine wpAny_bind (wpAny_setField_rec e1 (by simp) fun h2 e2 s2=>?_);replace s2:Heap.SameBut e h1 h2:=s2;replace e2:IsEnum h2 e q ((i:Int)+1) old:=e2;show wpAny _ _ (setField (.ref e) 4 .none >>= _) _ _ ⟨h2,g,d,tk+1,os⟩;refine wpAny_bind (wpAny_setField_rec e2 (by simp) fun h3 e3 s3=>?_);replace s3:Heap.SameBut e h2 h3:=s3;replace e3:IsEnum h3 e q ((i:Int)+1) old:=e3;show wpAny _ _ (newTuple [.int i tk,x] >>= _) _ _ ⟨h3,g,d,tk+1,os⟩;refine wpAny_bind (wpAny_newTuple ?_);have e4:IsEnum (h3.push { cls:=.type "tuple",data:=.seq #[.int i tk,x] }) e q ((i:Int)+1) old:=Heap.get?_push_of_some _ e3;generalize hh4:h3.push { cls:=.type "tuple",data:=.seq #[.int i tk,x] }=h4 at e4
 have z3:h3.objs.size=hp0.objs.size:=by rw [s3.1,s2.1,s1.1]
 have el:e<hp0.objs.size:=Heap.lt_size he
 have t4:h4.get? hp0.objs.size=some { cls:=.type "tuple",data:=.seq #[.int i tk,x] }:=by
  rw [← hh4,← z3];exact Heap.get?_push_size _ rfl
 have z4:h4.objs.size=hp0.objs.size+1:=by rw [← hh4,Heap.size_push,z3]
 have k4:∀ c o,c≠e→c≠q→hp0.get? c=some o→h4.get? c=some o:=fun c o ce cq hc=>by
  rw [← hh4];exact Heap.get?_push_of_some _ (s3.extBut c o ce (s2.extBut c o ce (s1.extBut c o cq hc)))
 have q4:IsIt h4 b q p (i+1):=q1.at fun o ho=>by
  rw [← hh4];exact Heap.get?_push_of_some _ (s3.extBut q o ne.symm (s2.extBut q o ne.symm ho))
 show wpAny _ _ (Builtin.SmallTypes.ownedTupleIsFree (.ref e) >>= _) _ _ ⟨h4,g,d,tk+1,os⟩;rw [z3];clear hh4 e3 s3 e2 s2 e1 s1 q1 z3 h3 h2 h1;refine wpAny_bind ?_;unfold Builtin.SmallTypes.ownedTupleIsFree;refine wpAny_bind (wpAny_field e4 rfl (x:=.none) rfl (wpAny_pure ?_));simp only [if_true];refine wpAny_bind (wpAny_rule (wpAny_bind (wpAny_field e4 rfl (x:=old) rfl (wpAny_bind (wpAny_setField_rec e4 (by simp) fun h5 e5 s5=>?_)))));replace s5:Heap.SameBut e h4 h5:=s5;replace e5:IsEnum h5 e q ((i:Int)+1) x:=e5;show wpAny _ _ (Builtin.SmallTypes.ownedTupleHandOut (.ref e) (.ref hp0.objs.size) >>= _) _ _ ⟨h5,g,d,tk+1,os⟩;refine wpAny_bind ?_;unfold Builtin.SmallTypes.ownedTupleHandOut;refine wpAny_bind (wpAny_setField_rec e5 (by simp) fun h6 e6 s6=>?_);replace s6:Heap.SameBut e h5 h6:=s6;replace e6:IsEnumOut h6 e q ((i:Int)+1) x hp0.objs.size:=e6;refine wpAny_setField_rec e6 (by simp) fun h7 e7 s7=>?_;replace s7:Heap.SameBut e h6 h7:=s7;replace e7:IsEnumOut h7 e q ((i:Int)+1) x hp0.objs.size:=e7;have up:∀ c o,c≠e→h4.get? c=some o→h7.get? c=some o:=fun c o ce hc=>s7.extBut c o ce (s6.extBut c o ce (s5.extBut c o ce hc));refine wpAny_bind (wpAny_letGo (wpAny_pure ⟨_,rfl,wpAny_pure (k h7 e7 (q4.at fun o ho=>up q o ne.symm ho) (up _ _ (Nat.ne_of_gt el) t4) ?_ fun c o ce cq hc=>up c o ce (k4 c o ce cq hc))⟩));rw [s7.1,s6.1,s5.1,z4]
theorem qpw {b:Bool}{e q p:Addr}{i:Nat}{its:Array Value}{old:Value}{Q:Option Value→Shared→Prop}(hh:A.handled=none)(he:IsEnum s.heap e q i old)(hq:IsIt s.heap b q p i)(hp:IsSq s.heap b p its)(hx:its[i]?=none)
  (k:∀ h',Heap.ExtBut q s.heap h'→Q none { s with heap:=h' }):wpAny (model P w) A (pyNext (.ref e)) Q E s:=by
 have hT:s.TypeIs (.ref e) "enumerate":=⟨_,he,rfl⟩;unfold pyNext;refine wpAny_bind (wpAny_attempt (wpAny_callSpecial?_slot (name:=Str.ofString "__next__") hT F.slot_enumerate_next (wpAny_call_entry F.slot_enumerate_next hT F.entry_enumerate_next ?_ (F.args_enumerate_next_1 _))));show wpAny _ _ (field (.ref e) 2 >>= _) _ _ _;refine wpAny_bind (wpAny_field he rfl (x:=.ref q) rfl (wpAny_bind (qxf hh hq hp hx fun h' x he' hx'=>?_)));obtain ⟨o,ho,hc⟩:=hx';exact wpAny_bind (wpAny_isInstance (T:="StopIteration") (b:=true) ⟨o,ho,hc⟩ isSubtype_stop (wpAny_pure (k _ he')))
structure qcx (z a o q r p1 p2:Addr):Prop where
 nd:[z,a,o,q,r].Nodup
 n1:p1∉[z,o,q,r]
 n2:p2∉[z,o,q,r]
theorem qtt {z o r:Addr}(h:[z,a,o,q,r].Nodup):(z≠a∧z≠o∧z≠q∧z≠r)∧(a≠o∧a≠q∧a≠r)∧(o≠q∧o≠r)∧q≠r:=by
 simp only [List.nodup_cons,List.mem_cons,List.mem_nil_iff,or_false,not_or,List.not_mem_nil,not_false_eq_true,List.nodup_nil,and_true] at h;exact h
theorem qxm {z o r:Addr}(h:p∉[z,o,q,r]):p≠z∧p≠o∧p≠q∧p≠r:=by
 simp only [List.mem_cons,List.mem_nil_iff,or_false,not_or,List.not_mem_nil] at h;exact h
def Kept (ch:List Addr)(h h':Heap):Prop:=∀ c o,c∉ch→h.get? c=some o→h'.get? c=some o
theorem Kept.trans {h'':Heap}(x:Kept ch h h')(y:Kept ch h' h''):Kept ch h h'':=fun c o n e=>y c o n (x c o n e)
theorem Kept.of {b:Addr}(x:Heap.SameBut b h h')(m:b∈ch):Kept ch h h':=fun c o n e=>x.extBut c o (fun z=>n (z▸m)) e
theorem Kept.ext {b:Addr}(x:Heap.ExtBut b h h')(m:b∈ch):Kept ch h h':=fun c o n e=>x c o (fun z=>n (z▸m)) e
structure qoo (h:Heap)(b1 b2:Bool)(z a o q r p1 p2:Addr)(f:Value)(i j:Nat):Prop where
 zip:IsZip h z a o f
 ins:IsPair h a (.ref q) (.ref r)
 out:∃ x y,IsPair h o x y
 it1:IsIt h b1 q p1 i
 it2:IsIt h b2 r p2 j
theorem qxt {b1 b2:Bool}{z a o q r p1 p2:Addr}{i j:Nat}{xs ys:Array Value}{x y:Value}{Q:Option Value→Shared→Prop}(D:qcx z a o q r p1 p2)(Z:qoo s.heap b1 b2 z a o q r p1 p2 .none i j)
  (h1:IsSq s.heap b1 p1 xs) (h2:IsSq s.heap b2 p2 ys) (hx:xs[i]?=some x) (hy:ys[j]?=some y)
  (k:∀ h',qoo h' b1 b2 z a o q r p1 p2 (rawInt s.heap.objs.size) (i+1) (j+1)→IsPair h' s.heap.objs.size x y→h'.objs.size=s.heap.objs.size+1→Kept [z,o,q,r] s.heap h'→Q (some (.ref s.heap.objs.size)) { s with heap:=h' }) :
  wpAny (model P w) A (pyNext (.ref z)) Q E s:=by
 obtain ⟨hz,hI,⟨u,v,hO⟩,hq,hr⟩:=Z;obtain ⟨⟨za,zo,zq,zr⟩,⟨ao,aq,ar⟩,⟨oq,or'⟩,qr⟩:=qtt D.nd;obtain ⟨n1z,n1o,n1q,n1r⟩:=qxm D.n1;obtain ⟨n2z,n2o,n2q,n2r⟩:=qxm D.n2;have hT:s.TypeIs (.ref z) "zip":=⟨_,hz,rfl⟩;unfold pyNext;refine wpAny_bind (wpAny_attempt (wpAny_callSpecial?_slot (name:=Str.ofString "__next__") hT F.slot_zip_next (wpAny_call_entry F.slot_zip_next hT F.entry_zip_next ?_ (F.args_zip_next_1 _))));show wpAny _ _ (field (.ref z) 2 >>= _) _ _ _;refine wpAny_bind (wpAny_field hz rfl (x:=.bool false) rfl ?_);show wpAny _ _ (field (.ref z) 3 >>= _) _ _ _;refine wpAny_bind (wpAny_field hz rfl (x:=.ref a) rfl (wpAny_bind (wpAny_seqItems hI rfl ?_)));show wpAny _ _ (Builtin.SmallTypes.ownedTupleIsFree (.ref z) >>= _) _ _ _;refine wpAny_bind ?_;unfold Builtin.SmallTypes.ownedTupleIsFree;refine wpAny_bind (wpAny_field hz rfl (x:=.none) rfl (wpAny_pure ?_));simp only [if_true];refine wpAny_bind (wpAny_rule (wpAny_bind (wpAny_field hz rfl (x:=.ref o) rfl (wpAny_bind (wpAny_setField_rec hz (by simp) fun g1 z1 s1=>?_)))));replace z1:IsZip g1 z a o .ellipsis:=z1;refine wpAny_bind ?_;simp only [List.zipIdx_cons,List.zipIdx_nil,List.forIn_cons,List.forIn_nil];refine wpAny_bind (wpAny_bind (wpAny_onRaise (show wpAny _ _ (Builtin.SmallTypes.nextOf (.ref q) >>= _) _ _ _ from wpAny_bind (qcw (hq.at fun _ e=>s1.extBut _ _ zq.symm e) (h1.at fun _ e=>s1.extBut _ _ n1z e) hx fun g2 q2 s2=>wpAny_pure ?_))));have o2:IsPair g2 o u v:=s2.extBut _ _ oq (s1.extBut _ _ zo.symm hO);refine wpAny_bind (wpAny_seqItems o2 rfl (wpAny_bind (wpAny_updateSeq_pair o2 fun g3 o3 s3=>?_)));replace o3:IsPair g3 o x v:=o3;refine wpAny_bind (wpAny_letGo (wpAny_pure (wpAny_bind (wpAny_bind (wpAny_onRaise ?_)))));refine (show wpAny _ _ (Builtin.SmallTypes.nextOf (.ref r) >>= _) _ _ _ from wpAny_bind (qcw (hr.at fun _ e=>s3.extBut _ _ or'.symm (s2.extBut _ _ qr.symm (s1.extBut _ _ zr.symm e))) (h2.at fun _ e=>s3.extBut _ _ n2o (s2.extBut _ _ n2q (s1.extBut _ _ n2z e))) hy fun g4 r4 s4=>wpAny_pure ?_));have o4:IsPair g4 o x v:=s4.extBut _ _ or' o3;refine wpAny_bind (wpAny_seqItems o4 rfl (wpAny_bind (wpAny_updateSeq_pair o4 fun g5 o5 s5=>?_)));replace o5:IsPair g5 o x y:=o5;refine wpAny_bind (wpAny_letGo (wpAny_pure (wpAny_pure (wpAny_bind (wpAny_seqItems o5 rfl (wpAny_bind (wpAny_newTuple ?_)))))))
 have m1:z∈[z,o,q,r]:=by simp
 have m2:o∈[z,o,q,r]:=by simp
 have m3:q∈[z,o,q,r]:=by simp
 have m4:r∈[z,o,q,r]:=by simp
 have k5:Kept [z,o,q,r] s.heap g5:=((((Kept.of s1 m1).trans (Kept.of s2 m3)).trans (Kept.of s3 m2)).trans (Kept.of s4 m4)).trans (Kept.of s5 m2)
 have z5:g5.objs.size=s.heap.objs.size:=by rw [s5.1,s4.1,s3.1,s2.1,s1.1]
 have y5:IsZip g5 z a o .ellipsis:=s5.extBut _ _ zo (s4.extBut _ _ zr (s3.extBut _ _ zo (s2.extBut _ _ zq z1)));have q5:IsIt g5 b1 q p1 (i+1):=q2.at fun _ e=>s5.extBut _ _ oq.symm (s4.extBut _ _ qr (s3.extBut _ _ oq.symm e));have r5:IsIt g5 b2 r p2 (j+1):=r4.at fun _ e=>s5.extBut _ _ or'.symm e;have lt:z<g5.objs.size:=Heap.lt_size y5;show wpAny _ _ (Builtin.SmallTypes.ownedTupleHandOut (.ref z) (.ref g5.objs.size) >>= _) _ _ _;refine wpAny_bind ?_;unfold Builtin.SmallTypes.ownedTupleHandOut;have y6:IsZip (g5.push { cls:=.type "tuple",data:=.seq #[x,y] }) z a o .ellipsis:=Heap.get?_push_of_some _ y5;refine wpAny_bind (wpAny_setField_rec y6 (by simp) fun g7 y7 s7=>?_);replace y7:IsZip g7 z a o (rawInt g5.objs.size):=y7;refine wpAny_setField_rec y7 (by simp) fun g8 y8 s8=>?_;replace y8:IsZip g8 z a o (rawInt g5.objs.size):=y8;have up:∀ c u,c≠z→g5.get? c=some u→g8.get? c=some u:=fun c u cz e=>s8.extBut _ _ cz (s7.extBut _ _ cz (Heap.get?_push_of_some _ e));have t8:IsPair g8 g5.objs.size x y:=s8.extBut _ _ (Nat.ne_of_gt lt) (s7.extBut _ _ (Nat.ne_of_gt lt) (Heap.get?_push_size _ rfl))
 have e8:g8.objs.size=g5.objs.size+1:=by rw [s8.1,s7.1,Heap.size_push]
 rw [z5] at y8 t8 e8;refine wpAny_pure ⟨_,rfl,wpAny_pure ?_⟩;show Q (some (.ref g5.objs.size)) _;rw [z5];refine k g8 ⟨y8,?_,⟨x,y,up _ _ zo.symm o5⟩,q5.at fun _ e=>up _ _ zq.symm e,r5.at fun _ e=>up _ _ zr.symm e⟩ t8 e8 (k5.trans fun c u n e=>up c u (fun h=>n (h▸m1)) e);exact up _ _ za.symm (k5 _ _ (by simp [za.symm,ao,aq,ar]) hI)
theorem zip_end {b1 b2:Bool}{z a o q r p1 p2:Addr}{i j:Nat}{xs ys:Array Value}{Q:Option Value→Shared→Prop}(hh:A.handled=none)(D:qcx z a o q r p1 p2)(Z:qoo s.heap b1 b2 z a o q r p1 p2 .none i j)
  (h1:IsSq s.heap b1 p1 xs) (h2:IsSq s.heap b2 p2 ys) (hn:xs[i]?=none∨ys[j]?=none) (k:∀ h',Kept [z,o,q,r] s.heap h'→Q none { s with heap:=h' }):wpAny (model P w) A (pyNext (.ref z)) Q E s:=by
 obtain ⟨hz,hI,⟨u,v,hO⟩,hq,hr⟩:=Z;obtain ⟨⟨za,zo,zq,zr⟩,⟨ao,aq,ar⟩,⟨oq,or'⟩,qr⟩:=qtt D.nd;obtain ⟨n1z,n1o,n1q,n1r⟩:=qxm D.n1;obtain ⟨n2z,n2o,n2q,n2r⟩:=qxm D.n2
 have m1:z∈[z,o,q,r]:=by simp
 have m2:o∈[z,o,q,r]:=by simp
 have m3:q∈[z,o,q,r]:=by simp
 have m4:r∈[z,o,q,r]:=by simp
 have hT:s.TypeIs (.ref z) "zip":=⟨_,hz,rfl⟩;have fin:∀ {h':Heap} {e:Addr},Kept [z,o,q,r] s.heap h'→(∃ o,h'.get? e=some o∧o.cls=.type "StopIteration") →
   wpAny (model P w) A (do if ← isInstance (.ref e) (.type "StopIteration") then pure none else throw (.ref e)) Q E { s with heap:=h' }:=fun hk he=>by
  obtain ⟨oe,hoe,hce⟩:=he;exact wpAny_bind (wpAny_isInstance (T:="StopIteration") (b:=true) ⟨oe,hoe,hce⟩ isSubtype_stop (wpAny_pure (k _ hk)))
 unfold pyNext;refine wpAny_bind (wpAny_attempt (wpAny_callSpecial?_slot (name:=Str.ofString "__next__") hT F.slot_zip_next (wpAny_call_entry F.slot_zip_next hT F.entry_zip_next ?_ (F.args_zip_next_1 _))));show wpAny _ _ (field (.ref z) 2 >>= _) _ _ _;refine wpAny_bind (wpAny_field hz rfl (x:=.bool false) rfl ?_);show wpAny _ _ (field (.ref z) 3 >>= _) _ _ _;refine wpAny_bind (wpAny_field hz rfl (x:=.ref a) rfl (wpAny_bind (wpAny_seqItems hI rfl ?_)));show wpAny _ _ (Builtin.SmallTypes.ownedTupleIsFree (.ref z) >>= _) _ _ _;refine wpAny_bind ?_;unfold Builtin.SmallTypes.ownedTupleIsFree;refine wpAny_bind (wpAny_field hz rfl (x:=.none) rfl (wpAny_pure ?_));simp only [if_true];refine wpAny_bind (wpAny_rule (wpAny_bind (wpAny_field hz rfl (x:=.ref o) rfl (wpAny_bind (wpAny_setField_rec hz (by simp) fun g1 z1 s1=>?_)))));replace z1:IsZip g1 z a o .ellipsis:=z1;refine wpAny_bind ?_;simp only [List.zipIdx_cons,List.zipIdx_nil,List.forIn_cons,List.forIn_nil];refine wpAny_bind (wpAny_bind (wpAny_onRaise (show wpAny _ _ (Builtin.SmallTypes.nextOf (.ref q) >>= _) _ _ _ from wpAny_bind ?_)))
 cases hx:xs[i]? with
 | none =>
  refine qxf hh (hq.at fun _ e=>s1.extBut _ _ zq.symm e) (h1.at fun _ e=>s1.extBut _ _ n1z e) hx fun g2 e s2 he=>?_;obtain ⟨oe,hoe,hce⟩:=he;have z2:IsZip g2 z a o .ellipsis:=s2 _ _ zq z1
  have ez:e≠z:=fun h=>by subst h; rw [z2] at hoe; cases hoe; simp at hce
  exact wpAny_setField_rec z2 (by simp) fun g3 _ s3=>fin (((Kept.of s1 m1).trans (Kept.ext s2 m3)).trans (Kept.of s3 m1)) ⟨oe,s3.extBut _ _ ez hoe,hce⟩
 | some x =>
  have hy:ys[j]?=none:=hn.resolve_left (by rw [hx]; exact fun h=>by cases h);refine qcw (hq.at fun _ e=>s1.extBut _ _ zq.symm e) (h1.at fun _ e=>s1.extBut _ _ n1z e) hx fun g2 q2 s2=>wpAny_pure ?_;have o2:IsPair g2 o u v:=s2.extBut _ _ oq (s1.extBut _ _ zo.symm hO);refine wpAny_bind (wpAny_seqItems o2 rfl (wpAny_bind (wpAny_updateSeq_pair o2 fun g3 o3 s3=>?_)));refine wpAny_bind (wpAny_letGo (wpAny_pure (wpAny_bind (wpAny_bind (wpAny_onRaise (show wpAny _ _ (Builtin.SmallTypes.nextOf (.ref r) >>= _) _ _ _ from wpAny_bind ?_))))));refine qxf hh (hr.at fun _ e=>s3.extBut _ _ or'.symm (s2.extBut _ _ qr.symm (s1.extBut _ _ zr.symm e))) (h2.at fun _ e=>s3.extBut _ _ n2o (s2.extBut _ _ n2q (s1.extBut _ _ n2z e))) hy fun g4 e s4 he=>?_;obtain ⟨oe,hoe,hce⟩:=he;have z4:IsZip g4 z a o .ellipsis:=s4 _ _ zr (s3.extBut _ _ zo (s2.extBut _ _ zq z1))
  have ez:e≠z:=fun h=>by subst h; rw [z4] at hoe; cases hoe; simp at hce
  exact wpAny_setField_rec z4 (by simp) fun g5 _ s5=>fin (((((Kept.of s1 m1).trans (Kept.of s2 m3)).trans (Kept.of s3 m2)).trans (Kept.ext s4 m4)).trans (Kept.of s5 m1)) ⟨oe,s5.extBut _ _ ez hoe,hce⟩
abbrev itO (p:Addr):Obj:={ cls:=.type "tuple_iterator",data:=.fields #[.ref p,.int 0 0] }
abbrev zA (h:Heap)(p1 p2:Addr):Heap:=(h.push (itO p1)).push (itO p2)
abbrev zB (h:Heap)(p1 p2:Addr):Heap:=(zA h p1 p2).push { cls:=.type "tuple",data:=.seq #[.ref h.objs.size,.ref (h.push (itO p1)).objs.size] }
abbrev zC (h:Heap)(p1 p2:Addr):Heap:=(zB h p1 p2).push { cls:=.type "tuple",data:=.seq #[.none,.none] }
abbrev zD (h:Heap)(p1 p2:Addr):Heap:=(zC h p1 p2).push { cls:=.type "zip",data:=.fields #[.none,.bool false,.bool false,.ref (zA h p1 p2).objs.size,.ref (zB h p1 p2).objs.size] }
theorem qpo (h:Heap)(p1 p2:Addr):(h.push (itO p1)).objs.size=h.objs.size+1∧(zA h p1 p2).objs.size=h.objs.size+2∧(zB h p1 p2).objs.size=h.objs.size+3∧(zC h p1 p2).objs.size=h.objs.size+4∧(zD h p1 p2).objs.size=h.objs.size+5:=by
 simp only [Heap.size_push];exact ⟨trivial,trivial,trivial,trivial,trivial⟩
theorem z_at (h:Heap)(p1 p2:Addr):qoo (zD h p1 p2) true true (h.objs.size+4) (h.objs.size+2) (h.objs.size+3) h.objs.size (h.objs.size+1) p1 p2 .none 0 0:=by
 obtain ⟨s1,s2,s3,s4,s5⟩:=qpo h p1 p2;have g5:(zD h p1 p2).get? (zC h p1 p2).objs.size=some _:=Heap.get?_push_size _ rfl;have g4:(zD h p1 p2).get? (zB h p1 p2).objs.size=some _:=Heap.get?_push_of_some _ (Heap.get?_push_size _ rfl);have g3:(zD h p1 p2).get? (zA h p1 p2).objs.size=some _:=Heap.get?_push_of_some _ (Heap.get?_push_of_some _ (Heap.get?_push_size _ rfl));have g2:(zD h p1 p2).get? (h.push (itO p1)).objs.size=some _:=Heap.get?_push_of_some _ (Heap.get?_push_of_some _ (Heap.get?_push_of_some _ (Heap.get?_push_size _ rfl)));have g1:(zD h p1 p2).get? h.objs.size=some _:=Heap.get?_push_of_some _ (Heap.get?_push_of_some _ (Heap.get?_push_of_some _ (Heap.get?_push_of_some _ (Heap.get?_push_size _ rfl))));rw [s4] at g5;rw [s3] at g4;rw [s2] at g3;rw [s1] at g2;refine ⟨?_,?_,⟨_,_,g4⟩,⟨_,g1,rfl,rfl⟩,⟨_,g2,rfl,rfl⟩⟩
 ·exact g5.trans (by rw [s2,s3])
 ·exact g3.trans (by rw [s1])
theorem z_kept (h:Heap)(p1 p2:Addr)(c:Addr)(o:Obj)(x:h.get? c=some o):(zD h p1 p2).get? c=some o :=
 Heap.get?_push_of_some _ (Heap.get?_push_of_some _ (Heap.get?_push_of_some _ (Heap.get?_push_of_some _ (Heap.get?_push_of_some _ x))))
theorem new_zip (p1 p2:Addr)(xs ys:Array Value):Meets (Builtin.«zip.__new__» ⟨[.type "zip",.ref p1,.ref p2],[]⟩) (fun _ R s=>s.heap.IsTuple p1 xs∧s.heap.IsTuple p2 ys∧R (.ok (.ret (.ref (zC s.heap p1 p2).objs.size))) { s with heap:=zD s.heap p1 p2 }) :=
 .of_wp fun prog w A R s h=>by
  obtain ⟨hp,g,d,tk,os⟩:=s;obtain ⟨hl1,hl2,h⟩:=h;have hsub:=sub_zip;have L1:Heap.IsTuple (Shared.heap ⟨hp,g,d,tk,os⟩) p1 xs:=hl1;have L2:Heap.IsTuple (Shared.heap ⟨hp.push (itO p1),g,d,tk,os⟩) p2 ys:=Heap.IsTuple.push hl2 _
  wp_walk using wpAny_pyIter_tuple L1,wpAny_pyIter_tuple L2
  exact ⟨_,rfl,h⟩
theorem qit {p1 p2:Addr}{xs ys:Array Value}{Q:Value→Shared→Prop}(h1:s.heap.IsTuple p1 xs)(h2:s.heap.IsTuple p2 ys)
  (k:∀ h',qoo h' true true (s.heap.objs.size+4) (s.heap.objs.size+2) (s.heap.objs.size+3) s.heap.objs.size (s.heap.objs.size+1) p1 p2 .none 0 0→(∀ c o,s.heap.get? c=some o→h'.get? c=some o)→Q (.ref (s.heap.objs.size+4)) { s with heap:=h' }) :
  wpAny (model P w) A (call (.type "zip") [.ref p1,.ref p2]) Q E s:=by
 refine callType_new F.called_zip (by decide) (F.typeCall_zip_2 _ _) (F.newCall_zip_2 _ _) (fun obj=>F.args_object_init_3 obj _ _) F.entry_zip_new (new_zip p1 p2 xs ys) ⟨h1,h2,?_⟩;have Z:=z_at s.heap p1 p2;show _∧_;rw [(qpo s.heap p1 p2).2.2.2.1];exact ⟨⟨_,Z.zip,rfl⟩,k _ Z fun c o x=>z_kept s.heap p1 p2 c o x⟩
theorem qdw (p:Addr)(xs:Array Value)(n:Nat)(dct:Option Addr)(sl:Array (Option Value)):Meets (Builtin.«enumerate.__new__» ⟨[.type "enumerate",.ref p],[]⟩) (fun _ R s=>s.heap.get? p=some { cls:=.type "tuple",dict:=dct,data:=.seq xs n,slots:=sl } ∧
  R (.ok (.ret (.ref (s.heap.push (itO p)).objs.size))) { s with heap:=(s.heap.push (itO p)).push { cls:=.type "enumerate",data:=.fields #[.none,.bool false,.ref s.heap.objs.size,rawInt 0,.none,.none] } }) :=
 .of_wp fun prog w A R s h=>by
  obtain ⟨hp,g,d,tk,os⟩:=s;obtain ⟨hl,h⟩:=h;have hsub:=sub_enumerate;have hL:Heap.IsTuple (Shared.heap ⟨hp,g,d,tk,os⟩) p xs:=⟨_,hl,rfl,n,rfl⟩
  wp_walk using AutoSeq1.wpAny_loadPart' hl
  refine wpAny_stack_any fun st=>wpAny_pure ?_
  split
  ·rename_i c _ _ _ _ _
   cases (c == Value.type "enumerate")
   ·(wp_walk using AutoSeq1.wpAny_loadPart' hl,wpAny_pyIter_tuple hL); exact ⟨_,rfl,h⟩
   ·(wp_walk using AutoSeq1.wpAny_loadPart' hl,wpAny_pyIter_tuple hL); exact ⟨_,rfl,h⟩
  ·(wp_walk using AutoSeq1.wpAny_loadPart' hl,wpAny_pyIter_tuple hL); exact ⟨_,rfl,h⟩
theorem qnt {b:Bool}{p:Addr}{xs:Array Value}{Q:Value→Shared→Prop}(hp:IsSq s.heap b p xs)
  (k:∀ h',IsEnum h' (s.heap.objs.size+1) s.heap.objs.size 0 .none→IsIt h' b s.heap.objs.size p 0→(∀ c o,s.heap.get? c=some o→h'.get? c=some o)→Q (.ref (s.heap.objs.size+1)) { s with heap:=h' }) :
  wpAny (model P w) A (call (.type "enumerate") [.ref p]) Q E s:=by
 cases b with
 | false=>exact call_enumerate_list hp fun h' a b _ d=>k h' a b d
 | true =>
  obtain ⟨⟨cls,dct,dat,sl⟩,ho,hc,n,hd⟩:=hp;cases hc;cases hd;refine callType_new F.called_enumerate (by decide) (F.typeCall_enumerate_1 _) (F.newCall_enumerate_1 _) (fun obj=>F.args_object_init_2 obj _) F.entry_enumerate_new (qdw p xs n dct sl) ⟨ho,?_⟩;have hz:(s.heap.push (itO p)).objs.size=s.heap.objs.size+1:=Heap.size_push ..;have he:=Heap.get?_push_size (s.heap.push (itO p)) (o:={ cls:=.type "enumerate",data:=.fields #[.none,.bool false,.ref s.heap.objs.size,rawInt 0,.none,.none] }) rfl;show _∧_;rw [hz] at he ⊢;exact ⟨⟨_,he,rfl⟩,k _ he ⟨_,Heap.get?_push_of_some _ (Heap.get?_push_size _ rfl),rfl,rfl⟩ fun c o x=>Heap.get?_push_of_some _ (Heap.get?_push_of_some _ x)⟩
end
theorem _root_.L2.Inv.turnedL {X:Cx}{s:Shared}{t':Nat}(I:Inv X pins σ H s)(k:Kept ch s.heap h')(f:∀ b∈ch,FpOk X pins H b):Inv X pins σ H { s with heap:=h',toks:=t' }:=by
 have nit:∀ b u,H b=some u→b∉ch:=fun b u e z=>by
  rw [(f b z).1] at e;cases e
 have loc:X.env.locals∉ch:=fun z=>(f _ z).2.1 rfl;refine I.step (g':=s.gens) (d':=s.drawn) (ch:=ch) (fun b hb=>?_) (fun b o _ _ hc e _=>k b o hc e) (fun b o _ _ hc e _=>⟨o.slots,k b o hc e⟩) (fun _ _ _ _ n=>n) (fun b o hc e=>⟨o,k b o hc e⟩) (fun _ _ e=>e) (fun _ _ _ e=>e)
  (fun b ps e=>⟨#[],by rw [e]; simp⟩) (fun m hm=>?_) (fun b u e=>?_) I.bare
 ·obtain ⟨_,hL,_,h1,h2,h3⟩:=f b hb
  exact ⟨h1,hL,h2,h3⟩
 ·obtain ⟨o,es,ep,ho,r⟩:=hm
  exact ⟨o,es,ep,k _ o loc ho,r⟩
 ·refine (I.hok b u e).stay (fun c v hc q=>k c v ?_ q) (fun _ q=>q) fun _ _ q=>q
  rcases hc with z | z
  ·rw [z]
   exact nit b u e
  ·exact nit c _ z
theorem _root_.L2.Inv.pairOut {X:Cx}{pins:List (Addr×Obj)}{σ:L2.St}{H:Hp}{s:Shared}{h':Heap}{t':Nat}{ch:List Addr}{x y:V}{u v:Value}(I:Inv X pins σ H s)(k:Kept ch s.heap h')(f:∀ b∈ch,FpOk X pins H b)(lt:∀ b∈ch,b<s.heap.objs.size)
  (hp:h'.get? s.heap.objs.size=some { cls:=.type "tuple",data:=.seq #[u,v] }) (rx:RelV x u) (ry:RelV y v):Inv X pins σ (upd H s.heap.objs.size (.tup [x,y])) { s with heap:=h',toks:=t' }:=by
 have I1:Inv X pins σ (upd H s.heap.objs.size (.tup [x,y])) { s with heap:=s.heap.push { cls:=.type "tuple",data:=.seq #[u,v] },toks:=s.toks } :=
  I.laid (fun b o e=>Heap.get?_push_of_some _ e) (Nat.le_refl _) ⟨by show 2≤sizeLine; decide,[u,v],.cons rx (.cons ry .nil),⟨_,Heap.get?_push_size _ rfl,rfl,_,rfl⟩⟩
 refine Inv.turnedL (s:={ s with heap:=s.heap.push { cls:=.type "tuple",data:=.seq #[u,v] },toks:=s.toks }) (ch:=ch) I1 (fun c o n e=>?_) fun b hb=>?_
 ·replace e:(s.heap.push { cls:=.type "tuple",data:=.seq #[u,v] }).get? c=some o:=e
  by_cases z:c=s.heap.objs.size
  ·subst z
   rw [Heap.get?_push_size s.heap (o:={ cls:=.type "tuple",data:=.seq #[u,v] }) rfl] at e;cases e;exact hp
  ·rw [Heap.get?_push_ne _ _ _ z] at e
   exact k c o n e
 ·obtain ⟨f0,f1⟩:=f b hb
  exact ⟨by rw [qt (Nat.ne_of_lt (lt b hb))]; exact f0,f1⟩
def Itz (K:W.Frag)(a b:Addr):It :=
 ⟨fun i H=>∃ xs ys x y,SqT K H a xs∧SqT K H b ys∧xs[i]?=some x∧ys[i]?=some y,
  fun i H v H'=>∃ t x y,v=.ref t∧H t=none∧H'=upd H t (.tup [x,y])∧∀ xs ys,SqT K H a xs→SqT K H b ys→xs[i]?=some x∧ys[i]?=some y,
  fun i H=>∃ xs ys,SqT K H a xs∧SqT K H b ys∧(xs.length≤i∨ys.length≤i)⟩
def Sq (K:W.Frag)(H:Hp):Bool→Addr→List V→Prop
 | true=>SqT K H
 | false=>SqL K H
def Ite (K:W.Frag)(b:Bool)(a:Addr):It :=
 ⟨fun i H=>∃ xs x,Sq K H b a xs∧xs[i]?=some x,
  fun i H v H'=>∃ t x,v=.ref t∧H t=none∧H'=upd H t (.tup [.int i,x])∧∀ xs,Sq K H b a xs→xs[i]?=some x,
  fun i H=>∃ xs,Sq K H b a xs∧xs.length≤i⟩
theorem Sq.at {X:Cx}{s:Shared}(I:Inv X pins σ H s)(h:Sq X.K H b a xs):∃ its:List Value,Vals xs its∧IsSq s.heap b a its.toArray:=by
 cases b with
 | true =>
  obtain ⟨its,rv,p,_⟩:=I.tuple h;exact ⟨its,rv,p⟩
 | false =>
  obtain ⟨its,rv,p,_⟩:=I.list h;exact ⟨its,rv,p.isList⟩
theorem Sq.inj {X:Cx}{s:Shared}{ys:List V}(I:Inv X pins σ H s)(h:Sq X.K H b a xs)(h':Sq X.K H b a ys):xs=ys:=by
 cases b with
 | true=>exact I.tuple_inj h h'
 | false=>exact I.list_inj h h'
theorem qau {P:Program}{w:World}(p1 p2 z a o q r:Addr)(D:qcx z a o q r p1 p2) :
  Turn P w K (.Tuple es k0 pos) (Itz K p1 p2) [z,a,o,q,r] z (fun i h=>qoo h true true z a o q r p1 p2 .none i i) where
 mem:=by simp
 obj:=fun i h Z b hb=>by
  obtain ⟨hz,hI,⟨x,y,hO⟩,hq,hr⟩:=Z;simp only [List.mem_cons,List.mem_nil_iff,or_false,List.not_mem_nil] at hb
  rcases hb with rfl | rfl | rfl | rfl | rfl
  ·exact ⟨_,hz,fun v e=>by cases e⟩
  ·exact ⟨_,hI,fun v e=>by cases e⟩
  ·exact ⟨_,hO,fun v e=>by cases e⟩
  ·exact hq.ex
  ·exact hr.ex
 keep:=fun i h h' Z k=>by
  obtain ⟨hz,hI,⟨x,y,hO⟩,hq,hr⟩:=Z;exact ⟨k z (by simp) _ hz,k a (by simp) _ hI,⟨x,y,k o (by simp) _ hO⟩,hq.at fun u e=>k q (by simp) u e,hr.at fun u e=>k r (by simp) u e⟩
 item:=by
  intro X hP hw hK hc i pins s σ H E I hf Z hg;subst hP hw hK;obtain ⟨xs,ys,x,y,hxs,hys,hx,hy⟩:=hg;obtain ⟨its,rv,p,_⟩:=I.tuple hxs;obtain ⟨jts,rw',p',_⟩:=I.tuple hys;obtain ⟨u,hu,ru⟩:=rv.get hx;obtain ⟨v,hv,rv'⟩:=rw'.get hy
  have ltz:∀ b∈[z,o,q,r],b<s.heap.objs.size:=fun b hb=>by
   obtain ⟨hz,hI,⟨x,y,hO⟩,hq,hr⟩:=id Z;simp only [List.mem_cons,List.mem_nil_iff,or_false,List.not_mem_nil] at hb
   rcases hb with rfl | rfl | rfl | rfl
   ·exact Heap.lt_size hz
   ·exact Heap.lt_size hO
   ·exact Heap.lt_size hq.ex.choose_spec.1
   ·exact Heap.lt_size hr.ex.choose_spec.1
  have lta:a<s.heap.objs.size:=Heap.lt_size Z.ins;have hf4:∀ b∈[z,o,q,r],FpOk X pins H b:=fun b hb=>hf b (by simp only [List.mem_cons,List.mem_nil_iff,or_false,List.not_mem_nil] at hb ⊢; rcases hb with rfl | rfl | rfl | rfl <;> simp);refine qxt D Z (show s.heap.IsTuple p1 its.toArray from p) (show s.heap.IsTuple p2 jts.toArray from p') (x:=u) (y:=v) (by simpa using hu) (by simpa using hv) fun h' Z' hp sz kk=>?_;refine ⟨_,rfl,?_⟩;refine wpAny_letOwnedTupleGo_zip Z'.zip fun h2 hz2 s2=>?_;obtain ⟨⟨za,zo,zq,zr⟩,_,_,_⟩:=qtt D.nd;have k2:Kept [z,o,q,r] s.heap h2:=kk.trans (Kept.of s2 (by simp));have hp2:h2.get? s.heap.objs.size=some { cls:=.type "tuple",data:=.seq #[u,v] }:=s2.extBut _ _ (Nat.ne_of_gt (ltz z (by simp))) hp;refine ⟨.ref s.heap.objs.size,upd H s.heap.objs.size (.tup [x,y]),I.pairOut (t':=s.toks) k2 hf4 ltz hp2 ru rv',rfl,⟨_,x,y,rfl,I.fresh,rfl,fun xs' ys' h1 h2=>?_⟩,?_,fun b hb=>?_⟩
  ·rw [I.tuple_inj h1 hxs,I.tuple_inj h2 hys]
   exact ⟨hx,hy⟩
  ·obtain ⟨_,hI,⟨x1,y1,hO⟩,hq,hr⟩:=Z'
   exact ⟨hz2,s2.extBut _ _ za.symm hI,⟨x1,y1,s2.extBut _ _ zo.symm hO⟩,hq.at fun u e=>s2.extBut _ _ zq.symm e,hr.at fun u e=>s2.extBut _ _ zr.symm e⟩
  ·have lb:b<s.heap.objs.size:=by
    by_cases e:b=a
    ·rw [e]
     exact lta
    ·exact ltz b (by simp only [List.mem_cons,List.mem_nil_iff,or_false,List.not_mem_nil] at hb ⊢; rcases hb with h | h | h | h | h <;> simp [h]; exact absurd h e)
   rw [qt (Nat.ne_of_lt lb)];exact (hf b hb).1
 done:=by
  intro X hP hw hK hc i pins s σ H E I hf Z hg;subst hP hw hK;obtain ⟨xs,ys,hxs,hys,hl⟩:=hg;obtain ⟨its,rv,p,_⟩:=I.tuple hxs;obtain ⟨jts,rw',p',_⟩:=I.tuple hys;have e1:=rv.length;have e2:=rw'.length;have hf4:∀ b∈[z,o,q,r],FpOk X pins H b:=fun b hb=>hf b (by simp only [List.mem_cons,List.mem_nil_iff,or_false,List.not_mem_nil] at hb ⊢; rcases hb with rfl | rfl | rfl | rfl <;> simp);exact zip_end (I.ok.hd hc) D Z (show s.heap.IsTuple p1 its.toArray from p) (show s.heap.IsTuple p2 jts.toArray from p') (by simp; omega) fun h' kk=>⟨rfl,I.turnedL (t':=s.toks) kk hf4⟩
 self:=fun _ _ _ _ _ Z h=>wpAny_pyIter_zip Z.zip h
theorem qbp {P:Program}{w:World}(b:Bool)(p e q:Addr)(ne:e≠q) :
  Turn P w K (.Tuple es k0 pos) (Ite K b p) [e,q] e (fun i h=>(∃ old,IsEnum h e q (i:Nat) old)∧IsIt h b q p i) where
 mem:=by simp
 obj:=fun i h Z c hb=>by
  obtain ⟨⟨old,he⟩,hq⟩:=Z;simp only [List.mem_cons,List.mem_nil_iff,or_false,List.not_mem_nil] at hb
  rcases hb with rfl | rfl
  ·exact ⟨_,he,fun v e=>by cases e⟩
  ·exact hq.ex
 keep:=fun i h h' Z k=>by
  obtain ⟨⟨old,he⟩,hq⟩:=Z;exact ⟨⟨old,k e (by simp) _ he⟩,hq.at fun u x=>k q (by simp) u x⟩
 item:=by
  intro X hP hw hK hc i pins s σ H E I hf Z hg;subst hP hw hK;obtain ⟨xs,x,hxs,hx⟩:=hg;obtain ⟨its,rv,hp⟩:=hxs.at I;obtain ⟨u,hu,ru⟩:=rv.get hx;obtain ⟨⟨old,he⟩,hq⟩:=Z
  have lt:∀ b∈[e,q],b<s.heap.objs.size:=fun b hb=>by
   simp only [List.mem_cons,List.mem_nil_iff,or_false,List.not_mem_nil] at hb
   rcases hb with rfl | rfl
   ·exact Heap.lt_size he
   ·exact Heap.lt_size hq.ex.choose_spec.1
  refine qus he hq hp (x:=u) (by simpa using hu) ne fun h' he' hq' ht sz kk=>?_;refine ⟨_,rfl,?_⟩;refine wpAny_letOwnedTupleGo_enum he' fun h2 he2 s2=>?_;replace s2:Heap.SameBut e h' h2:=s2;have k1:Kept [e,q] s.heap h':=fun c o n x=>kk c o (fun z=>n (by simp [z])) (fun z=>n (by simp [z])) x;have k2:Kept [e,q] s.heap h2:=k1.trans (Kept.of s2 (by simp));have ht2:h2.get? s.heap.objs.size=some { cls:=.type "tuple",data:=.seq #[.int i s.toks,u] }:=s2.extBut _ _ (Nat.ne_of_gt (lt e (by simp))) ht;refine ⟨.ref s.heap.objs.size,upd H s.heap.objs.size (.tup [.int i,x]),I.pairOut (t':=s.toks+1) k2 hf lt ht2 ⟨_,rfl⟩ ru,rfl,⟨_,x,rfl,I.fresh,rfl,fun xs' h1=>?_⟩,⟨⟨u,?_⟩,hq'.at fun v c=>s2.extBut _ _ ne.symm c⟩,fun b hb=>?_⟩
  ·rw [h1.inj I hxs]
   exact hx
  ·show IsEnum h2 e q ((i+1:Nat):Int) u
   rw [Int.natCast_add];exact he2
  ·rw [qt (Nat.ne_of_lt (lt b hb))]
   exact (hf b hb).1
 done:=by
  intro X hP hw hK hc i pins s σ H E I hf Z hg;subst hP hw hK;obtain ⟨xs,hxs,hl⟩:=hg;obtain ⟨its,rv,hp⟩:=hxs.at I;obtain ⟨⟨old,he⟩,hq⟩:=Z;have e1:=rv.length;exact qpw (I.ok.hd hc) he hq hp (by simp; omega) fun h' kk=>⟨rfl,I.turnedL (t':=s.toks) (ch:=[e,q]) (Kept.ext kk (by simp)) hf⟩
 self:=fun _ _ _ _ _ Z h=>by
  obtain ⟨⟨old,he⟩,hq⟩:=Z;exact wpAny_pyIter_enum he h
theorem qst {p1 p2:Nat}(h1:p1<n)(h2:p2<n):qcx (n+4) (n+2) (n+3) n (n+1) p1 p2:=by
 refine ⟨?_,fun h=>?_,fun h=>?_⟩
 ·simp only [List.nodup_cons,List.mem_cons,List.mem_nil_iff,or_false,not_or,List.not_mem_nil,not_false_eq_true,List.nodup_nil,and_true]
  have ne:∀ a b:Nat,a≠b→¬ a=b:=fun _ _ h=>h;exact ⟨⟨ne _ _ (by omega),ne _ _ (by omega),ne _ _ (by omega),ne _ _ (by omega)⟩,⟨ne _ _ (by omega),ne _ _ (by omega),ne _ _ (by omega)⟩,⟨ne _ _ (by omega),ne _ _ (by omega)⟩,ne _ _ (by omega)⟩
 ·replace h:p1=n+4∨p1=n+3∨p1=n∨p1=n+1:=by simpa using h
  omega
 ·replace h:p2=n+4∨p2=n+3∨p2=n∨p2=n+1:=by simpa using h
  omega
theorem ge5 {b:Nat}(h:b∈[n+4,n+2,n+3,n,n+1]):n≤b:=by
 simp only [List.mem_cons,List.mem_nil_iff,or_false,List.not_mem_nil] at h;omega
theorem ge2 {b:Nat}(h:b∈[n+1,n]):n≤b:=by
 simp only [List.mem_cons,List.mem_nil_iff,or_false,List.not_mem_nil] at h;omega
section
variable {X:Cx}
def iZip (K:W.Frag)(ta:TA):TI:=fun σ H R=>ta σ H fun vs H1=>∃ a b xs ys,vs=[.ref a,.ref b]∧SqT K H1 a xs∧SqT K H1 b ys∧R (Itz K a b) H1
def iEnum (K:W.Frag)(b:Bool)(ta:TA):TI:=fun σ H R=>ta σ H fun vs H1=>∃ a xs,vs=[.ref a]∧Sq K H1 b a xs∧R (Ite K b a) H1
theorem pi_zip {a b:Expr}{p:Pos}(hg:Gl X "zip")(hm:X.mg "zip"=none)(ha:PA X [a,b] ta)(hs:starEach [a,b] X.env=[(false,eval a X.env),(false,eval b X.env)]:=by rfl)(hs2:starEach [b] X.env=[(false,eval b X.env)]:=by rfl) :
  PI X (.Tuple es k0 tp) (.Call (.Name "zip" p) [a,b] [] pos) (iZip X.K ta):=by
 intro pins s σ H R I h;refine Call_ (qvc I hg hm boot_zip (PyProof.Rows.callWith_type1 (thn (ha pos pins s σ H _ I h) fun us s1 ⟨vs,H1,I1,r1,q1⟩=>?_) (by rw [hs,hs2]) (by rw [hs2]; rfl)));obtain ⟨p1,p2,xs,ys,e,h1,h2,q⟩:=q1;subst e;obtain ⟨its,_,t1,_⟩:=I1.tuple h1;obtain ⟨jts,_,t2,_⟩:=I1.tuple h2
 cases r1 with
 | cons r rr =>
  cases rr with
  | cons r' rr =>
   cases rr;cases r;cases r'
   have l1:p1<s1.heap.objs.size:=by obtain ⟨o,e,_⟩:=t1; exact Heap.lt_size e
   have l2:p2<s1.heap.objs.size:=by obtain ⟨o,e,_⟩:=t2; exact Heap.lt_size e
   refine qit t1 t2 fun h' Z kk=>wpAny_pyIter_zip Z.zip ?_;refine ⟨_,_,_,_,H1,rfl,I1.kept (t':=s1.toks) kk,qau p1 p2 _ _ _ _ _ (qst l1 l2),Z,fun b hb=>?_,q⟩;exact I1.fpOk (ge5 hb) (I1.hok.fresh (ge5 hb))
theorem qik (bt:Bool){a:Expr}{p:Pos}(hg:Gl X "enumerate")(hm:X.mg "enumerate"=none)(ha:PA X [a] ta)(hs:starEach [a] X.env=[(false,eval a X.env)]:=by rfl) :
  PI X (.Tuple es k0 tp) (.Call (.Name "enumerate" p) [a] [] pos) (iEnum X.K bt ta):=by
 intro pins s σ H R I h;refine Call_ (qvc I hg hm boot_enumerate (PyProof.Rows.callWith_type1 (thn (ha pos pins s σ H _ I h) fun us s1 ⟨vs,H1,I1,r1,q1⟩=>?_) hs rfl));obtain ⟨p1,xs,e,h1,q⟩:=q1;subst e;obtain ⟨its,_,t1⟩:=h1.at I1
 cases r1 with
 | cons r rr =>
  cases rr;cases r;refine qnt t1 fun h' he hq kk=>wpAny_pyIter_enum he ?_;refine ⟨_,_,_,_,H1,rfl,I1.kept (t':=s1.toks) kk,qbp bt p1 _ _ (Nat.succ_ne_self _),⟨⟨_,he⟩,hq⟩,fun b hb=>?_,q⟩;exact I1.fpOk (ge2 hb) (I1.hok.fresh (ge2 hb))
end
end Sv
namespace Sv
open PySem PySem.Spec PyProof.Rows L2
variable {Q:VK}{es:List Expr}{k:Nat}{t:Bool}{ta:TA}{σ:L2.St}
section
variable {K:W.Frag}{H:Hp}{R:It→Hp→Prop}{a b:Addr}{xs ys:List V}{vs:List V}
def ZipR (K:W.Frag)(vs:List V)(H:Hp)(R:It→Hp→Prop):Prop:=∃ a b xs ys,vs=[.ref a,.ref b]∧SqT K H a xs∧SqT K H b ys∧R (Itz K a b) H
theorem zip_ :iZip K ta σ H R=ta σ H fun vs H1=>ZipR K vs H1 R:=rfl
theorem ZipR.go (h1:SqT K H a xs)(h2:SqT K H b ys)(q:R (Itz K a b) H):ZipR K [.ref a,.ref b] H R:=⟨a,b,xs,ys,rfl,h1,h2,q⟩
def EnuR (K:W.Frag)(t:Bool)(vs:List V)(H:Hp)(R:It→Hp→Prop):Prop:=∃ a xs,vs=[.ref a]∧Sq K H t a xs∧R (Ite K t a) H
theorem enum_ :iEnum K t ta σ H R=ta σ H fun vs H1=>EnuR K t vs H1 R:=rfl
theorem EnuR.go (h1:Sq K H t a xs)(q:R (Ite K t a) H):EnuR K t [.ref a] H R:=⟨a,xs,rfl,h1,q⟩
structure ItP (J:It)(ps:List (V×V))(Ok:Hp→Prop):Prop where
 go:∀ i H,Ok H→i<ps.length→J.go i H
 yld:∀ i H v H',Ok H→i<ps.length→J.yld i H v H'→∃ t p,v=.ref t∧H t=none∧ps[i]?=some p∧H'=upd H t (.tup [p.1,p.2])
 stop:∀ i H,Ok H→ps.length≤i→J.stop i H
theorem itz:ItP (Itz K a b) (xs.zip ys) (fun H=>SqT K H a xs∧SqT K H b ys) where
 go:=fun i H ok lt=>by
  rw [List.length_zip] at lt;exact ⟨xs,ys,xs[i]'(by omega),ys[i]'(by omega),ok.1,ok.2,List.getElem?_eq_getElem _,List.getElem?_eq_getElem _⟩
 yld:=fun i H v H' ok lt y=>by
  obtain ⟨t,x,z,rfl,n,rfl,h⟩:=y;obtain ⟨h1,h2⟩:=h xs ys ok.1 ok.2;refine ⟨t,(x,z),rfl,n,?_,rfl⟩;rw [List.getElem?_zip_eq_some];exact ⟨h1,h2⟩
 stop:=fun i H ok le=>by
  rw [List.length_zip] at le;exact ⟨xs,ys,ok.1,ok.2,by omega⟩
def qlo (xs:List V):List (V×V):=xs.zipIdx.map fun p=>(.int (p.2:Int),p.1)
theorem qi9:(qlo xs).length=xs.length:=by simp [qlo]
theorem qbd {i:Nat}{p:V×V}(h:(qlo xs)[i]?=some p):∃ x,xs[i]?=some x∧p=(.int (i:Int),x):=by
 unfold qlo at h;rw [List.getElem?_map,List.getElem?_zipIdx] at h
 cases e:xs[i]? with
 | none =>
  rw [e] at h;cases h
 | some x =>
  rw [e] at h;refine ⟨x,rfl,?_⟩;have:=Option.some.inj h;rw [← this];simp
theorem ite :ItP (Ite K t a) (qlo xs) (fun H=>Sq K H t a xs) where
 go:=fun i H ok lt=>by
  rw [qi9] at lt;exact ⟨xs,xs[i],ok,List.getElem?_eq_getElem _⟩
 yld:=fun i H v H' ok lt y=>by
  obtain ⟨t,x,rfl,n,rfl,h⟩:=y;have h1:=h xs ok;refine ⟨t,(.int (i:Int),x),rfl,n,?_,rfl⟩;unfold qlo;rw [List.getElem?_map,List.getElem?_zipIdx,h1];simp
 stop:=fun i H ok le=>by
  rw [qi9] at le;exact ⟨xs,ok,le⟩
theorem ForR.pairs {J:It}{ps:List (V×V)}{Ok:Hp→Prop}{m n:Nat}{tb:TS}{D:Ends}{σ:L2.St}(it:ItP J ps Ok)(Pv:Nat→L2.St→Hp→Prop)(h0:Pv 0 σ H)(hl:∀ i σ H,Pv i σ H→Ok H)
  (hs:∀ i p t σ H,ps[i]?=some p→Pv i σ H→H t=none→tb { D with nx:=Pv (i+1),ct:=Pv (i+1),bk:=D.nx } ((σ.set m (some p.1)).set n (some p.2)) (upd H t (.tup [p.1,p.2]))) (hd:∀ σ H,Pv ps.length σ H→D.nx σ H) :
  ForR J (gTup K 2 (qu6 (qb4 m) (qu6 (qb4 n) gNil))) tb D σ H:=by
 refine ⟨fun i k σ H=>k=ps.length - i∧i≤ps.length∧Pv i σ H,⟨_,rfl,Nat.zero_le _,h0⟩,fun i k σ' H' hw=>?_⟩;obtain ⟨rfl,hi,p⟩:=hw
 by_cases lt:i<ps.length
 ·refine .inr ⟨it.go i H' (hl i σ' H' p) lt,Pv (i+1),fun σ2 H2 n2=>⟨_,?_,rfl,lt,n2⟩,fun v H2 y=>?_⟩
  ·omega
  ·obtain ⟨t,q,rfl,nt,hq,rfl⟩:=it.yld i H' v H2 (hl i σ' H' p) lt y
   exact qio (SqT.of qb0) (hs i q t σ' H' hq p nt)
 ·obtain rfl:i=ps.length:=by omega
  exact .inl ⟨it.stop _ _ (hl _ σ' H' p) (Nat.le_refl _),hd σ' H' p⟩
end
section
variable {X:Cx}
theorem quq {K:W.Frag}{pos:Pos}{t:TGs}{n:Nat}(hK:X.K=K)(hc:X.calm=true)(h:PGs X es t)(hn:(assignEach es X.env).length=n:=by rfl)(hst:(assignEach es X.env).findIdx? (·.1)=none:=by rfl):PG X (.Tuple es k pos) (gTup K n t) :=
 hK▸qj7 hc h hn hst
def qjq (K:W.Frag):R2:=fun x y H Q=>∃ a b xs ys,x=.ref a∧y=.ref b∧SqT K H a xs∧SqT K H b ys∧xs.length+ys.length≤sizeLine ∧
 (xs=[]→Q (.ref b) H)∧(xs≠[]→ys=[]→Q (.ref a) H)∧(xs≠[]→ys≠[]→∀ p,H p=none→Q (.ref p) (upd H p (.tup (xs++ys))))
theorem ql7:OpR X (binaryOp .Add) (qjq X.K):=by
 intro pins s σ H x y v u Q I rx ry h;obtain ⟨a,b,xs,ys,rfl,rfl,ha,hb,hz,q0,q1,q2⟩:=h
 by_cases hx:xs=[]
 ·cases rx
  cases ry;obtain ⟨its,r1,p1,_⟩:=I.tuple ha;obtain ⟨its2,r2,p2,_⟩:=I.tuple hb;obtain ⟨⟨cls,dd,data,sl⟩,ho,hc,n,hd⟩:=id p1;obtain ⟨⟨cls2,dd2,data2,sl2⟩,ho2,hc2,n2,hd2⟩:=id p2;cases hc;cases hd;cases hc2;cases hd2;exact concat_meets ⟨_,ho,rfl⟩ ⟨_,ho2,rfl⟩ noFill_tuple_add seq_tuple_add PySem.F.slot_tuple_add PySem.F.entry_tuple_add (PySem.F.args_tuple_add_2 _ _)
   (tuple_addW0 a b its.toArray its2.toArray n n2 dd dd2 sl sl2 (by simp [r1.nil_iff.mpr hx])) ⟨ho,ho2,⟨.ref b,H,I,rfl,q0 hx⟩⟩
 ·exact op_catT pins s σ H _ _ v u Q I rx ry ⟨a,b,xs,ys,rfl,rfl,ha,hb,hx,hz,q1 hx,q2 hx⟩
theorem qdd {K:W.Frag}{H:Hp}{a b:Addr}{xs ys:List V}(ha:H a=some (.tup xs))(hb:H b=some (.tup ys))(hz:xs.length+ys.length≤1000)(q:∀ p H',Same H H'→H' p=some (.tup (xs++ys))→Q (.ref p) H'):qjq K (.ref a) (.ref b) H Q:=by
 refine ⟨a,b,xs,ys,rfl,rfl,SqT.of ha,SqT.of hb,Nat.le_of_lt (qg2 hz),fun e=>q b H (Same.refl H) ?_,fun _ e=>q a H (Same.refl H) ?_,fun _ _ p hp=>q p _ (qe hp _) qb0⟩
 ·rw [hb,e]
  rfl
 ·rw [ha,e,List.append_nil]
theorem qsl {K:W.Frag}{H:Hp}{a:Addr}{xs:List V}(ha:H a=some (.tup xs))(hk:k<xs.length)(q:∀ p,H p=none→Q (.ref p) (upd H p (.tup (xs.take k)))):rSlT K (.ref a) none (some (k:Int)) H Q:=by
 refine ⟨a,xs,rfl,SqT.of ha,?_,?_⟩
 ·rw [HT.sIx_nat]
  omega
 ·rw [qlg (Nat.le_of_lt hk)]
  exact q
theorem qlf {K:W.Frag}{H:Hp}{a:Addr}{xs:List V}(ha:H a=some (.tup xs))(hk:k<xs.length)(q:∀ p,H p=none→Q (.ref p) (upd H p (.tup (xs.drop (k+1))))):rSlT K (.ref a) (some ((k:Int)+1)) none H Q:=by
 have e:(k:Int)+1=((k+1:Nat):Int):=by omega
 rw [e];refine ⟨a,xs,rfl,SqT.of ha,?_,?_⟩
 ·rw [HT.sIx_nat]
  omega
 ·rw [qsm hk]
  exact q
end
end Sv
namespace Sv
open PySem PySem.Spec PyProof.Rows L2
variable {R:Hp→Prop}
structure FnM (P:Program)(w:World)(K:W.Frag)(mg:Str→Option Value)(base:Heap)(C:Addr)(m:Str)(k:Nat)(ps:List Str)(sp:Sp):Prop where
 ex:∃ (f:Addr) (fd:FuncData),FnOk P w K mg base CX0 k f fd ps sp∧Meth K C m f∧Binds K fd ps []
structure FnI (P:Program)(w:World)(K:W.Frag)(mg:Str→Option Value)(base:Heap)(C:Addr)(k:Nat)(ps:List Str)(sp:Sp):Prop where
 ex:∃ (f:Addr) (fd:FuncData),FnOk P w K mg base CX0 k f fd ps sp∧Mk K C f∧Binds K fd ps []
structure FnC (P:Program)(w:World)(K:W.Frag)(mg:Str→Option Value)(base:Heap)(C:Addr)(m:Str)(k:Nat)(ps:List Str)(sp:Sp):Prop where
 ex:∃ (f:Addr) (fd:FuncData),FnOk P w K mg base CX0 k f fd ps sp∧Binds K fd ps []∧PySem.W.keepIn K (.ref f)=true∧PySem.W.specialIn K (.ref C) "__getattribute__"=some (some (.builtin "type.__getattribute__")) ∧
  PySem.W.readsIn K C (.type "type")=true∧PySem.W.findCls K (.ref C) (.type "type") m=some (.val (.ref f))
structure MDef (K:W.Frag)(C:Addr)(m qual:Str)(st:Stmt):Prop where
 ex:∃ (f:Addr) (fd:FuncData),Fun K m qual st f fd∧PySem.W.findIn K (.ref C) m=some (some (.ref f))∧PySem.W.isFn K (.ref f)=true
theorem mk_mdef {K:W.Frag}{C:Addr}{m qual:Str}{st:Stmt}{f:Addr}{oc kV dc pm cd ct:Value}{od an:Option Addr}{sl:Array (Option Value)}(a:W.findIn K (.ref C) m=some (some (.ref f)))
  (l:K.lookup f=some ⟨oc,od,.func (PySem.W.fnOf m qual (qo4 st) (qw3 st) (qh st) .none kV dc pm an cd ct),sl⟩) (c:PySem.W.codeIn K cd qual=true) (k:PySem.W.keepIn K (.ref f)=true) (n:PySem.W.isFn K (.ref f)=true):MDef K C m qual st :=
 ⟨⟨f,_,qqs l c k,a,n⟩⟩
section
variable {P:Program}{w:World}{K:W.Frag}{mg:Str→Option Value}{base:Heap}{C:Addr}{m qual:Str}{st:Stmt}{k:Nat}{ps:List Str}{sp:Sp}
theorem MDef.fnM (D:MDef K C m qual st)(b:∀ (kV doc pm:Value) (an:Option Addr) (cdv ct:Value) (us:List Value),us.length=ps.length→bindArgs (W.fnOf m qual (qo4 st) (qw3 st) (qh st) .none kV doc pm an cdv ct) ⟨us,[]⟩=pure (ps.zip us))
  (ok:∀ (f:Addr) (fd:FuncData),Fun K m qual st f fd→FnOk P w K mg base CX0 k f fd ps sp):FnM P w K mg base C m k ps sp:=by
 obtain ⟨f,fd,F,a,n⟩:=D.ex;exact ⟨⟨f,fd,ok f fd F,⟨a,n,F.kp⟩,F.binds b⟩⟩
theorem MDef.fnI (D:MDef K C "__init__" qual st)(mk:W.makesIn K C=true)(kp:W.keepIn K (.ref C)=true)(b:∀ (kV doc pm:Value) (an:Option Addr) (cdv ct:Value) (us:List Value),us.length=ps.length→bindArgs (W.fnOf "__init__" qual (qo4 st) (qw3 st) (qh st) .none kV doc pm an cdv ct) ⟨us,[]⟩=pure (ps.zip us))
  (ok:∀ (f:Addr) (fd:FuncData),Fun K "__init__" qual st f fd→FnOk P w K mg base CX0 k f fd ps sp):FnI P w K mg base C k ps sp:=by
 obtain ⟨f,fd,F,a,n⟩:=D.ex;exact ⟨⟨f,fd,ok f fd F,⟨mk,a,n,kp⟩,F.binds b⟩⟩
structure ClsDef (K:W.Frag)(C:Addr)(m qual:Str)(st:Stmt):Prop where
 ex:∃ (f:Addr) (fd:FuncData),Fun K m qual st f fd∧PySem.W.findCls K (.ref C) (.type "type") m=some (.val (.ref f))
 ga:PySem.W.specialIn K (.ref C) "__getattribute__"=some (some (.builtin "type.__getattribute__"))
 rd:PySem.W.readsIn K C (.type "type")=true
theorem mk_cdef {f:Addr}{oc kV dc pm cd ct:Value}{od an:Option Addr}{sl:Array (Option Value)}(a:W.findCls K (.ref C) (.type "type") m=some (.val (.ref f)))
  (l:K.lookup f=some ⟨oc,od,.func (PySem.W.fnOf m qual (qo4 st) (qw3 st) (qh st) .none kV dc pm an cd ct),sl⟩) (c:PySem.W.codeIn K cd qual=true) (k:PySem.W.keepIn K (.ref f)=true)
  (g:PySem.W.specialIn K (.ref C) "__getattribute__"=some (some (.builtin "type.__getattribute__"))) (r:PySem.W.readsIn K C (.type "type")=true):ClsDef K C m qual st:=⟨⟨f,_,qqs l c k,a⟩,g,r⟩
theorem ClsDef.fnC (D:ClsDef K C m qual st)(b:∀ (kV doc pm:Value) (an:Option Addr) (cdv ct:Value) (us:List Value),us.length=ps.length→bindArgs (W.fnOf m qual (qo4 st) (qw3 st) (qh st) .none kV doc pm an cdv ct) ⟨us,[]⟩=pure (ps.zip us))
  (ok:∀ (f:Addr) (fd:FuncData),Fun K m qual st f fd→FnOk P w K mg base CX0 k f fd ps sp):FnC P w K mg base C m k ps sp:=by
 obtain ⟨f,fd,F,a⟩:=D.ex;exact ⟨⟨f,fd,ok f fd F,F.binds b,F.kp,D.ga,D.rd,a⟩⟩
end
section
variable {X:Cx}{k j:Nat}{C:Addr}{ps:List Str}{sp:Sp}{x m:Str}{p pos apos:Pos}{e o:Expr}{es:List Expr}{ta:TE}{t:TA}{pl:Sem Bool}
def qhp (P:Program)(w:World)(K:W.Frag)(mg:Str→Option Value)(base:Heap)(j:Nat)(m:Str)(ta:TE)(t:TA):TE:=fun σ H Q=>ta σ H fun x H1=>∃ (a C dx:Addr) (fs:List (Str×V)) (k:Nat) (ps:List Str) (sp:Sp),
 x=.ref a∧H1 a=some (.ins C dx fs)∧fs.lookup m=none∧k≤j∧Cls K C∧FnM P w K mg base C m k ps sp∧t σ H1 fun vs H2=>sp (x::vs) H2 Q E0
theorem qam (he:PE X o ta)(hr:Room j X.A)(ha:PA X (e::es) t)(hst:starEach (e::es) X.env=(false,eval e X.env)::starEach es X.env:=by rfl)(hpl:(backTo pos (starEach es X.env)).any (·.1)=false:=by rfl)
  (ht:eval (.Call (.Attribute o m apos) (e::es) [] pos) X.env=(do
   let ov ← eval o X.env
   standAt apos.atName
   let (f,first) ← holding [ov] (getMethod ov m pl)
   callWith pos f first (backTo pos (starEach (e::es) X.env)) (backToKw pos (keywordEach [] X.env))):=by rfl):PE X (.Call (.Attribute o m apos) (e::es) [] pos) (qhp X.prog X.w X.K X.mg X.base j m ta t):=by
 intro pins s σ H Q I h;refine PySem.W.methodCall_KW (pl:=pl) (thn (he pins s σ H _ I h) fun u s1 ⟨x,H1,I1,rx,a,C,dx,fs,k,ps,sp,ex,ea,l,hk,c,F,q⟩=>?_) ht;subst ex;obtain rfl:u=Value.ref a:=rx;obtain ⟨f,fd,G,hm,b⟩:=F.ex;refine qie I1 ea c hm l ?_;refine PySem.W.callWith_K (first:=[.ref a]) (h₀:=X.base) I.ok.mod.kin hm.kp (thn (ha pos pins s1 σ H1 _ I1 q) fun us s2 ⟨vs,H2,I2,r,q2⟩=>⟨I2.kIn,?_⟩) hst hpl;exact qjh (us:=.ref a::us) (vs:=.ref a::vs) G (hr.mono hk) b .nil qnn I2 (.cons rfl r) (by rw [List.append_nil]; exact q2)
theorem qvq (he:PE X o ta)(hr:Room j X.A)
  (ht:eval (.Call (.Attribute o m apos) [] [] pos) X.env=(do
   let ov ← eval o X.env
   standAt apos.atName
   let (f,first) ← holding [ov] (getMethod ov m pl)
   callWith pos f first (backTo pos (starEach [] X.env)) (backToKw pos (keywordEach [] X.env))):=by rfl):PE X (.Call (.Attribute o m apos) [] [] pos) (qhp X.prog X.w X.K X.mg X.base j m ta tNil):=by
 intro pins s σ H Q I h;refine PySem.W.methodCall_KW (pl:=pl) (thn (he pins s σ H _ I h) fun u s1 ⟨x,H1,I1,rx,a,C,dx,fs,k,ps,sp,ex,ea,l,hk,c,F,q⟩=>?_) ht;subst ex;obtain rfl:u=Value.ref a:=rx;obtain ⟨f,fd,G,hm,b⟩:=F.ex;refine qie I1 ea c hm l ?_;exact PySem.W.callWith_K0 (first:=[.ref a]) I1.kIn hm.kp (qjh (us:=[.ref a]) (vs:=[.ref a]) G (hr.mono hk) b .nil qnn I1 (.cons rfl .nil) (by exact q))
theorem qbe (F:FnI X.prog X.w X.K X.mg X.base C k ps sp)(hr:Room j X.A)(hk:k+1≤j)(hg:Gl X x)(hm:X.mg x=some (.ref C))(ha:PA X (e::es) t)(hdb:(x == ("__debug__":Str))=false:=by decide)
  (he:starEach (e::es) X.env=(false,eval e X.env)::starEach es X.env:=by rfl) (hpl:(backTo pos (starEach es X.env)).any (·.1)=false:=by rfl):PE X (.Call (.Name x p) (e::es) [] pos) (qgu C sp [] E0 t):=by
 obtain ⟨f,fd,G,M,b⟩:=F.ex;exact pe_make M G (hr.mono hk) hg hm b .nil qnn ha hdb he hpl
theorem pe_cm (he:PE X o (tC (.ref C)))(F:FnC X.prog X.w X.K X.mg X.base C m k ps sp)(hr:Room j X.A)(hk:k≤j)(ha:PA X (e::es) t)(hst:starEach (e::es) X.env=(false,eval e X.env)::starEach es X.env:=by rfl)(hpl:(backTo pos (starEach es X.env)).any (·.1)=false:=by rfl)
  (ht:eval (.Call (.Attribute o m apos) (e::es) [] pos) X.env=(do
   let ov ← eval o X.env
   standAt apos.atName
   let (f,first) ← holding [ov] (getMethod ov m pl)
   callWith pos f first (backTo pos (starEach (e::es) X.env)) (backToKw pos (keywordEach [] X.env))):=by rfl):PE X (.Call (.Attribute o m apos) (e::es) [] pos) (qhj sp [] E0 t):=by
 intro pins s σ H Q I h;obtain ⟨f,fd,G,b,kp,g1,g2,g3⟩:=F.ex;refine PySem.W.methodCall_KW (pl:=pl) (thn (he pins s σ H (fun x H1=>x=.ref C∧H1=H) I ⟨rfl,rfl⟩) fun u s1 ⟨x,H1,I1,rx,ex,eH⟩=>?_) ht;subst ex eH;obtain rfl:u=Value.ref C:=rx;refine PySem.W.method_cls I1.kIn g1 (PySem.W.cls_value I1.kIn g2 g3 (qni (v:=.ref f) rfl) ?_);have I2:=I1.tok (s1.toks+1);refine PySem.W.callWith_K (first:=[]) (h₀:=X.base) I.ok.mod.kin kp (thn (ha pos pins _ σ H1 _ I2 h) fun us s2 ⟨vs,H2,I3,r,q2⟩=>⟨I3.kIn,?_⟩) hst hpl;exact qjh G (hr.mono hk) b .nil qnn I3 r q2
def rIsiC (K:W.Frag):List V→Hp→VK→Prop:=fun xs H Q=>∃ x C t b,xs=[x,.ref C]∧TyOf K H x t∧W.kitOne K t (.ref C)=some b∧Q (.bl b) H
theorem qr7:qn6 X (.builtin "isinstance") (rIsiC X.K):=by
 intro pins s σ H xs us Q I r h;obtain ⟨x,C,t,b,rfl,ty,e,q⟩:=h;obtain ⟨u,w',rfl,ru,rw'⟩:=vals2 r;cases rw';exact qli I ru ty e fun tk=>⟨.bl b,H,I.tok _,rfl,q⟩
end
section
variable {K:W.Frag}{H:Hp}{Q:VK}{σ:L2.St}{ta tv:TE}{t:TA}{f:Str}{D:Ends}{a C dx:Addr}{fs:List (Str×V)}{v y:V}{sp:Sp}{vs:List V}
def FldR (K:W.Frag)(f:Str)(x:V)(H:Hp)(Q:VK):Prop:=∃ a C dx fs v,x=.ref a∧H a=some (.ins C dx fs)∧Cls K C∧NoAttr K C f∧fs.lookup f=some v∧Q v H
theorem fld_:tFld K ta f σ H Q=ta σ H fun x H1=>FldR K f x H1 Q:=rfl
theorem FldR.go (h:H a=some (.ins C dx fs))(c:Cls K C)(n:NoAttr K C f)(l:fs.lookup f=some v)(q:Q v H):FldR K f (.ref a) H Q:=⟨a,C,dx,fs,v,rfl,h,c,n,l,q⟩
def SFldR (K:W.Frag)(f:Str)(y x:V)(H:Hp)(R:Hp→Prop):Prop:=∃ a C dx fs,x=.ref a∧H a=some (.ins C dx fs)∧Cls K C∧NoAttr K C f∧fs.length<1000∧R (upd H a (.ins C dx (putF f y fs)))
theorem sfld_:sFld K ta tv f D σ H=tv σ H fun y H1=>ta σ H1 fun x H2=>SFldR K f y x H2 fun H'=>D.nx σ H':=rfl
theorem SFldR.go (h:H a=some (.ins C dx fs))(c:Cls K C)(n:NoAttr K C f)(l:fs.length<1000)(q:R (upd H a (.ins C dx (putF f y fs)))):SFldR K f y (.ref a) H R:=⟨a,C,dx,fs,rfl,h,c,n,l,q⟩
def MakeR (C:Addr)(sp:Sp)(vs:List V)(H:Hp)(Q:VK):Prop:=∀ x dx,H x=none→H dx=none→dx≠x→sp (.ref x::vs) (upd (upd H dx (.own x)) x (.ins C dx [])) (fun v H2=>v=.non∧Q (.ref x) H2) E0
theorem make_:qgu C sp [] E0 t σ H Q=t σ H fun vs H1=>MakeR C sp vs H1 Q:=by
 unfold qgu MakeR;simp only [List.append_nil]
def MethR (P:Program)(w:World)(K:W.Frag)(mg:Str→Option Value)(base:Heap)(j:Nat)(m:Str)(x:V)(t:TA)(σ:L2.St)(H:Hp)(Q:VK):Prop:=∃ (a C dx:Addr) (fs:List (Str×V)) (k:Nat) (ps:List Str) (sp:Sp),
 x=.ref a∧H a=some (.ins C dx fs)∧fs.lookup m=none∧k≤j∧Cls K C∧FnM P w K mg base C m k ps sp∧t σ H fun vs H2=>sp (x::vs) H2 Q E0
theorem methA_ {P:Program}{w:World}{mg:Str→Option Value}{base:Heap}{j:Nat}{m:Str}:qhp P w K mg base j m ta t σ H Q=ta σ H fun x H1=>MethR P w K mg base j m x t σ H1 Q:=rfl
theorem MethR.go {P:Program}{w:World}{mg:Str→Option Value}{base:Heap}{j k:Nat}{m:Str}{ps:List Str}(F:FnM P w K mg base C m k ps sp)(h:H a=some (.ins C dx fs))(c:Cls K C)(l:fs.lookup m=none)(hk:k≤j)(q:t σ H fun vs H2=>sp (.ref a::vs) H2 Q E0):MethR P w K mg base j m (.ref a) t σ H Q :=
 ⟨a,C,dx,fs,k,ps,sp,rfl,h,l,hk,c,F,q⟩
theorem rNeB_ {i j:Bool}:rNe (.bl i) (.bl j) H Q=Q (.bl (!decide (i=j))) H:=by
 have e:decide (V.bl i=V.bl j)=decide (i=j):=decide_eq_decide.mpr ⟨fun h=>V.bl.inj h,fun h=>by rw [h]⟩;unfold rNe;rw [e];exact propext ⟨fun h=>h.2,fun h=>⟨rfl,h⟩⟩
end
end Sv
namespace Sv
open PySem PySem.Spec PyProof.Rows L2
variable {i:Nat}
inductive All2 {α β:Type} (R:α→β→Prop):List α→List β→Prop where
 | nil:All2 R [] []
 | cons {x:α} {y:β} {xs:List α} {ys:List β} (h:R x y) (t:All2 R xs ys):All2 R (x::xs) (y::ys)
section
variable {α β:Type}{R S:α→β→Prop}{xs us:List α}{ys vs:List β}
theorem All2.len (h:All2 R xs ys):xs.length=ys.length:=by
 induction h with
 | nil=>rfl
 | cons _ _ ih=>rw [List.length_cons,List.length_cons,ih]
theorem All2.imp (h:All2 R xs ys)(k:∀ x y,R x y→S x y):All2 S xs ys:=by
 induction h with
 | nil=>exact .nil
 | cons h _ ih=>exact .cons (k _ _ h) ih
theorem All2.app (h:All2 R xs ys)(k:All2 R us vs):All2 R (xs++us) (ys++vs):=by
 induction h with
 | nil=>exact k
 | cons h _ ih=>exact .cons h ih
theorem All2.snoc {x:α}{y:β}(h:All2 R xs ys)(k:R x y):All2 R (xs++[x]) (ys++[y]):=h.app (.cons k .nil)
theorem All2.at {x:α}(h:All2 R xs ys)(e:xs[i]?=some x):∃ y,ys[i]?=some y∧R x y:=by
 induction h generalizing i with
 | nil=>cases e
 | cons h _ ih =>
  cases i with
  | zero =>
   cases e;exact ⟨_,rfl,h⟩
  | succ i=>exact ih e
theorem All2.ix {y:β}(h:All2 R xs ys)(e:ys[i]?=some y):∃ x,xs[i]?=some x∧R x y:=by
 induction h generalizing i with
 | nil=>cases e
 | cons h _ ih =>
  cases i with
  | zero =>
   cases e;exact ⟨_,rfl,h⟩
  | succ i=>exact ih e
end
theorem CmpR.rel {cap:List Nat}{te:TE}{J:It}{σ:L2.St}{H:Hp}{Q:VK}{xs:List V}{Ok:Hp→Prop}(R:Addr→Hp→V→V→Prop)(mono:∀ D H H' x v,(∀ b o,b≠D→H b=some o→H' b=some o)→R D H x v→R D H' x v)(it:ItOf J xs Ok)(hz:xs.length≤1000)(ok:∀ H',Same H H'→Ok H')
  (hs:∀ D x H' ys (Q':VK),x∈xs→H D=none→Same H H'→H' D=some (.lst ys)→(∀ v H2,Same H' H2→R D H2 x v→Q' v H2)→te (some x::cap.map fun i=>σ.getD i none) H' Q')
  (hd:∀ D H' vs,H D=none→Same H H'→H' D=some (.lst vs)→All2 (R D H') xs vs→Q (.ref D) H'):CmpR 1 cap (qb4 0) tYes te J σ H Q:=by
 intro D hD
 have keep:∀ {H':Hp} {o:HO},Same H H'→Same H (upd H' D o):=fun sm b o e=>by
  rw [qt (qz e hD)];exact sm b o e
 refine ⟨fun i m σ' H'=>m=xs.length - i∧i≤xs.length∧∃ t vs,σ'=t::(cap.map fun i=>σ.getD i none)∧Same H H'∧H' D=some (.lst vs)∧All2 (R D H') (xs.take i) vs,⟨_,rfl,Nat.zero_le _,none,[],rfl,keep (Same.refl _),qb0,.nil⟩,fun i m σ' H' hw=>?_⟩;obtain ⟨rfl,hi,t,vs,rfl,sm,hl,al⟩:=hw
 by_cases lt:i<xs.length
 ·refine .inr ⟨it.go i _ (ok _ sm) lt,fun σ2 H2=>∃ t vs,σ2=t::(cap.map fun i=>σ.getD i none)∧Same H H2∧H2 D=some (.lst vs)∧All2 (R D H2) (xs.take (i+1)) vs,fun σ2 H2 n2=>⟨_,?_,rfl,lt,n2⟩,fun x H2 y=>?_⟩
  ·omega
  ·obtain ⟨rfl,hx⟩:=it.yld i _ x H2 (ok _ sm) lt y
   show te (some x::(cap.map fun i=>σ.getD i none)) _ _;refine hs D x H2 vs _ (List.mem_of_getElem? hx) hD sm hl fun v H3 s3 r=>⟨_,s3 _ _ hl,?_,_,vs++[v],rfl,keep (sm.trans s3),qb0,?_⟩
   ·have:=al.len
    rw [List.length_take] at this;exact qg2 (by omega)
   ·rw [List.take_add_one,hx,Option.toList_some]
    refine (All2.snoc (al.imp fun a b r=>mono D H2 _ a b (fun c o ne e=>?_) r) (mono D H3 _ x v (fun c o ne e=>?_) r))
    ·rw [qt ne]
     exact s3 _ _ e
    ·rw [qt ne]
     exact e
 ·obtain rfl:i=xs.length:=by omega
  refine .inl ⟨it.stop _ _ (ok _ sm) (Nat.le_refl _),?_⟩;rw [List.take_length] at al;exact hd D H' vs hD sm hl al
end Sv
namespace Sv
open PySem PySem.Spec PyProof.Rows L2
section
variable {M:Model}{A:Around}{E:Value→Shared→Prop}{env:Env}
variable {nm q:Str}{C N:Addr}{bs bm:List Value}{hdct:Bool}{sn:List Str}{sub:List Value}{ab:Bool}{col:Option Bool}{dd:Option Addr}{k0 k1 k2 k3 k5:Option Value}{newId:String}
end
section
variable {prog:Program}{w:World}{A:Around}{E:Value→Shared→Prop}{h:Heap}{g:Array GenState}{d:Drawn}{t:Nat}{os:OsState}
variable {nm q:Str}{C N:Addr}{bs bm bmB:List Value}{hdct:Bool}{sn:List Str}{sub:List Value}{ab:Bool}{col:Option Bool}{dd:Option Addr}{k0 k1 k2 k3 k5:Option Value}{B newId initId:String}
end
section
variable {prog:Program}{w:World}{A:Around}{E:Value→Shared→Prop}{s:Shared}{env:Env}
variable {nm q:Str}{C N:Addr}{bs bm bmB:List Value}{hdct:Bool}{sn:List Str}{sub:List Value}{ab:Bool}{col:Option Bool}{dd:Option Addr}{k0 k1 k2 k3 k5:Option Value}{B newId initId:String}
end
end Sv
namespace Sv
open PySem PySem.Spec PyProof.Rows L2 PySem.W Builtin Builtin.ObjectAttr
section
variable {K:W.Frag}{prog:Program}{w:World}{A:Around}{E:Value→Shared→Prop}{s:Shared}{x C:Addr}{name:Str}{v:Value}
end
end Sv
namespace Sv
open PySem PySem.Spec PyProof.Rows L2
variable {dd:Option Addr}
section
variable {prog:Program}{w:World}{A:Around}{E:Value→Shared→Prop}{K:W.Frag}{x D:Addr}{ox:Obj}{odo:Option Obj}{name:Str}{s:Shared}
end
def IsExc (H:Hp)(a C:Addr)(dd:Option Addr):Prop:=∃ φ,H a=some (.ext φ)∧∀ h,φ h→∃ (vs:Array Value) (sl:Array (Option Value)),h.get? a=some ⟨.ref C,dd,.fields vs,sl⟩
theorem IsExc.of {H:Hp}{a C:Addr}(h:H a=some (excO a (.ref C) dd)):IsExc H a C dd:=⟨_,h,fun _ z=>z⟩
section
variable {X:Cx}{e:Expr}{ta:TE}{f:Str}{pos:Pos}
end
end Sv
namespace Sv
open PySem PySem.Spec PyProof.Rows L2
section
variable {prog:Program}{w:World}{A:Around}{E:Value→Shared→Prop}{h:Heap}{g:Array GenState}{d:Drawn}{t:Nat}{os:OsState}
variable {nm q:Str}{C N:Addr}{bs bm bmB:List Value}{hdct:Bool}{sn:List Str}{sub:List Value}{ab:Bool}{col:Option Bool}{dd:Option Addr}{k0 k1 k2 k3 k5:Option Value}{B newId nid initId:String}
end
def exN (a C:Addr)(dd:Option Addr):HO:=.ext fun h=>∃ (vs:Array Value) (sl:Array (Option Value)) (t0:Addr),h.get? a=some ⟨.ref C,dd,.fields vs,sl⟩∧vs[0]?=some (.ref t0)∧vs[1]?=some .none∧vs[2]?=some .none∧4<vs.size
theorem IsExc.new {H:Hp}{a C:Addr}{dd:Option Addr}(h:H a=some (exN a C dd)):IsExc H a C dd:=⟨_,h,fun _ ⟨vs,sl,_,q,_⟩=>⟨vs,sl,q⟩⟩
section
variable {X:Cx}{o value:Expr}{f:Str}{ta tv:TE}{pos pos':Pos}
end
end Sv
namespace Sv
open PySem PySem.Spec PyProof.Rows L2
variable {H:Hp}{a:Addr}
section
variable {X:Cx}{C0:Addr}{pos apos:Pos}{e o:Expr}{es:List Expr}{t:TA}{pl:Sem Bool}
end
def del (H:Hp)(a:Addr):Hp:=fun b=>if b=a then none else H b
theorem del_ne {b:Addr}(h:b≠a):del H a b=H b:=if_neg h
theorem qig :del H a a=none:=if_pos rfl
end Sv
namespace L2
open PySem PySem.Spec PyProof.Rows
variable {H':Hp}{Q:Value→Shared→Prop}{b:Addr}{h':Heap}{ks:List Key}{vs:List (Key×Value)}{xs:List (List Key×Addr×Value)}
section
variable {κ:Type} [DecidableEq κ]
def valV (kvs:List (κ×V))(k:κ):Option V:=(kvs.find? fun kv=>decide (kv.1=k)).map (·.2)
def putK (kvs:List (κ×V))(k:κ)(v:V):List (κ×V) :=
  if (kvs.any fun kv=>decide (kv.1=k))=true then kvs.map (fun kv=>if kv.1=k then (kv.1,v) else kv) else kvs++[(k,v)]
def dropK (kvs:List (κ×V))(k:κ):List (κ×V):=kvs.filter fun kv=>decide (kv.1≠k)
theorem qre {p:κ×V}{r:List (κ×V)}{k:κ}(e:p.1=k):valV (p::r) k=some p.2:=by simp [valV,List.find?_cons,e]
theorem qse {p:κ×V}{r:List (κ×V)}{k:κ}(e:¬ p.1=k):valV (p::r) k=valV r k:=by simp [valV,List.find?_cons,e]
theorem qte (k:κ):∀ kvs:List (κ×V),(kvs.any fun kv=>decide (kv.1=k))=(valV kvs k).isSome
  | []=>rfl
  | p::r=>by
    rw [List.any_cons]
    by_cases e:p.1=k
    · simp only [qre e,decide_eq_true e,Bool.true_or,Option.isSome_some]
    · rw [qse e,decide_eq_false e,Bool.false_or]; exact qte k r
theorem qsc (kvs:List (κ×V))(k:κ)(v:V):(putK kvs k v).length≤kvs.length+1:=by
  unfold putK
  split
  · rw [List.length_map]; omega
  · rw [List.length_append,List.length_cons,List.length_nil]; omega
theorem qav {kvs:List (κ×V)}{k:κ}(v:V)(h:valV kvs k=none):putK kvs k v=kvs++[(k,v)]:=by
  unfold putK;rw [qte,h];exact if_neg (by decide)
theorem RelO.isSome_eq {o:Option V}{u:Option Value}(r:RelO o u):o.isSome=u.isSome:=by
  cases o with
  | none=>cases u with
    | none=>rfl
    | some _=>exact (show False from r).elim
  | some _=>cases u with
    | none=>exact (show False from r).elim
    | some _=>rfl
theorem RelO.getD {o:Option V}{u:Option Value}{d:V}{d':Value}(r:RelO o u)(rd:RelV d d'):RelV (o.getD d) (u.getD d'):=by
  cases o with
  | none=>cases u with
    | none=>exact rd
    | some _=>exact (show False from r).elim
  | some _=>cases u with
    | none=>exact (show False from r).elim
    | some _=>exact r
theorem KV.val {kvs:List (κ×V)}{vs:List (κ×Value)}(r:KV kvs vs)(k:κ):RelO (valV kvs k) (valueAt vs k):=by
  unfold KV at r
  induction r with
  | nil=>exact True.intro
  | @cons p q ps qs h t ih =>
    obtain ⟨h1,h2⟩:=h
    by_cases e:p.1=k
    · have e':q.1=k:=h1.symm.trans e
      have b:valueAt (q::qs) k=some q.2:=by simp [valueAt,List.find?_cons,e']
      rw [qre e,b]; exact h2
    · have e':¬ q.1=k:=fun z=>e (h1.trans z)
      have b:valueAt (q::qs) k=valueAt qs k:=by simp [valueAt,List.find?_cons,e']
      rw [qse e,b]; exact ih
theorem KV.any {kvs:List (κ×V)}{vs:List (κ×Value)}(r:KV kvs vs)(k:κ):(kvs.any fun kv=>decide (kv.1=k))=vs.any fun kv=>decide (kv.1=k):=by
  unfold KV at r
  induction r with
  | nil=>rfl
  | cons h t ih=>rw [List.any_cons,List.any_cons,ih,h.1]
theorem KV.repl {kvs:List (κ×V)}{vs:List (κ×Value)}(r:KV kvs vs)(k:κ){y:V}{u:Value}(ry:RelV y u) :
    KV (kvs.map fun kv=>if kv.1=k then (kv.1,y) else kv) (vs.map fun kv=>if kv.1=k then (kv.1,u) else kv):=by
  unfold KV at r ⊢
  induction r with
  | nil=>exact .nil
  | @cons p q ps qs h t ih =>
    rw [List.map_cons,List.map_cons];refine .cons ?_ ih;obtain ⟨h1,h2⟩:=h
    by_cases e:p.1=k
    · rw [if_pos e,if_pos (h1.symm.trans e)]; exact ⟨h1,ry⟩
    · rw [if_neg e,if_neg (fun z=>e (h1.trans z))]; exact ⟨h1,h2⟩
theorem KV.put {kvs:List (κ×V)}{vs:List (κ×Value)}(r:KV kvs vs)(k:κ){y:V}{u:Value}(ry:RelV y u):KV (putK kvs k y) (stored vs k u):=by
  unfold putK stored;rw [r.any k]
  by_cases e:(vs.any fun kv=>decide (kv.1=k))=true
  · rw [if_pos e,if_pos e]; exact r.repl k ry
  · rw [if_neg e,if_neg e]; exact Paired.snoc r ⟨rfl,ry⟩
theorem KV.drop {kvs:List (κ×V)}{vs:List (κ×Value)}(r:KV kvs vs)(k:κ):KV (dropK kvs k) (without vs k):=by
  unfold KV at r ⊢;unfold dropK without
  induction r with
  | nil=>exact .nil
  | @cons p q ps qs h t ih =>
    obtain ⟨h1,h2⟩:=h;rw [List.filter_cons,List.filter_cons]
    by_cases e:p.1=k
    · have a:¬ decide (p.1≠k)=true:=by simp [e]
      have b:¬ decide (q.1≠k)=true:=by simp [h1.symm.trans e]
      rw [if_neg a,if_neg b]; exact ih
    · have e':¬ q.1=k:=fun z=>e (h1.trans z)
      have a:decide (p.1≠k)=true:=by simp [e]
      have b:decide (q.1≠k)=true:=by simp [e']
      rw [if_pos a,if_pos b]; exact .cons ⟨h1,h2⟩ ih
theorem KV.length {kvs:List (κ×V)}{vs:List (κ×Value)}(r:KV kvs vs):kvs.length=vs.length:=Paired.length r
end
theorem qhw {P:Program}{w:World}{k:Key}{u:Value}(r:RelV (kV k) u):(qm3 P w).is k u=true:=by
  cases k with
  | inl i=>obtain ⟨t,e⟩:=(show ∃ t,u=Value.int i t from r); subst e; exact qrk P w i t
  | inr x=>obtain ⟨t,e⟩:=(show ∃ t,u=Value.str x t from r); subst e; exact qqk P w x t
theorem qki {P:Program}{w:World}:∀ {ks:List Key} {us:List Value},Vals (ks.map kV) us→ItemsAre (qm3 P w) ks us
  | [],_,r=>by rw [List.map_nil] at r; cases r; exact .nil
  | k::ks,_,r=>by
    rw [List.map_cons] at r
    cases r with
    | cons h t=>exact .cons (qhw h) (qki t)
abbrev KT (H:Hp):List (List Key×V)→List (List Key×Addr×Value)→Prop:=Paired fun p q=>p.1=q.1∧H q.2.1=some (.tup (p.1.map kV))∧RelV p.2 q.2.2
theorem KT.val {H:Hp}{kvs:List (List Key×V)}(r:KT H kvs xs)(k:List Key):RelO (valV kvs k) ((atKey xs k).map (·.2)):=by
  induction r with
  | nil=>exact True.intro
  | @cons p q ps qs h t ih =>
    obtain ⟨h1,_,h2⟩:=h
    by_cases e:p.1=k
    · have e':q.1=k:=h1.symm.trans e
      have b:atKey (q::qs) k=some q.2:=by simp [atKey,List.find?_cons,e']
      rw [qre e,b]; exact h2
    · have e':¬ q.1=k:=fun z=>e (h1.trans z)
      have b:atKey (q::qs) k=atKey qs k:=by simp [atKey,List.find?_cons,e']
      rw [qse e,b]; exact ih
theorem KT.repl {H:Hp}{kvs:List (List Key×V)}(r:KT H kvs xs)(k:List Key){y:V}{u:Value}(ry:RelV y u) :
    KT H (kvs.map fun kv=>if kv.1=k then (kv.1,y) else kv) (xs.map (putAt k u)):=by
  induction r with
  | nil=>exact .nil
  | @cons p q ps qs h t ih =>
    rw [List.map_cons,List.map_cons];refine .cons ?_ ih;obtain ⟨h1,h2,h3⟩:=h;unfold putAt
    by_cases e:p.1=k
    · rw [if_pos e,if_pos (h1.symm.trans e)]; exact ⟨h1,h2,ry⟩
    · rw [if_neg e,if_neg (fun z=>e (h1.trans z))]; exact ⟨h1,h2,h3⟩
theorem KT.put {H:Hp}{kvs:List (List Key×V)}(r:KT H kvs xs)(k:List Key){y:V}{u:Value}(hb:H b=some (.tup (k.map kV)))(ry:RelV y u) :
    KT H (putK kvs k y) (storedH xs k b u):=by
  have e:(kvs.any fun kv=>decide (kv.1=k))=(atKey xs k).isSome:=by
    rw [qte,(r.val k).isSome_eq,Option.isSome_map]
  unfold putK storedH;rw [e]
  by_cases q:(atKey xs k).isSome=true
  · rw [if_pos q,if_pos q]; exact r.repl k ry
  · rw [if_neg q,if_neg q]; exact Paired.snoc r ⟨rfl,hb,ry⟩
theorem KT.keeps {H:Hp}{kvs:List (List Key×V)}(r:KT H kvs xs)(ht:∀ b ys,H b=some (.tup ys)→H' b=some (.tup ys)):KT H' kvs xs :=
  Paired.mapP r fun _ _ z=>⟨z.1,ht _ _ z.2.1,z.2.2⟩
section
variable {P:Program}{w:World}{H:Hp}{h:Heap}{a:Addr}
theorem rd_of {u:HO}(ok:HOk P w H h)(e:Rd H a u):ObjOk P w H h a u:=e.ok ok
theorem qvs {kvs:List (Key×V)}(ok:HOk P w H h)(e:Rd H a (.dK kvs)):kvs.length≤sizeLine∧(a == sysModules)=false∧∃ vs,KV kvs vs∧h.DictOf (qm3 P w) a vs :=
  show ObjOk P w H h a (.dK kvs) from rd_of ok e
theorem dk_of {kvs:List (Key×V)}(ok:HOk P w H h)(e:H a=some (.dK kvs)):kvs.length≤sizeLine∧(a == sysModules)=false∧∃ vs,KV kvs vs∧h.DictOf (qm3 P w) a vs:=qvs ok (.inl e)
theorem qkm (ok:HOk P w H h)(e:H a=some (.tup (ks.map kV))):(tupleKind (qm3 P w)).is h ks a:=by
  obtain ⟨_,its,r,o,h1,h2,n,h3⟩:=(show ObjOk P w H h a (.tup (ks.map kV)) from ok a _ e);exact ⟨o,its.toArray,n,h1,h2,h3,by simpa using qki r⟩
theorem qsw {kvs:List (List Key×V)}(ok:HOk P w H h)(e:Rd H a (.dT kvs)):kvs.length≤sizeLine∧(a == sysModules)=false ∧
    ∃ xs,KT H kvs xs∧h.DictOfH (tupleKind (qm3 P w)) a xs:=by
  obtain ⟨z,y,xs,r,o,es,ep,h1,h2,h3,h4,h5⟩:=(show ObjOk P w H h a (.dT kvs) from rd_of ok e);refine ⟨z,y,xs,r,o,es,ep,h1,h2,h3,h4,fun x hx=>?_,h5⟩
  have all:∀ {l:List (List Key×V)} {m:List (List Key×Addr×Value)},KT H l m→∀ x∈m,(tupleKind (qm3 P w)).is h x.1 x.2.1:=by
    intro l m q
    induction q with
    | nil=>intro x hx; exact nomatch hx
    | @cons p q ps qs hq t ih =>
      intro x hx
      rcases List.mem_cons.mp hx with e | hx
      · subst e
        exact qkm ok (by rw [← hq.1]; exact hq.2.1)
      · exact ih x hx
  exact all r x hx
theorem dt_of {kvs:List (List Key×V)}(ok:HOk P w H h)(e:H a=some (.dT kvs)):kvs.length≤sizeLine∧(a == sysModules)=false ∧
    ∃ xs,KT H kvs xs∧h.DictOfH (tupleKind (qm3 P w)) a xs:=qsw ok (.inl e)
end
def DGet (H:Hp)(a:Addr)(y:V)(r:Option V):Prop :=
  (∃ kvs k,Rd H a (.dK kvs)∧y=kV k∧r=valV kvs k)∨∃ kvs k b,Rd H a (.dT kvs)∧y=.ref b∧H b=some (.tup (k.map kV))∧r=valV kvs k
def DPut (H:Hp)(a:Addr)(y v:V)(H':Hp):Prop :=
  (∃ kvs k,H a=some (.dK kvs)∧y=kV k∧kvs.length<sizeLine∧H'=upd H a (.dK (putK kvs k v))) ∨
  ∃ kvs k b,H a=some (.dT kvs)∧y=.ref b∧H b=some (.tup (k.map kV))∧kvs.length<sizeLine∧H'=upd H a (.dT (putK kvs k v))
theorem DGet.k {H:Hp}{a:Addr}{kvs:List (Key×V)}{k:Key}(e:H a=some (.dK kvs)):DGet H a (kV k) (valV kvs k):=.inl ⟨kvs,k,.inl e,rfl,rfl⟩
theorem DGet.t {H:Hp}{a:Addr}{kvs:List (List Key×V)}{k:List Key}(e:H a=some (.dT kvs))(eb:H b=some (.tup (k.map kV))):DGet H a (.ref b) (valV kvs k):=.inr ⟨kvs,k,b,.inl e,rfl,eb,rfl⟩
theorem DPut.k {H:Hp}{a:Addr}{kvs:List (Key×V)}{k:Key}{v:V}(e:H a=some (.dK kvs))(hl:kvs.length<sizeLine):DPut H a (kV k) v (upd H a (.dK (putK kvs k v))):=.inl ⟨kvs,k,e,rfl,hl,rfl⟩
theorem DPut.t {H:Hp}{a:Addr}{kvs:List (List Key×V)}{k:List Key}{v:V}(e:H a=some (.dT kvs))(eb:H b=some (.tup (k.map kV)))(hl:kvs.length<sizeLine) :
    DPut H a (.ref b) v (upd H a (.dT (putK kvs k v))):=.inr ⟨kvs,k,b,e,rfl,eb,hl,rfl⟩
section
variable {X:Cx}{pins:List (Addr×Obj)}{σ:St}{H:Hp}{s:Shared}{a:Addr}{y v:V}{u r:Value}{o:Option V}{A:Around}{E:Value→Shared→Prop}
theorem Inv.big (I:Inv X pins σ H s):sysModules<s.heap.objs.size:=by
  have h:mainGlobals<s.heap.objs.size:=(I.mod.glob.keeps I.bk).lt;exact Nat.lt_trans (by decide) h
theorem qzs (hu:A.units+1<cLine)(I:Inv X pins σ H s)(g:DGet H a y (some v))(ry:RelV y u)(h:∀ w' s',Inv X pins σ H s'→RelV v w'→Q w' s') :
    wpAny (model X.prog X.w) A (getItem (.ref a) u) Q E s:=by
  rcases g with ⟨kvs,k,e,ey,l⟩ | ⟨kvs,k,b,e,ey,eb,l⟩
  · subst ey
    obtain ⟨z,hd,vs,rel,dd⟩:=qvs I.hok e;obtain ⟨w',hw,rw'⟩:=RelO.some_of (v:=v) (o:=valueAt vs k) (by rw [l]; exact rel.val k);exact wpAny_getItem_of (qhw ry) dd.mapOf hw (h w' _ (I.tok _) rw')
  · subst ey
    cases (show u=Value.ref b from ry);obtain ⟨z,hd,xs,rel,dd⟩:=qsw I.hok e;obtain ⟨w',hw,rw'⟩:=RelO.some_of (v:=v) (o:=(atKey xs k).map (·.2)) (by rw [l]; exact rel.val k);obtain ⟨p,hp,hp2⟩:=Option.map_eq_some_iff.mp hw;refine wpAny_getItem_heap (tupleKind_room_in1 hu) (qkm I.hok eb) dd hp ?_;rw [hp2];exact h w' _ (I.tok _) rw'
theorem d_notIn (hu:A.units+1<cLine)(I:Inv X pins σ H s)(g:DGet H a y o)(ry:RelV y u)(h:∀ s',Inv X pins σ H s'→Q (.bool (!o.isSome)) s') :
    wpAny (model X.prog X.w) A (compareOp .NotIn u (.ref a)) Q E s:=by
  rcases g with ⟨kvs,k,e,ey,l⟩ | ⟨kvs,k,b,e,ey,eb,l⟩
  · subst ey
    obtain ⟨z,hd,vs,rel,dd⟩:=qvs I.hok e;refine wpAny_notIn_of (qhw ry) hd dd.mapOf ?_;rw [← (rel.val k).isSome_eq,← l];exact h _ (I.tok _)
  · subst ey
    cases (show u=Value.ref b from ry);obtain ⟨z,hd,xs,rel,dd⟩:=qsw I.hok e;refine wpAny_notIn_heap (tupleKind_room_in1 hu) (qkm I.hok eb) hd dd ?_;have q:=(rel.val k).isSome_eq;rw [Option.isSome_map] at q;rw [← q,← l];exact h _ (I.tok _)
theorem qxs {t':Nat}{ob:HO}(I:Inv X pins σ H s)(mu:Mut (H a))(hs:Heap.SameBut a s.heap h')(he:∃ q,h'.get? a=some q)(new:ObjOk X.prog X.w (upd H a ob) h' a ob) :
    Inv X pins σ (upd H a ob) { s with heap:=h',toks:=t' } :=
  I.write (x:=a) (e:=a) mu (.inl rfl) (fun b q hb z=>(hs.2 b hb).trans z) he new
theorem dk_new {P:Program}{w:World}{kvs:List (Key×V)}(z:kvs.length≤sizeLine)(hd:(a == sysModules)=false)(rel:KV kvs vs)(dd:h'.DictOf (qm3 P w) a vs) :
    ObjOk P w H' h' a (.dK kvs):=⟨z,hd,vs,rel,dd⟩
theorem qys {Q:Unit→Shared→Prop}(hu:A.units+1<cLine)(I:Inv X pins σ H s)(g:DPut H a y v H')(ry:RelV y u)(rv:RelV v r)(h:∀ s',Inv X pins σ H' s'→Q () s') :
    wpAny (model X.prog X.w) A (setItem (.ref a) u r) Q E s:=by
  rcases g with ⟨kvs,k,e,ey,l,eH⟩ | ⟨kvs,k,b,e,ey,eb,l,eH⟩
  · subst ey eH
    obtain ⟨z,hd,vs,rel,dd⟩:=dk_of I.hok e
    have hz:vs.length≤sizeLine:=by rw [← rel.length]; exact z
    have hl:(putK kvs k v).length≤sizeLine:=by have:=qsc kvs k v; omega
    refine wpAny_setItem_pairs (hsz:=hz) (qhw ry) dd fun h' dd' hs=>h _ ?_
    have he:∃ q,h'.get? a=some q:=let ⟨q,_,_,hq,_⟩:=dd'; ⟨q,hq⟩
    exact qxs I (by rw [e]; exact True.intro) hs he (dk_new hl hd (rel.put k rv) dd')
  · subst ey eH
    cases (show u=Value.ref b from ry);obtain ⟨z,hd,xs,rel,dd⟩:=dt_of I.hok e
    have hz:xs.length≤sizeLine:=by rw [← Paired.length rel]; exact z
    have hl:(putK kvs k v).length≤sizeLine:=by have:=qsc kvs k v; omega
    refine wpAny_setItem_heap (hsz:=hz) (tupleKind_room_in1 hu) (qkm I.hok eb) dd fun h' dd' hs=>h _ ?_;obtain ⟨q,es,ep,hq,h2,h3,h4,_,h5⟩:=dd';refine qxs I (by rw [e]; exact True.intro) hs ⟨q,hq⟩ ⟨hl,hd,_,(rel.put k eb rv).keeps fun c ys ec=>?_,q,es,ep,hq,h2,h3,h4,h5⟩;rw [qt (qmk ec e (fun z=>nomatch z))];exact ec
end
section
variable {X:Cx}{pins:List (Addr×Obj)}{σ:St}{H:Hp}{s:Shared}{a:Addr}{kvs:List (Key×V)}{k:Key}{u:Value}{A:Around}{E:Value→Shared→Prop}
theorem d_len (I:Inv X pins σ H s)(e:Rd H a (.dK kvs))(h:∀ t s',Inv X pins σ H s'→Q (.int kvs.length t) s'):wpAny (model X.prog X.w) A (call (.builtin "len") [.ref a]) Q E s:=by
  obtain ⟨z,hd,vs,rel,dd⟩:=qvs I.hok e;refine call_len_dict hd dd (by rw [← rel.length]; rw [sizeLine_eq] at z; omega) ?_;rw [← rel.length];exact h _ _ (I.tok _)
end
def NoSl (i:Expr):Prop:=∀ ov iv,subscripted i false ov iv=operate [ov,iv] (getItem ov iv)
theorem subD_of {prog:Program}{w:World}{A:Around}{E:Value→Shared→Prop}{s:Shared}{env:Env}{value slice:Expr}{pos:Pos}{T id:String}{Q:Value→Shared→Prop}
    (hl:typeLookup (.type T) "__getitem__"=pure (some (.builtin id))) (hs:NoSl slice)
    (h:wpAny (model prog w) A (eval value env) (fun o s₁=>wpAny (model prog w) A (eval slice env) (fun i s₂=>s₂.TypeIs o T∧wpAny (model prog w) A (getItem o i) Q E s₂) E s₁) E s) :
    wpAny (model prog w) A (eval (.Subscript value slice pos) env) Q E s:=by
  refine Subscript_ (wpAny_mono h (fun o s₁ h₁=>wpAny_mono h₁ (fun i s₂ h₂=>?_) fun _ _ x=>x) fun _ _ x=>x);obtain ⟨hT,h₂⟩:=h₂;unfold subscriptTail;refine wpAny_bind ?_;rw [getitemInPython_of_ne hT.not_modules];refine wpAny_bind (wpAny_specialOf hT hl ?_)
  have fin:wpAny (model prog w) A (subscripted slice false o i) (fun r s₃=>wpAny (model prog w) A (letTemporaryGo value o r >>= fun _=>pure r) Q E s₃) E s₂:=by
    rw [hs o i];exact wpAny_operating (wpAny_mono h₂ (fun r s₃ h₃=>wpAny_bind (wpAny_letTemporaryGo (wpAny_pure h₃))) fun _ _ x=>x)
  first
    | exact wpAny_pure (wpAny_bind fin)
    | exact wpAny_bind (wpAny_pure (wpAny_bind fin))
    | exact wpAny_bind fin
theorem qbl {X:Cx}{pins:List (Addr×Obj)}{σ:St}{H:Hp}{s:Shared}{a:Addr}{y:V}{o:Option V}(I:Inv X pins σ H s)(g:DGet H a y o):s.TypeIs (.ref a) "dict":=by
  rcases g with ⟨kvs,k,e,_,_⟩ | ⟨kvs,k,b,e,_,_,_⟩
  · obtain ⟨_,_,vs,_,dd⟩:=qvs I.hok e
    exact dd.typeIs
  · obtain ⟨_,_,xs,_,dd⟩:=qsw I.hok e
    exact dd.typeIs
def tDGet (td ty:TE):TE:=fun σ H Q=>td σ H fun x H1=>ty σ H1 fun y H2=>∃ a v,x=.ref a∧DGet H2 a y (some v)∧Q v H2
def qip (ty td:TE):TE:=fun σ H Q=>ty σ H fun y H1=>td σ H1 fun x H2=>∃ a o,x=.ref a∧DGet H2 a y o∧Q (.bl (!o.isSome)) H2
def sDPut (td ty tv:TE):TS:=fun D σ H=>tv σ H fun v H1=>td σ H1 fun x H2=>ty σ H2 fun y H3=>∃ a H4,x=.ref a∧DPut H3 a y v H4∧D.nx σ H4
section
variable {X:Cx}{o i e value:Expr}{pos pos' tpos:Pos}{td ty tv:TE}
theorem qk7 (hu:X.A.units+1<cLine)(ho:PE X o td)(hi:PE X i ty)(hs:NoSl i):PE X (.Subscript o i pos) (tDGet td ty):=by
  intro pins s σ H Q I h;refine subD_of PySem.F.slot_dict_getitem.lookup hs (thn (ho pins s σ H _ I h) fun u s1 ⟨x,H1,I1,rx,q1⟩=>thn (hi pins s1 σ H1 _ I1 q1) fun iv s2 ⟨y,H2,I2,ry,a,v,ex,g,q2⟩=>?_);subst ex;obtain rfl:u=Value.ref a:=rx;exact ⟨qbl I2 g,qzs hu I2 g ry fun w' s3 I3 rw'=>⟨v,H2,I3,rw',q2⟩⟩
theorem qkc (hu:X.A.units+1<cLine)(hi:PE X i ty)(ho:PE X o td):PC X .NotIn i o (qip ty td):=by
  intro pins s σ H Q I h;refine thn (hi pins s σ H _ I h) fun iv s1 ⟨y,H1,I1,ry,q1⟩=>thn (ho pins s1 σ H1 _ I1 q1) fun u s2 ⟨x,H2,I2,rx,a,ov,ex,g,q2⟩=>?_;subst ex;obtain rfl:u=Value.ref a:=rx;exact d_notIn hu I2 g ry fun s3 I3=>⟨.bl (!ov.isSome),H2,I3,rfl,q2⟩
theorem qnq (hu:X.A.units+1<cLine)(ho:PE X o td)(hi:PE X i ty)(hv:PE X value tv)(hs:swapsWith value (some (.Subscript o i pos')) pos.line X.env=pure false) :
    PS X (.Assign [.Subscript o i pos'] value pos) (sDPut td ty tv):=by
  intro pins s σ H D I h;refine wpAny_Assign_Subscript (thn (hv pins s σ H _ I h) fun r s1 ⟨v,H1,I1,rv,q1⟩=>thn (ho pins s1 σ H1 _ I1 q1) fun u s2 ⟨x,H2,I2,rx,q2⟩=>thn (hi pins s2 σ H2 _ I2 q2) fun iv s3 ⟨y,H3,I3,ry,a,H4,ex,g,q3⟩=>?_) hs;subst ex;obtain rfl:u=Value.ref a:=rx;exact qys hu I3 g ry rv fun s4 I4=>⟨σ,H4,I4,q3⟩
end
theorem quw {P:Program}{w:World}{H:Hp}(h:Heap)(hb:sysModules<h.objs.size):ObjOk P w H (h.push { cls:=.type "dict",data:=.dict #[] }) h.objs.size (.dK []) :=
  ⟨Nat.zero_le _,beq_eq_false_iff_ne.mpr (Ne.symm (Nat.ne_of_lt hb)),[],.nil,Heap.DictOf.new h⟩
def tDNewK:TE:=fun _ H Q=>∀ p,H p=none→Q (.ref p) (upd H p (.dK []))
section
variable {X:Cx}{pos:Pos}
theorem qbm:PE X (.Dict [] [] pos) tDNewK:=fun pins s σ H Q I h =>
  wpAny_Dict_empty ⟨.ref s.heap.objs.size,_,I.laid (a:=s.heap.objs.size) (o:=.dK []) (t':=s.toks) (fun _ _ q=>Heap.get?_push_of_some _ q) (Nat.le_refl _) (quw s.heap I.big),rfl,h _ (I.hok.fresh (Nat.le_refl _))⟩
end
section
variable {X:Cx}{pins:List (Addr×Obj)}{σ:St}{H:Hp}{s:Shared}{a:Addr}{y d:V}{u r:Value}{o:Option V}{A:Around}{E:Value→Shared→Prop}
end
section
variable {X:Cx}{o e f:Expr}{apos cpos:Pos}{td ty tx:TE}
end
section
variable {X:Cx}{pins:List (Addr×Obj)}{σ:St}{H:Hp}{s:Shared}{a:Addr}{kvs:List (Key×V)}{A:Around}{E:Value→Shared→Prop}
end
section
variable {X:Cx}{pins:List (Addr×Obj)}{σ:St}{H:Hp}{s:Shared}{a:Addr}{y:V}{u:Value}{A:Around}{E:Value→Shared→Prop}
end
end L2
namespace L2
open PySem PySem.Spec PyProof.Rows
section
variable {X:Cx}
end
section
variable {κ:Type} [DecidableEq κ]
theorem qnk:∀ {l:List κ} {k:κ},l.Nodup→¬ k∈l→(l++[k]).Nodup
  | [],k,_,_=>by simp
  | a::r,k,h,hk=>by
    obtain ⟨h1,h2⟩:=List.nodup_cons.mp h;show (a::(r++[k])).Nodup;refine List.nodup_cons.mpr ⟨fun m=>?_,qnk h2 fun m=>hk (List.mem_cons.mpr (Or.inr m))⟩
    rcases List.mem_append.mp m with q | q
    · exact h1 q
    · exact hk (List.mem_cons.mpr (Or.inl (List.mem_singleton.mp q).symm))
end
end L2
namespace Sv
open PySem PySem.Spec PyProof.Rows L2
variable {H:Hp}{K:W.Frag}{P:Program}{R:It→Hp→Prop}{d:Addr}{es:Array DictEntry}{k:Key}{kvs:List (Key×V)}{o:Obj}{pins:List (Addr×Obj)}{s:Shared}{tl:TE}{u:Value}{w:World}{σ:L2.St}
theorem qpn {α β:Type}{F:α→β→Prop}{xs:List α}{ys:List β}(h:Paired F xs ys):∀ {i:Nat} {x:α},xs[i]?=some x→∃ y,ys[i]?=some y∧F x y:=by
 induction h with
 | nil=>intro i x e; cases e
 | cons h _ ih =>
  intro i x e
  cases i with
  | zero =>
   cases e;exact ⟨_,rfl,h⟩
  | succ i=>exact ih e
theorem key_rel (h:qji k u=true):RelV (kV k) u:=by
 rcases qi2 h with ⟨i,t,rfl,rfl⟩ | ⟨x,t,rfl,rfl⟩
 ·exact ⟨t,rfl⟩
 ·exact ⟨t,rfl⟩
theorem mix_rel (h:(qm3 P w).is k u=true):RelV (kV k) u:=by
 rw [qco] at h;exact key_rel h
def Itd (d:Addr)(o:Obj)(kvs:List (Key×V)):It :=
 ⟨fun i H=>H d=some (.frz o (.dK kvs))∧i<kvs.length,fun i H x H'=>H'=H∧∃ kv,kvs[i]?=some kv∧x=kV kv.1,fun i H=>H d=some (.frz o (.dK kvs))∧kvs.length≤i⟩
theorem frz_at {X:Cx}{ep:Nat}(I:Inv X pins σ H s)(h:H d=some (.frz o (.dK kvs)))(ho:o.data=.dict es ep) :
  ∃ vs,KV kvs vs∧kvs.length=vs.length∧s.heap.DictAt (qm3 X.prog X.w) d vs ep:=by
 obtain ⟨hg,_,_,vs,kv,o',es',ep',hg',ex,hd,ks,pr,nd⟩:=(show ObjOk X.prog X.w H s.heap d (.frz o (.dK kvs)) from I.hok d _ h);rw [hg] at hg';cases hg';rw [ho] at hd;cases hd;exact ⟨vs,kv,kv.length,o,es,hg,ex,ho,ks,pr,nd⟩
theorem qcp {tg:Expr}(d it:Addr)(o:Obj)(kvs:List (Key×V))(es:Array DictEntry)(ep:Nat)(ho:o.data=.dict es ep):Turn P w K tg (Itd d o kvs) [it] it (fun i h=>h.IsKeyIter it d i kvs.length ep) where
 mem:=by simp
 obj:=fun i h st b hb=>by
  have e:b=it:=by simpa using hb
  subst e;obtain ⟨o,e,c,dd⟩:=st;exact ⟨o,e,fun v z=>by rw [dd] at z; cases z⟩
 keep:=fun i h h' st k=>st.at fun o e=>k it (by simp) o e
 item:=by
  intro X hP hw hK hc i pins s σ H E I hf st hg;subst hP hw hK;obtain ⟨hd,lt⟩:=hg;obtain ⟨vs,kv,len,da⟩:=frz_at I hd ho;obtain ⟨⟨k,v⟩,hx⟩:∃ p,kvs[i]?=some p:=⟨kvs[i],List.getElem?_eq_getElem lt⟩;obtain ⟨⟨k',u⟩,hx',e1,e2⟩:=qpn kv hx;obtain ⟨f0,f1,f2,f3,f4,f5⟩:=hf it (by simp);rw [len] at st;refine wpAny_pyNext_dict_item st da hx' fun key h' hkey st' sb=>?_;have I1:Inv X pins σ H { s with heap:=h' }:=I.turned (t':=s.toks) (fun b o hb e=>(sb.2 b hb).trans e) f0 f1 f3 f4 f5;obtain ⟨oi,e,c,dd⟩:=id st';cases e1;exact ⟨key,rfl,qps (s:={ s with heap:=h' }) e c dd (by decide) ⟨kV k,H,I1,mix_rel hkey,⟨rfl,(k,v),hx,rfl⟩,by rw [len]; exact st',fun b hb=>(hf b hb).1⟩⟩
 done:=by
  intro X hP hw hK hc i pins s σ H E I hf st hg;subst hP hw hK;obtain ⟨hd,le⟩:=hg;obtain ⟨vs,kv,len,da⟩:=frz_at I hd ho;obtain ⟨f0,f1,f2,f3,f4,f5⟩:=hf it (by simp);rw [len] at st le;exact wpAny_pyNext_dict_end (I.ok.hd hc) st da (List.getElem?_eq_none le) fun h' eb=>⟨rfl,I.turned (t':=s.toks) (fun b o hb e=>eb b o hb e) f0 f1 f3 f4 f5⟩
 self:=fun _ _ _ _ _ st h=>wpAny_pyIter_keyiter st h
section
variable {X:Cx}{tg:Expr}
theorem freeze (I:Inv X pins σ H s)(h:H d=some (.dK kvs))(ho:s.heap.get? d=some o):Inv X pins σ (upd H d (.frz o (.dK kvs))) s :=
 Inv.write (t':=s.toks) (x:=d) (e:=d) I (by rw [h]; exact trivial) (.inl rfl) (fun _ _ _ q=>q) ⟨_,ho⟩ ⟨ho,(show ObjOk X.prog X.w H s.heap d (.dK kvs) from I.hok d _ h)⟩
def DicR (x:V)(H:Hp)(R:It→Hp→Prop):Prop:=∃ d kvs,x=.ref d∧((∃ o,H d=some (.frz o (.dK kvs))∧R (Itd d o kvs) H)∨(H d=some (.dK kvs)∧∀ o,R (Itd d o kvs) (upd H d (.frz o (.dK kvs)))))
def iDict (tl:TE):TI:=fun σ H R=>tl σ H fun x H1=>DicR x H1 R
theorem dic_ :iDict tl σ H R=tl σ H fun x H1=>DicR x H1 R:=rfl
theorem qtq {l:Expr}(hl:PE X l tl):PI X tg l (iDict tl):=by
 intro pins s σ H R I h;refine thn (hl pins s σ H _ I h) fun v s1 ⟨x,H1,I1,r1,d,kvs,ex,q⟩=>?_;subst ex;cases r1
 have main:∀ (o:Obj) (H2:Hp),Inv X pins σ H2 s1→H2 d=some (.frz o (.dK kvs))→R (Itd d o kvs) H2→wpAny (model X.prog X.w) X.A (pyIter (.ref d)) (PIE X pins σ tg R) X.xe s1:=fun o H2 I2 hf q=>by
  obtain ⟨hg,_,sy,vs,kv,o',es,ep,hg',ex,hd,ks,pr,nd⟩:=(show ObjOk X.prog X.w H2 s1.heap d (.frz o (.dK kvs)) from I2.hok d _ hf);rw [hg] at hg';cases hg';refine wpAny_pyIter_dict (ep:=ep) sy ⟨o,es,hg,ex,hd,ks,pr,nd⟩ ?_;refine ⟨s1.heap.objs.size,[s1.heap.objs.size],_,_,H2,rfl,I2.kept (t':=s1.toks) fun b ob e=>Heap.get?_push_of_some _ e,qcp d _ o kvs es ep hd,⟨_,Heap.get?_push_size _ rfl,rfl,?_⟩,fun b hb=>?_,q⟩
  ·rw [kv.length]
   rfl
  ·have e:b=s1.heap.objs.size:=by simpa using hb
   subst e;exact I2.fpOk (Nat.le_refl _) (I2.hok.fresh (Nat.le_refl _))
 rcases q with ⟨o,hf,q⟩ | ⟨hf,q⟩
 ·exact main o H1 I1 hf q
 ·obtain ⟨ob,ho⟩:=qqr (I1.hok d _ hf)
  exact main ob _ (freeze I1 hf ho) qb0 (q ob)
end
theorem itd :ItOf (Itd d o kvs) (kvs.map fun kv=>kV kv.1) (fun H=>H d=some (.frz o (.dK kvs))) where
 go:=fun i H ok l=>by
  rw [List.length_map] at l;exact ⟨ok,l⟩
 yld:=fun i H x H' ok l y=>by
  obtain ⟨rfl,kv,e,rfl⟩:=y;exact ⟨rfl,by rw [List.getElem?_map,e]; rfl⟩
 stop:=fun i H ok l=>by
  rw [List.length_map] at l;exact ⟨ok,l⟩
end Sv
namespace Sv
open PySem PySem.Spec PyProof.Rows L2
variable {R:Hp→Prop}{a p:Addr}{neg:Bool}{ns:List Int}{zs:List Str}
theorem bo_sum:bootBuiltins "sum"=some (.builtin "sum"):=by decide +kernel
theorem qgl:bootBuiltins "reversed"=some (.type "reversed"):=by decide +kernel
theorem CmpR.filt {cap:List Nat}{tc:TT}{te:TE}{J:It}{σ:L2.St}{H:Hp}{Q:VK}{xs:List V}{Ok:Hp→Prop}(p:V→Bool)(f:V→V)(it:ItOf J xs Ok)(hz:xs.length≤1000)(ok:∀ H',Same H H'→Ok H')
  (hc:∀ x H' (Q':Bool→Hp→Prop),x∈xs→Same H H'→(∀ H2,Same H' H2→Q' (p x) H2)→tc (some x::cap.map fun i=>σ.getD i none) H' Q')
  (hs:∀ x H' (Q':VK),x∈xs→p x=true→Same H H'→(∀ H2,Same H' H2→Q' (f x) H2)→te (some x::cap.map fun i=>σ.getD i none) H' Q')
  (hd:∀ D H',H D=none→Same H H'→H' D=some (.lst ((xs.filter p).map f))→Q (.ref D) H'):CmpR 1 cap (qb4 0) tc te J σ H Q:=by
 intro D hD
 have keep:∀ {H':Hp} {o:HO},Same H H'→Same H (upd H' D o):=fun sm b o e=>by
  rw [qt (qz e hD)];exact sm b o e
 have le:∀ i,(((xs.take i).filter p).map f).length≤i:=fun i=>by
  rw [List.length_map];exact Nat.le_trans (List.length_filter_le _ _) (by rw [List.length_take]; exact Nat.min_le_left _ _)
 refine ⟨fun i m σ' H'=>m=xs.length - i∧i≤xs.length∧∃ t,σ'=t::(cap.map fun i=>σ.getD i none)∧Same H H'∧H' D=some (.lst (((xs.take i).filter p).map f)),⟨_,rfl,Nat.zero_le _,none,rfl,keep (Same.refl _),qb0⟩,fun i m σ' H' hw=>?_⟩;obtain ⟨rfl,hi,t,rfl,sm,hl⟩:=hw
 by_cases lt:i<xs.length
 ·refine .inr ⟨it.go i _ (ok _ sm) lt,fun σ2 H2=>∃ t,σ2=t::(cap.map fun i=>σ.getD i none)∧Same H H2∧H2 D=some (.lst (((xs.take (i+1)).filter p).map f)),fun σ2 H2 n2=>⟨_,?_,rfl,lt,n2⟩,fun x H2 y=>?_⟩
  ·omega
  ·obtain ⟨rfl,hx⟩:=it.yld i _ x H2 (ok _ sm) lt y
   show tc (some x::(cap.map fun i=>σ.getD i none)) _ _;refine hc x H2 _ (List.mem_of_getElem? hx) sm fun H3 s3=>?_
   have e1:(xs.take (i+1)).filter p=(xs.take i).filter p++if p x=true then [x] else []:=by
    rw [List.take_add_one,hx,List.filter_append,Option.toList_some]
    congr 1
    cases hp:p x <;> simp [List.filter,hp]
   cases hp:p x with
   | false =>
    rw [if_neg Bool.false_ne_true];refine ⟨_,rfl,sm.trans s3,?_⟩;rw [e1,hp,if_neg Bool.false_ne_true,List.append_nil];exact s3 _ _ hl
   | true =>
    rw [if_pos rfl];show te (some x::(cap.map fun i=>σ.getD i none)) _ _;refine hs x H3 _ (List.mem_of_getElem? hx) hp (sm.trans s3) fun H4 s4=>⟨_,s4 _ _ (s3 _ _ hl),?_,_,rfl,keep ((sm.trans s3).trans s4),?_⟩
    ·have:=le i
     exact qg2 (by omega)
    ·rw [qb0,e1,hp,if_pos rfl,List.map_append]
     rfl
 ·obtain rfl:i=xs.length:=by omega
  refine .inl ⟨it.stop _ _ (ok _ sm) (Nat.le_refl _),?_⟩;rw [List.take_length] at hl;exact hd D H' hD sm hl
section
variable {X:Cx}{K:W.Frag}
theorem pe_fldK {e:Expr}{f:Str}{pos:Pos}{ta:TE}(hK:X.K=K)(he:PE X e ta)(hb:attributeBase e f X.env (eval e X.env)=eval e X.env):PE X (.Attribute e f pos) (tFld K ta f):=by
 subst hK;exact qe8 he hb
theorem qmo (hK:X.K=K):qn6 X (.builtin "isinstance") (rIsiC K):=by
 subst hK;exact qr7
def InR (K:W.Frag)(neg:Bool):R2:=rIn K neg
theorem qfr (hK:X.K=K):OpR X (compareOp .In) (InR K false):=by
 subst hK;exact qer
theorem qut (zs:List Str):(zs.map V.str).all qgg=true:=by
 rw [List.all_eq_true];intro x hx;obtain ⟨z,_,rfl⟩:=List.mem_map.mp hx;rfl
theorem qjs (z:Str)(zs:List Str):inV (.str z) (zs.map V.str)=decide (z∈zs):=by
 induction zs with
 | nil=>rfl
 | cons y r ih =>
  have e:inV (.str z) ((y::r).map V.str)=(eqV (.str y) (.str z) || inV (.str z) (r.map V.str)):=rfl;rw [e,ih]
  have e2:eqV (.str y) (.str z)=decide (y=z):=by
   first
   | rfl
   | (simp [eqV])
  rw [e2]
  by_cases h:y=z
  ·subst h
   simp
  ·have h':¬ z=y:=fun c=>h c.symm
   simp [h,h']
theorem inR_go {z:Str}{H:Hp}{Q:VK}(h:SqL K H p (zs.map V.str))(q:Q (.bl (if neg then !decide (z∈zs) else decide (z∈zs))) H):InR K neg (.str z) (.ref p) H Q :=
 ⟨p,_,rfl,.inl h,rfl,qut zs,by rw [qjs]; exact q⟩
def SumR (K:W.Frag):List V→Hp→VK→Prop:=fun xs H Q=>∃ (p:Addr) (ns:List Int),xs=[.ref p]∧SqL K H p (ns.map V.int)∧Q (.int ns.sum) H
theorem qmm:∀ {ns:List Int} {us:List Value},Vals (ns.map V.int) us→IntsAre us ns
 | [],_,r=>by
  cases r;exact .nil
 | n::ns,_,r=>by
  cases r with
  | cons r1 r2 =>
   obtain ⟨t,rfl⟩:=r1;exact .cons n t (qmm r2)
theorem qui (hc:X.calm=true)(hK:X.K=K):qn6 X (.builtin "sum") (SumR K):=by
 subst hK;intro pins s σ H xs us Q I r h;obtain ⟨p,ns,rfl,hq,q⟩:=h;obtain ⟨u,rfl,ru⟩:=r.one;obtain rfl:u=Value.ref p:=ru;obtain ⟨its,rv,pl,hz⟩:=I.list hq;have ia:=qmm rv;have nm:=ia.numsOf;obtain ⟨xs,ex⟩:=ia.allInts.items;have pl':=pl.isList;rw [ex] at pl';refine sum_intListG (I.ok.hd hc) pl' fun h' tk t' hk=>⟨.int ns.sum,H,I.kept (t':=tk) hk,?_,q⟩
 have e3:numsOf (intItems xs).toList=ns:=by
  rw [← ex];exact nm
 rw [nums_intItems] at e3;refine ⟨t',?_⟩;rw [preSum_eq,List.take_of_length_le (by simp),e3]
theorem sumR_go {H:Hp}{Q:VK}(h:SqL K H p (ns.map V.int))(q:Q (.int ns.sum) H):SumR K [.ref p] H Q:=⟨p,ns,rfl,h,q⟩
end
section
variable {td ty tv:TE}{σ:L2.St}{H:Hp}{Q:VK}{D:Ends}{x y v:V}{d:Addr}{z:Str}{ps:List (Str×V)}
def DGetR (x y:V)(H:Hp)(Q:VK):Prop:=∃ a v,x=.ref a∧DGet H a y (some v)∧Q v H
def DInR (neg:Bool)(x y:V)(H:Hp)(Q:VK):Prop:=∃ a o,x=.ref a∧DGet H a y o∧Q (.bl (if neg then !o.isSome else o.isSome)) H
def DPutR (x y v:V)(H:Hp)(Q:Hp→Prop):Prop:=∃ a H4,x=.ref a∧DPut H a y v H4∧Q H4
def DNewR (H:Hp)(Q:VK):Prop:=∀ p,H p=none→Q (.ref p) (upd H p (.dK []))
theorem dget_:tDGet td ty σ H Q=td σ H fun x H1=>ty σ H1 fun y H2=>DGetR x y H2 Q:=rfl
theorem dnotin_:qip ty td σ H Q=ty σ H fun y H1=>td σ H1 fun x H2=>DInR true x y H2 Q:=rfl
theorem dput_:sDPut td ty tv D σ H=tv σ H fun v H1=>td σ H1 fun x H2=>ty σ H2 fun y H3=>DPutR x y v H3 (D.nx σ):=rfl
theorem dnew_:tDNewK σ H Q=DNewR H Q:=rfl
def Dk (ps:List (Str×V)):List (Key×V):=ps.map fun p=>(.inr p.1,p.2)
theorem qfj (z:Str):∀ ps:List (Str×V),valV (Dk ps) (.inr z)=ps.lookup z
 | []=>rfl
 | (k,v)::r=>by
  have ih:=qfj z r;unfold valV Dk at ih ⊢;rw [List.map_cons,List.find?_cons,List.lookup_cons]
  by_cases h:k=z
  ·subst h
   simp
  ·have h1:¬ ((Sum.inr k:Key)=Sum.inr z):=fun c=>h (Sum.inr.inj c)
   have h2:(z == k)=false:=beq_eq_false_iff_ne.mpr fun c=>h c.symm;simp only [decide_eq_false h1,h2];exact ih
theorem qwt (ps:List (Str×V)):((Dk ps).map fun kv=>kV kv.1)=(ps.map (·.1)).map V.str:=by
 unfold Dk;rw [List.map_map,List.map_map];rfl
def DicS (H:Hp)(d:Addr)(ps:List (Str×V)):Prop:=Rd H d (.dK (Dk ps))
theorem DicS.get (h:DicS H d ps):DGet H d (.str z) (ps.lookup z):=.inl ⟨Dk ps,.inr z,h,rfl,(qfj z ps).symm⟩
theorem qx5 (h:DicS H d ps)(e:ps.lookup z=some v)(q:Q v H):DGetR (.ref d) (.str z) H Q:=⟨d,v,rfl,e▸h.get,q⟩
theorem qal (h:DicS H d ps)(q:Q (.bl (if neg then !(ps.lookup z).isSome else (ps.lookup z).isSome)) H):DInR neg (.ref d) (.str z) H Q:=⟨d,_,rfl,h.get,q⟩
theorem qrm (h:H d=some (.dK (Dk ps)))(n:ps.lookup z=none)(l:ps.length<1000)(q:R (upd H d (.dK (Dk (ps++[(z,v)]))))):DPutR (.ref d) (.str z) v H R:=by
 have e:putK (Dk ps) (.inr z) v=Dk (ps++[(z,v)]):=by
  rw [qav v (by rw [qfj]; exact n)];unfold Dk;rw [List.map_append];rfl
 refine ⟨d,_,rfl,DPut.k (k:=.inr z) h ?_,?_⟩
 ·unfold Dk
  rw [List.length_map];exact qg2 (Nat.le_of_lt l)
 ·rw [e]
  exact q
theorem DicS.same {H':Hp}(h:DicS H d ps)(s:Same H H'):DicS H' d ps:=by
 rcases h with h | ⟨o,h⟩
 ·exact .inl (s _ _ h)
 ·exact .inr ⟨o,s _ _ h⟩
theorem DicS.ne {xs:List V}(h:DicS H d ps)(e:H a=some (.lst xs)):a≠d:=fun c=>by
 subst c
 rcases h with h | ⟨o,h⟩ <;> rw [e] at h <;> cases h
end
def LenDR:List V→Hp→VK→Prop:=fun xs H Q=>∃ d kvs,xs=[.ref d]∧Rd H d (.dK kvs)∧Q (.int kvs.length) H
theorem qle {X:Cx}:qn6 X (.builtin "len") LenDR:=by
 intro pins s σ H xs us Q I r h;obtain ⟨a,kvs,rfl,ha,q⟩:=h;obtain ⟨u,rfl,ru⟩:=r.one;obtain rfl:u=Value.ref a:=ru;exact d_len I ha fun t s' I'=>⟨.int kvs.length,H,I',⟨t,rfl⟩,q⟩
theorem qhm {H:Hp}{Q:VK}{d:Addr}{ps:List (Str×V)}(h:DicS H d ps)(q:Q (.int ps.length) H):LenDR [.ref d] H Q:=⟨d,Dk ps,rfl,h,by unfold Dk; rw [List.length_map]; exact q⟩
theorem CmpR.tups {K:W.Frag}{cap:List Nat}{te:TE}{J:It}{σ:L2.St}{H:Hp}{Q:VK}{xs:List V}{ps:List (V×V)}{Ok:Hp→Prop}(f:V×V→V)(it:ItOf J xs Ok)(tt:All2 (fun x (p:V×V)=>∃ t,x=.ref t∧H t=some (.tup [p.1,p.2])) xs ps)(hz:xs.length≤1000)(ok:∀ H',Same H H'→Ok H')
  (hs:∀ p H' (Q':VK),p∈ps→Same H H'→(∀ H2,Same H' H2→Q' (f p) H2)→te (some p.1::some p.2::cap.map fun i=>σ.getD i none) H' Q')
  (hd:∀ D H',H D=none→Same H H'→H' D=some (.lst (ps.map f))→Q (.ref D) H'):CmpR 2 cap (gTup K 2 (qu6 (qb4 0) (qu6 (qb4 1) gNil))) tYes te J σ H Q:=by
 intro D hD
 have keep:∀ {H':Hp} {o:HO},Same H H'→Same H (upd H' D o):=fun sm b o e=>by
  rw [qt (qz e hD)];exact sm b o e
 refine ⟨fun i m σ' H'=>m=xs.length - i∧i≤xs.length∧∃ t u,σ'=t::u::(cap.map fun i=>σ.getD i none)∧Same H H'∧H' D=some (.lst ((ps.take i).map f)),⟨_,rfl,Nat.zero_le _,none,none,rfl,keep (Same.refl _),qb0⟩,fun i m σ' H' hw=>?_⟩;obtain ⟨rfl,hi,t,u,rfl,sm,hl⟩:=hw
 by_cases lt:i<xs.length
 ·refine .inr ⟨it.go i _ (ok _ sm) lt,fun σ2 H2=>∃ t u,σ2=t::u::(cap.map fun i=>σ.getD i none)∧Same H H2∧H2 D=some (.lst ((ps.take (i+1)).map f)),fun σ2 H2 n2=>⟨_,?_,rfl,lt,n2⟩,fun x H2 y=>?_⟩
  ·omega
  ·obtain ⟨rfl,hx⟩:=it.yld i _ x H2 (ok _ sm) lt y
   obtain ⟨p,hp,r,rfl,hr⟩:=tt.at hx;refine qio (SqT.of (sm _ _ hr)) ?_;show te (some p.1::some p.2::(cap.map fun i=>σ.getD i none)) _ _;refine hs p _ _ (List.mem_of_getElem? hp) sm fun H3 s3=>⟨_,s3 _ _ hl,?_,_,_,rfl,keep (sm.trans s3),?_⟩
   ·rw [List.length_map,List.length_take]
    exact qg2 (by omega)
   ·rw [qb0,List.take_add_one,hp,List.map_append]
    rfl
 ·obtain rfl:i=xs.length:=by omega
  refine .inl ⟨it.stop _ _ (ok _ sm) (Nat.le_refl _),?_⟩;rw [tt.len,List.take_length] at hl;exact hd D H' hD sm hl
def qsd (zs:List Str):PyData:=.list (zs.map .str)
theorem qtg:∀ {zs:List Str},(∀ z∈zs,PyData.strOk z=true)→PyData.canLayAll0 (zs.map PyData.str)=true
 | [],_=>by simp [PyData.canLayAll0]
 | z::zs,h=>by
  rw [List.map_cons,PyData.canLayAll0.eq_2,qtg fun y hy=>h y (List.mem_cons_of_mem _ hy)];simp [PyData.canLay0,h z List.mem_cons_self]
theorem qve (h:∀ z∈zs,PyData.strOk z=true):SeqAt.shaped (qsd zs)=true:=by
 have a:=qtg h;have b:=qc2 PyData.str (n:=2) (fun z=>by simp [PyData.depth]) zs;exact qc4 (by simp [qsd,PyData.canLay0,a]) (by simp only [qsd,PyData.depth]; omega)
theorem qug {H:Hp}:∀ zs:List Str,Dts H (zs.map V.str) (zs.map PyData.str)
 | []=>.nil
 | z::zs=>.cons (.str z) (qug zs)
theorem qpm {H:Hp}{Q:VK}{b:Addr}(ha:H a=some (.lst (zs.map V.str)))(hb:H b=some (.lst []))(ok:∀ z∈zs,PyData.strOk z=true)(q:Q (.bl (if neg then !decide (zs=[]) else decide (zs=[]))) H):rEqD neg (.ref a) (.ref b) H Q:=by
 refine ⟨qsd zs,.list [],.lst (.inl ha) (qug zs),.lst (.inl hb) .nil,qve ok,by decide,?_⟩
 have e:PyData.eqv (qsd zs) (.list [])=decide (zs=[]):=by
  cases zs with
  | nil=>rfl
  | cons z r =>
   rw [decide_eq_false (by intro c; cases c)];simp [qsd,PyData.eqv,PyData.eqvAll]
 rw [e];exact q
end Sv
namespace Sv
open PySem PySem.Spec PyProof PyProof.Rows L2
variable {R:It→Hp→Prop}
section
variable {H:Hp}{Q:VK}{z:Str}{k j:Nat}
end
def Rng2R (vs:List V)(H:Hp)(R:It→Hp→Prop):Prop:=∃ i j:Int,vs=[.int i,.int j]∧(-(2 ^ 62)≤i∧i<2 ^ 62∧-(2 ^ 62)≤j∧j<2 ^ 62)∧R (Itr i (j - i).toNat) H
theorem Rng2R.go {i j:Int}{H:Hp}(h:-(2 ^ 62)≤i∧i<2 ^ 62∧-(2 ^ 62)≤j∧j<2 ^ 62)(q:R (Itr i (j - i).toNat) H):Rng2R [.int i,.int j] H R:=⟨i,j,rfl,h,q⟩
def RngD (vs:List V)(H:Hp)(R:It→Hp→Prop):Prop:=∃ k:Nat,vs=[.int (k:Int),.int (-1),.int (-1)]∧k<1000000∧R (Its (k:Int) (-1) (k+1)) H
theorem RngD.go {k:Nat}{H:Hp}(h:k<1000000)(q:R (Its (k:Int) (-1) (k+1)) H):RngD [.int (k:Int),.int (-1),.int (-1)] H R:=⟨k,rfl,h,q⟩
theorem qow {α:Type}(x:α)(k:Nat):(List.replicate k [x]).flatten=List.replicate k x:=by
 induction k with
 | zero=>rfl
 | succ k ih =>
  rw [List.replicate_succ,List.flatten_cons,ih];rfl
theorem rep_go {H:Hp}{Q:VK}{l:Addr}{x:V}{k:Nat}(h:H l=some (.lst [x]))(hk:k≤1000)(q:∀ p,H p=none→Q (.ref p) (upd H p (.lst (List.replicate k x)))):rRep (.ref l) (.int (k:Int)) H Q:=by
 refine ⟨l,(k:Int),[x],rfl,rfl,h,by omega,by omega,?_,fun p np=>?_⟩
 ·rw [Int.toNat_natCast,List.length_singleton,Nat.one_mul]
  exact Nat.le_of_lt (qg2 hk)
 ·rw [Int.toNat_natCast,qow]
  exact q p np
end Sv
namespace Sv
open PySem PySem.Spec PyProof.Rows L2
def Itzl (K:W.Frag)(a b:Addr):It :=
 ⟨fun i H=>∃ xs ys x y,SqL K H a xs∧SqL K H b ys∧xs[i]?=some x∧ys[i]?=some y,
  fun i H v H'=>∃ t x y,v=.ref t∧H t=none∧H'=upd H t (.tup [x,y])∧∀ xs ys,SqL K H a xs→SqL K H b ys→xs[i]?=some x∧ys[i]?=some y,
  fun i H=>∃ xs ys,SqL K H a xs∧SqL K H b ys∧(xs.length≤i∨ys.length≤i)⟩
section
variable {X:Cx}
end
section
variable {K:W.Frag}{H:Hp}{R:It→Hp→Prop}{a b:Addr}{xs ys:List V}
def ZipLR (K:W.Frag)(vs:List V)(H:Hp)(R:It→Hp→Prop):Prop:=∃ a b xs ys,vs=[.ref a,.ref b]∧SqL K H a xs∧SqL K H b ys∧R (Itzl K a b) H
theorem ZipLR.go (h1:SqL K H a xs)(h2:SqL K H b ys)(q:R (Itzl K a b) H):ZipLR K [.ref a,.ref b] H R:=⟨a,b,xs,ys,rfl,h1,h2,q⟩
end
end Sv
namespace Sv
open PySem PySem.Spec PyProof.Rows L2
variable {fs:List (Str×V)}
section
variable {X:Cx}{k j:Nat}{C:Addr}{ps:List Str}{sp:Sp}{m:Str}{pos apos:Pos}{e o:Expr}{es:List Expr}{ta:TE}{t:TA}{pl:Sem Bool}
def MethT (Rr:RX)(C:Addr)(m:Str)(sp:Sp)(x:V)(t:TA)(σ:L2.St)(H:Hp)(Q:VK):Prop:=∃ (a dx:Addr) (fs:List (Str×V)),x=.ref a∧H a=some (.ins C dx fs)∧fs.lookup m=none∧t σ H fun vs H2=>sp (x::vs) H2 Q fun cls dd H'=>Rr cls dd σ H'
theorem MethT.go {Rr:RX}{σ:L2.St}{H:Hp}{Q:VK}{a dx:Addr}(h:H a=some (.ins C dx fs))(l:fs.lookup m=none)(q:t σ H fun vs H2=>sp (.ref a::vs) H2 Q fun cls dd H'=>Rr cls dd σ H'):MethT Rr C m sp (.ref a) t σ H Q:=⟨a,dx,fs,rfl,h,l,q⟩
end
section
variable {K:W.Frag}{ta tv:TE}{t:TA}{f:Str}{D:Ends}{σ:L2.St}{H:Hp}{Q:VK}{C:Addr}{sp:Sp}{E:XK}
def FmtR (x:V)(H1:Hp)(Q:VK):Prop:=(∃ y,x=.str y∧y.length≤sizeLine∧Q (.str y) H1)∨∃ i:Int,x=.int i∧i.natAbs.log2<1920∧Q (.str (toString i)) H1
theorem FmtR.str {y:Str}(h:y.length≤1000)(q:Q (.str y) H):FmtR (.str y) H Q:=.inl ⟨y,rfl,Nat.le_of_lt (qg2 h),q⟩
end
end Sv
namespace Sv
open PySem PySem.Spec PyProof.Rows L2
variable {D:Ends}{K:W.Frag}{Pv:Nat→L2.St→Hp→Prop}{k:Nat}{xs:List V}
section
variable {prog:Program}{w:World}{A:Around}{E:Value→Shared→Prop}{s:Shared}{r:Addr}
variable {it l S:Addr}{items:Array Value}
end
section
variable {X:Cx}{e a b:Expr}{t:TA}{p p2 pos pos2:Pos}
end
theorem qdl {X:Cx}(h:X.K=K):qn6 X (.type "list") (LstOf K):=h▸qke
theorem cont_ {σ:L2.St}{H:Hp}:tCont D σ H=D.ct σ H:=rfl
def IfR (b:Bool)(ta tb:TE)(σ:L2.St)(H:Hp)(Q:VK):Prop:=if b=true then ta σ H Q else tb σ H Q
section
variable {t:TT}{ta tb:TE}{σ:L2.St}{H:Hp}{Q:VK}
theorem ifx_:tIf t ta tb σ H Q=t σ H fun c H1=>IfR c ta tb σ H1 Q:=rfl
theorem ifR_t:IfR true ta tb σ H Q=ta σ H Q:=rfl
theorem ifR_f:IfR false ta tb σ H Q=tb σ H Q:=rfl
theorem IfR.dec {p:Prop} [Decidable p](h1:p→ta σ H Q)(h2:¬p→tb σ H Q):IfR (decide p) ta tb σ H Q:=by
 by_cases h:p
 ·rw [decide_eq_true h]
  exact h1 h
 ·rw [decide_eq_false h]
  exact h2 h
end
def WhL (Pv:Nat→L2.St→Hp→Prop)(m:Nat)(tb:TS)(D:Ends)(b:Bool)(σ:L2.St)(H1:Hp):Prop:=if b=true then ∃ N:L2.St→Hp→Prop,(∀ σ' H',N σ' H'→∃ m',m'<m∧Pv m' σ' H')∧tb { D with nx:=N,ct:=N,bk:=D.nx } σ H1 else D.nx σ H1
theorem WhL.on {m:Nat}{tb:TS}{b:Bool}{σ:L2.St}{H:Hp}(h1:b=true→tb { D with nx:=fun σ' H'=>∃ m',m'<m∧Pv m' σ' H',ct:=fun σ' H'=>∃ m',m'<m∧Pv m' σ' H',bk:=D.nx } σ H)(h2:b=false→D.nx σ H):WhL Pv m tb D b σ H:=by
 cases b with
 | true=>exact ⟨_,fun σ' H' p=>p,h1 rfl⟩
 | false=>exact h2 rfl
theorem qpg {c:TT}{tb:TS}{σ:L2.St}{H:Hp}(Pv:Nat→L2.St→Hp→Prop)(m0:Nat)(h0:Pv m0 σ H)(hs:∀ m σ H,Pv m σ H→c σ H fun b H1=>WhL Pv m tb D b σ H1):qfp c tb D σ H:=⟨Pv,⟨m0,h0⟩,hs⟩
theorem pop_go {l:Addr}{y:V}{H:Hp}{Q:VK}(h:H l=some (.lst (xs++[y])))(q:Q y (upd H l (.lst xs))):rPop (.ref l) [] H Q:=by
 refine ⟨l,_,y,rfl,rfl,h,?_,?_⟩
 ·rw [List.length_append,List.length_singleton,Nat.add_sub_cancel,List.getElem?_append_right (Nat.le_refl _),Nat.sub_self]
  rfl
 ·rw [List.dropLast_concat]
  exact q
theorem All2.rev {α β:Type}{R:α→β→Prop}{xs:List α}{ys:List β}(h:All2 R xs ys):All2 R xs.reverse ys.reverse:=by
 induction h with
 | nil=>exact .nil
 | cons h _ ih =>
  rw [List.reverse_cons,List.reverse_cons];exact All2.snoc ih h
theorem cut_midA {j:Nat}:cutV xs (some (k:Int)) (some (j:Int))=(xs.drop k).take (j - k):=by
 unfold cutV;rw [HT.sIx_nat,HT.sIx_nat]
 by_cases h:k≤xs.length
 ·rw [Nat.min_eq_left h]
  by_cases g:j≤xs.length
  ·rw [Nat.min_eq_left g]
  ·rw [Nat.min_eq_right (by omega),List.take_of_length_le (by rw [List.length_drop]; omega),List.take_of_length_le (by rw [List.length_drop]; omega)]
 ·rw [Nat.min_eq_right (show xs.length≤k by omega),List.drop_of_length_le (Nat.le_refl _),List.drop_of_length_le (show xs.length≤k by omega),List.take_nil,List.take_nil]
theorem qbt :cutV xs (some (k:Int)) none=xs.drop k:=by
 by_cases h:k≤xs.length
 ·exact qsm h
 ·unfold cutV
  rw [HT.sIx_nat,HT.sIx_none,Nat.min_eq_right (show xs.length≤k by omega),List.drop_of_length_le (Nat.le_refl _),List.drop_of_length_le (show xs.length≤k by omega),List.take_nil]
theorem qu7 {H:Hp}{Q:VK}{p:Addr}(h:SqL K H p xs)(q:∀ l,H l=none→Q (.ref l) (upd H l (.lst (xs.drop k)))):rSlL K (.ref p) (some (k:Int)) none H Q:=⟨p,xs,rfl,h,by rw [qbt]; exact q⟩
theorem CmpR.relT {K:W.Frag}{cap:List Nat}{te:TE}{J:It}{σ:L2.St}{H:Hp}{Q:VK}{xs:List V}{ps:List (V×V)}{Ok:Hp→Prop}(R:Addr→Hp→V×V→V→Prop)(mono:∀ D H H' x v,(∀ b o,b≠D→H b=some o→H' b=some o)→R D H x v→R D H' x v)(it:ItOf J xs Ok)(tt:All2 (fun x (p:V×V)=>∃ t,x=.ref t∧H t=some (.tup [p.1,p.2])) xs ps)(hz:xs.length≤1000)(ok:∀ H',Same H H'→Ok H')
  (hs:∀ D p H' ys (Q':VK),p∈ps→H D=none→Same H H'→H' D=some (.lst ys)→(∀ v H2,Same H' H2→R D H2 p v→Q' v H2)→te (some p.1::some p.2::cap.map fun i=>σ.getD i none) H' Q')
  (hd:∀ D H' vs,H D=none→Same H H'→H' D=some (.lst vs)→All2 (R D H') ps vs→Q (.ref D) H'):CmpR 2 cap (gTup K 2 (qu6 (qb4 0) (qu6 (qb4 1) gNil))) tYes te J σ H Q:=by
 intro D hD
 have keep:∀ {H':Hp} {o:HO},Same H H'→Same H (upd H' D o):=fun sm b o e=>by
  rw [qt (qz e hD)];exact sm b o e
 refine ⟨fun i m σ' H'=>m=xs.length - i∧i≤xs.length∧∃ t u vs,σ'=t::u::(cap.map fun i=>σ.getD i none)∧Same H H'∧H' D=some (.lst vs)∧All2 (R D H') (ps.take i) vs,⟨_,rfl,Nat.zero_le _,none,none,[],rfl,keep (Same.refl _),qb0,.nil⟩,fun i m σ' H' hw=>?_⟩;obtain ⟨rfl,hi,t,u,vs,rfl,sm,hl,al⟩:=hw
 by_cases lt:i<xs.length
 ·refine .inr ⟨it.go i _ (ok _ sm) lt,fun σ2 H2=>∃ t u vs,σ2=t::u::(cap.map fun i=>σ.getD i none)∧Same H H2∧H2 D=some (.lst vs)∧All2 (R D H2) (ps.take (i+1)) vs,fun σ2 H2 n2=>⟨_,?_,rfl,lt,n2⟩,fun x H2 y=>?_⟩
  ·omega
  ·obtain ⟨rfl,hx⟩:=it.yld i _ x H2 (ok _ sm) lt y
   obtain ⟨p,hp,r,rfl,hr⟩:=tt.at hx;refine qio (SqT.of (sm _ _ hr)) ?_;show te (some p.1::some p.2::(cap.map fun i=>σ.getD i none)) _ _;refine hs D p _ vs _ (List.mem_of_getElem? hp) hD sm hl fun v H3 s3 r=>⟨_,s3 _ _ hl,?_,_,_,vs++[v],rfl,keep (sm.trans s3),qb0,?_⟩
   ·have:=al.len
    rw [List.length_take] at this;exact qg2 (by omega)
   ·rw [List.take_add_one,hp,Option.toList_some]
    refine (All2.snoc (al.imp fun a b r=>mono D _ _ a b (fun c o ne e=>?_) r) (mono D H3 _ p v (fun c o ne e=>?_) r))
    ·rw [qt ne]
     exact s3 _ _ e
    ·rw [qt ne]
     exact e
 ·obtain rfl:i=xs.length:=by omega
  refine .inl ⟨it.stop _ _ (ok _ sm) (Nat.le_refl _),?_⟩;rw [tt.len,List.take_length] at al;exact hd D H' vs hD sm hl al
end Sv
namespace Sv
open PySem PySem.Spec PyProof.Rows L2
variable {H:Hp}{K:W.Frag}{Q:VK}{R:L2.St→Hp→Prop}{us:List Value}{xs:List V}
theorem Vals.drop_ (h:Vals xs us)(k:Nat):Vals (xs.drop k) (us.drop k):=by
 induction h generalizing k with
 | nil=>rw [List.drop_nil,List.drop_nil]; exact .nil
 | cons r t ih =>
  cases k with
  | zero=>exact .cons r t
  | succ k=>exact ih k
theorem qwk (K:W.Frag):W.kitOne K (.type "int") (.type "str")=some false:=by
 first
 | decide +kernel
 | rfl
theorem qxk {i:Int}(q:Q (.bl false) H):rIsi K [.int i,.ty "str"] H Q:=⟨_,_,_,_,rfl,.int i,qwk K,q⟩
theorem gtup3 {a:Addr}{x y z:V}{i j k:Nat}{σ:L2.St}(h:SqT K H a [x,y,z])(q:R (((σ.set i (some x)).set j (some y)).set k (some z)) H) :
  gTup K 3 (qu6 (qb4 i) (qu6 (qb4 j) (qu6 (qb4 k) gNil))) (.ref a) σ H R:=⟨a,_,rfl,h,rfl,_,_,rfl,_,_,rfl,_,_,rfl,rfl,q⟩
theorem qfs {p:Addr}{y:V}(h:SqL K H p (xs++[y]))(q:Q y H):rIxL K (.ref p) (.int (-1)) H Q:=⟨p,_,-1,y,rfl,rfl,h,qyw _ _,q⟩
end Sv
namespace Sv
open PySem PySem.Spec PyProof.Rows L2
variable {P:Program}{ta:TA}{tg:Expr}
def Itv (K:W.Frag)(a:Addr)(n:Nat):It :=
 ⟨fun i H=>∃ xs x,SqL K H a xs∧i<n∧xs[n - 1 - i]?=some x,fun i H x H'=>H'=H∧∀ xs,SqL K H a xs→xs[n - 1 - i]?=some x,fun i _=>n≤i⟩
theorem qbu {w:World}{K:W.Frag}(a it:Addr)(n:Nat):Turn P w K tg (Itv K a n) [it] it (fun i h=>i≤n∧h.IsRevIter it a ((n:Int) - 1 - (i:Int))) where
 mem:=by simp
 obj:=fun i h st b hb=>by
  have e:b=it:=by simpa using hb
  subst e;obtain ⟨_,o,e,c,d⟩:=st;exact ⟨o,e,fun v z=>by rw [d] at z; cases z⟩
 keep:=fun i h h' st k=>⟨st.1,st.2.at fun o e=>k it (by simp) o e⟩
 item:=by
  intro X hP hw hK hc i pins s σ H E I hf st hg;subst hP hw hK;obtain ⟨xs,x,hq,hi,hx⟩:=hg;obtain ⟨its,rv,p,hz⟩:=I.list hq;obtain ⟨u,hu,ru⟩:=rv.get hx;obtain ⟨f0,f1,f2,f3,f4,f5⟩:=hf it (by simp)
  have st1:s.heap.IsRevIter it a ((n - 1 - i:Nat):Int):=by
   rw [show ((n - 1 - i:Nat):Int)=(n:Int) - 1 - (i:Int) by omega];exact st.2
  refine wpAny_pyNext_rev_item st1 p.isList (x:=u) (by simpa using hu) fun h' st' sb=>?_;have I1:Inv X pins σ H { s with heap:=h' }:=I.turned (t':=s.toks) (fun b o hb e=>(sb.2 b hb).trans e) f0 f1 f3 f4 f5
  have st3:i+1≤n∧h'.IsRevIter it a ((n:Int) - 1 - ((i+1:Nat):Int)):=⟨hi,by
   rw [show (n:Int) - 1 - ((i+1:Nat):Int)=((n - 1 - i:Nat):Int) - 1 by omega]
   exact st'⟩
  obtain ⟨o,e,c,d⟩:=id st';exact ⟨u,rfl,qps (s:={ s with heap:=h' }) e c d (by decide) ⟨x,H,I1,ru,⟨rfl,fun ys hy=>by rw [I.list_inj hy hq]; exact hx⟩,st3,fun b hb=>(hf b hb).1⟩⟩
 done:=by
  intro X hP hw hK hc i pins s σ H E I hf st hg;subst hP hw hK;have e:i=n:=Nat.le_antisymm st.1 hg;obtain ⟨f0,f1,f2,f3,f4,f5⟩:=hf it (by simp)
  have st1:s.heap.IsRevIter it a (-1):=by
   rw [show (-1:Int)=(n:Int) - 1 - (i:Int) by omega];exact st.2
  exact wpAny_pyNext_rev_end (I.ok.hd hc) st1 fun h' eb=>⟨rfl,I.turned (t':=s.toks) (fun b o hb e=>eb b o hb e) f0 f1 f3 f4 f5⟩
 self:=fun _ _ _ _ _ st h=>wpAny_pyIter_revIter st.2 h
def RevR (K:W.Frag)(vs:List V)(H:Hp)(R:It→Hp→Prop):Prop:=∃ a xs,vs=[.ref a]∧SqL K H a xs∧R (Itv K a xs.length) H
def iRev (K:W.Frag)(ta:TA):TI:=fun σ H R=>ta σ H fun vs H1=>RevR K vs H1 R
section
variable {X:Cx}
theorem pi_rev {a:Expr}{p pos:Pos}(hg:Gl X "reversed")(hm:X.mg "reversed"=none)(ha:PA X [a] ta)(hs:starEach [a] X.env=[(false,eval a X.env)]:=by rfl) :
  PI X tg (.Call (.Name "reversed" p) [a] [] pos) (iRev X.K ta):=by
 intro pins s σ H R I h;refine Call_ (qvc I hg hm qgl (PyProof.Rows.callWith_type1 (thn (ha pos pins s σ H _ I h) fun us s1 ⟨vs,H1,I1,r1,q1⟩=>?_) hs rfl));obtain ⟨p1,xs,e,h1,q⟩:=q1;subst e;obtain ⟨its,rv,t1,hz⟩:=I1.list h1
 cases r1 with
 | cons r rr =>
  cases rr;cases r;have hl:=rv.length;refine call_reversed_list t1.isList ?_;refine wpAny_pyIter_revIter (it:=s1.heap.objs.size) (l:=p1) (i:=(its.toArray.size:Int) - 1) ⟨_,Heap.get?_push_size _ rfl,rfl,rfl⟩ ?_;refine ⟨s1.heap.objs.size,[s1.heap.objs.size],_,_,H1,rfl,I1.kept (t':=s1.toks) fun b o e=>Heap.get?_push_of_some _ e,qbu p1 _ xs.length,⟨Nat.zero_le _,_,Heap.get?_push_size _ rfl,rfl,?_⟩,fun b hb=>?_,q⟩
  ·show Data.fields #[.ref p1,rawInt ((its.toArray.size:Int) - 1)]=Data.fields #[.ref p1,rawInt ((xs.length:Int) - 1 - ((0:Nat):Int))]
   rw [show (its.toArray.size:Int) - 1=(xs.length:Int) - 1 - ((0:Nat):Int) by rw [List.size_toArray]; omega]
  ·have e:b=s1.heap.objs.size:=by simpa using hb
   subst e;exact I1.fpOk (Nat.le_refl _) (I1.hok.fresh (Nat.le_refl _))
end
section
variable {K:W.Frag}{H:Hp}{R:It→Hp→Prop}{a:Addr}{xs:List V}
theorem rev_ {σ:L2.St}:iRev K ta σ H R=ta σ H fun vs H1=>RevR K vs H1 R:=rfl
theorem RevR.go (h:SqL K H a xs)(q:R (Itv K a xs.length) H):RevR K [.ref a] H R:=⟨a,xs,rfl,h,q⟩
theorem itv:ItOf (Itv K a xs.length) xs.reverse (fun H=>SqL K H a xs) where
 go:=fun i H h l=>by
  rw [List.length_reverse] at l;exact ⟨xs,xs[xs.length - 1 - i],h,l,List.getElem?_eq_getElem _⟩
 yld:=fun i H x H' h l y=>by
  rw [List.length_reverse] at l;refine ⟨y.1,?_⟩;rw [List.getElem?_reverse l];exact y.2 xs h
 stop:=fun i H h l=>by
  rw [List.length_reverse] at l;exact l
end
end Sv
namespace Sv
open PySem PySem.Spec PyProof.Rows L2
variable {ns:List Int}
def LabN (ns:List Int):Prop:=ns.length≤8∧∀ n∈ns,0≤n∧n<10 ^ 10
def RepA (Q:VK)(x:V)(H:Hp):Prop:=∃ a ns,x=.ref a∧H a=some (.tup (ns.map V.int))∧LabN ns∧∀ z:Str,z.length≤200→Q (.str z) H
theorem RepA.go {Q:VK}{a:Addr}{H:Hp}(h:H a=some (.tup (ns.map V.int)))(l:LabN ns)(q:∀ z:Str,z.length≤200→Q (.str z) H):RepA Q (.ref a) H:=⟨a,ns,rfl,h,l,q⟩
end Sv
namespace Sv
open PySem PySem.Spec PyProof.Rows L2
def MulS:R2:=fun x y H Q=>∃ (i:Str) (n:Int),x=.str i∧y=.int n∧i.length=1∧0≤n∧n≤1000∧Q (.str (Txt.mul i n)) H
theorem qkk {X:Cx}:OpR X (binaryOp .Mult) MulS:=by
 intro pins s σ H x y v u Q I rx ry h;obtain ⟨i,n,rfl,rfl,i1,n0,n1,q⟩:=h;obtain ⟨t,rfl⟩:=rx;obtain ⟨t',rfl⟩:=ry;refine SB.mul ⟨?_,fun _ _=>?_,fun _ _=>?_⟩ fun t' tk=>⟨.str (Txt.mul i n),H,I.tok _,⟨_,rfl⟩,q⟩
 ·rw [decide_eq_false (by omega),decide_eq_false (by omega)]
  rfl
 ·rw [i1]
  intro z
  have:(1:Int)≤(2 ^ 63 - 1) / n:=by
   by_cases c:n=0
   ·omega
   ·exact Int.le_ediv_of_mul_le (by omega) (by omega)
  omega
 ·rw [i1,Nat.one_mul]
  show decide _=false;have:=(by decide:(1000:Nat)≤sizeLine);exact decide_eq_false (by omega)
theorem qpk {i:Str}{n:Int}{H:Hp}{Q:VK}(h:i.length=1)(n0:0≤n)(n1:n≤1000)(q:Q (.str (Txt.mul i n)) H):MulS (.str i) (.int n) H Q:=⟨i,n,rfl,rfl,h,n0,n1,q⟩
theorem fold_q:∀ (n:Nat) (b:Array Nat),((List.replicate n (#[113]:Array Nat)).foldl (·++·) b).toList=b.toList++List.replicate n 113
 | 0,b=>by simp
 | n+1,b=>by
  rw [List.replicate_succ,List.foldl_cons,fold_q n,List.replicate_succ,Array.toList_append,List.append_assoc];rfl
theorem mul_q (n:Nat):(Txt.mul "q" (n:Int)).cps.toList=List.replicate n 113:=by
 unfold Txt.mul
 by_cases c:(n:Int)<1
 ·rw [if_pos c,show n=0 by omega]
  rfl
 ·rw [if_neg c]
  by_cases c1:n=1
  ·subst c1
   rfl
  ·rw [if_neg (by
    have e1:((n:Int) == 1)=false:=beq_eq_false_iff_ne.mpr (by omega)
    have e2:(("q":Str).length == 0)=false:=by decide
    rw [e1,e2]
    simp),Int.toNat_natCast]
   exact fold_q n #[]
end Sv
local macro_rules | `(tactic| walk_at "u1")=>`(tactic| (intro _ _ _ _ _ _ us hl; obtain ⟨a0,e⟩:=Sv.us1 hl; subst e; rfl))
local macro_rules | `(tactic| walk_at "u2")=>`(tactic| (intro _ _ _ _ _ _ us hl; obtain ⟨a0,a1,e⟩:=Sv.us2 hl; subst e; rfl))
local macro_rules | `(tactic| walk_at "u3")=>`(tactic| (intro _ _ _ _ _ _ us hl; obtain ⟨a0,a1,a2,e⟩:=Sv.us3 hl; subst e; rfl))
local macro_rules | `(tactic| walk_at "u4")=>`(tactic| (intro _ _ _ _ _ _ us hl; obtain ⟨a0,a1,a2,a3,e⟩:=Sv.us4 hl; subst e; rfl))
local macro_rules | `(tactic| walk_at "u5")=>`(tactic| (intro _ _ _ _ _ _ us hl; obtain ⟨a0,a1,a2,a3,a4,e⟩:=Sv.us5 hl; subst e; rfl))
local macro_rules | `(tactic| walk_at "l")=>`(tactic| (intro vs H Q E h; (repeat (obtain ⟨_,h⟩:=h)); subst_vars; rfl))
local macro_rules | `(tactic| walk_at "o")=>`(tactic| first | exact .inl rfl | exact .inr rfl | assumption)
local macro_rules | `(tactic| walk_at "d")=>`(tactic| ((refine' Sv.mk_def (by assumption) (by assumption) ?a ?l ?c ?k); (case a=>k_is); (case l=>k_is); (case c=>k_is); (case k=>k_is)))
local macro_rules | `(tactic| walk_at "m")=>`(tactic| ((refine' Sv.mk_mdef ?a ?l ?c ?k ?n); (case a=>k_is); (case l=>k_is); (case c=>k_is); (case k=>k_is); (case n=>k_is)))
local macro_rules | `(tactic| walk_at "n")=>`(tactic| ((refine' PySem.W.mg_none_of (by assumption) (by assumption) ?a); (case a=>k_is)))
local macro_rules | `(tactic| walk_at "s")=>`(tactic| try simp only [List.map_cons,List.map_nil,List.getD_cons_zero,List.getD_cons_succ,Sv.seq_,Sv.dget_,Sv.dnotin_,Sv.dput_,Sv.dnew_,Sv.dic_,Sv.rev_,Sv.cont_,Sv.ifx_,Sv.ifR_t,Sv.ifR_f,Sv.comp_,Sv.setComp_,Sv.yes_,Sv.itup_,Sv.gsub_,Sv.vals_,Sv.jn0_,Sv.jnC_,Sv.asnx_,Sv.asrt_,Sv.next_,Sv.ret_,Sv.drop_,Sv.ifS_,Sv.asg_,Sv.gname_,Sv.var_,Sv.ex_,Sv.exb_,Sv.c_,Sv.op_,Sv.un_,Sv.test_,Sv.tB_,Sv.and_,Sv.or_,Sv.not_,Sv.andV_,Sv.rI0_,Sv.rU_,Sv.ilist_,Sv.cxK2,Sv.rI_,Sv.rEqI_,Sv.rNeI_,Sv.rEqS_,Sv.rNeS_,Sv.nil_,Sv.cons_,Sv.tup_,Sv.lst_,Sv.call_,Sv.cb_,Sv.for_,Sv.rng1_,Sv.zip_,Sv.enum_,Sv.fld_,Sv.sfld_,Sv.make_,Sv.methA_,Sv.rNeB_,Sv.rEqB_,Sv.slice_,Sv.part_,Sv.nopart_,Sv.max_,Sv.min_,Sv.bm0_,Sv.bm_,Sv.tyInt_,Sv.tyStr_,Sv.cxK,Sv.brS_t,Sv.brS_f,Sv.brA_t,Sv.brA_f,Sv.brO_t,Sv.brO_f,Sv.brAV_t,Sv.brAV_f,Bool.not_true,Bool.not_false,true_and,eq_self,decide_true,decide_false,if_true,if_false,Bool.false_eq_true, List.getElem?_cons_zero,List.getElem?_cons_succ,List.set_cons_zero,List.set_cons_succ])
local macro_rules | `(tactic| walk_at "svn")=>`(tactic| try simp only [List.map_cons,List.map_nil,List.getD_cons_zero,List.getD_cons_succ,Sv.seq_,Sv.dget_,Sv.dnotin_,Sv.dput_,Sv.dnew_,Sv.dic_,Sv.rev_,Sv.cont_,Sv.ifx_,Sv.ifR_t,Sv.ifR_f,Sv.comp_,Sv.setComp_,Sv.yes_,Sv.itup_,Sv.gsub_,Sv.vals_,Sv.jn0_,Sv.jnC_,Sv.asnx_,Sv.asrt_,Sv.next_,Sv.ret_,Sv.drop_,Sv.ifS_,Sv.asg_,Sv.gname_,Sv.var_,Sv.ex_,Sv.exb_,Sv.c_,Sv.op_,Sv.un_,Sv.test_,Sv.tB_,Sv.and_,Sv.or_,Sv.not_,Sv.andV_,Sv.rI0_,Sv.rU_,Sv.ilist_,Sv.cxK2,Int.reduceEq,Sv.rI_,Sv.rEqI_,Sv.rNeI_,Sv.rEqS_,Sv.rNeS_,Sv.nil_,Sv.cons_,Sv.tup_,Sv.lst_,Sv.call_,Sv.cb_,Sv.for_,Sv.rng1_,Sv.zip_,Sv.enum_,Sv.fld_,Sv.sfld_,Sv.make_,Sv.methA_,Sv.rNeB_,Sv.rEqB_,Sv.slice_,Sv.part_,Sv.nopart_,Sv.max_,Sv.min_,Sv.bm0_,Sv.bm_,Sv.tyInt_,Sv.tyStr_,Sv.cxK,Sv.brS_t,Sv.brS_f,Sv.brA_t,Sv.brA_f,Sv.brO_t,Sv.brO_f,Sv.brAV_t,Sv.brAV_f,Bool.not_true,Bool.not_false,true_and,eq_self,decide_true,decide_false,if_true,if_false,Bool.false_eq_true, List.getElem?_cons_zero,List.getElem?_cons_succ,List.set_cons_zero,List.set_cons_succ])
local macro_rules | `(tactic| walk_at "ix")=>`(tactic| repeat (first | refine Sv.ixT_go (i:=0) (L2.SqT.of (by assumption)) rfl ?_ | refine Sv.ixT_go (i:=1) (L2.SqT.of (by assumption)) rfl ?_ | simp only [Int.zero_add,List.map_cons,List.map_nil,List.getD_cons_zero,List.getD_cons_succ,Sv.seq_,Sv.dget_,Sv.dnotin_,Sv.dput_,Sv.dnew_,Sv.dic_,Sv.rev_,Sv.cont_,Sv.ifx_,Sv.ifR_t,Sv.ifR_f,Sv.comp_,Sv.setComp_,Sv.yes_,Sv.itup_,Sv.gsub_,Sv.vals_,Sv.jn0_,Sv.jnC_,Sv.asnx_,Sv.asrt_,Sv.next_,Sv.ret_,Sv.drop_,Sv.ifS_,Sv.asg_,Sv.gname_,Sv.var_,Sv.ex_,Sv.exb_,Sv.c_,Sv.op_,Sv.un_,Sv.test_,Sv.tB_,Sv.and_,Sv.or_,Sv.not_,Sv.andV_,Sv.rI0_,Sv.rU_,Sv.ilist_,Sv.cxK2,Sv.rI_,Sv.rEqI_,Sv.rNeI_,Sv.rEqS_,Sv.rNeS_,Sv.nil_,Sv.cons_,Sv.tup_,Sv.lst_,Sv.call_,Sv.cb_,Sv.for_,Sv.rng1_,Sv.zip_,Sv.enum_,Sv.fld_,Sv.sfld_,Sv.make_,Sv.methA_,Sv.rNeB_,Sv.rEqB_,Sv.slice_,Sv.part_,Sv.nopart_,Sv.max_,Sv.min_,Sv.bm0_,Sv.bm_,Sv.tyInt_,Sv.tyStr_,Sv.cxK,Sv.brS_t,Sv.brS_f,Sv.brA_t,Sv.brA_f,Sv.brO_t,Sv.brO_f,Sv.brAV_t,Sv.brAV_f,Bool.not_true,Bool.not_false,true_and,eq_self,decide_true,decide_false,if_true,if_false,Bool.false_eq_true, List.getElem?_cons_zero,List.getElem?_cons_succ,List.set_cons_zero,List.set_cons_succ]))
namespace K34
open PySem PySem.Spec PyProof.Rows L2 Sv
variable {C D a p:Addr}{F':Addr→Bool}{G:Hp}{Pw:Str→Prop}{Q:VK}{S:List Nat}{U ds g:Bsx}{X:Cx}{d i k m s:Nat}{ks zs:List Str}{kvs:List (Key×V)}{l:W.OpenLaw}{ln:Str→Nat}{ls ps:List (Str×V)}{ns:List Int}{o:Option (List Int)}{pps:List (V×V)}{q0:Int}{sub':Str→Option Str}{ts xs:List V}{v0 v1 v2 v3:V}{α β:Type}{σ:L2.St}
def top (i:Nat):Stmt:=PySem.Challenge.pw_sieve_k34_whole_same_meaning.main.body.getD i (.Pass ⟨0,0,0,0⟩)
abbrev qeq:Stmt:=top 0
abbrev qdq:Stmt:=top 2
abbrev qih:Stmt:=top 3
theorem st_meet :qk1 ["one","other","low","high"] [v0,v1]=[some v0,some v1,none,none]:=rfl
theorem qck:qo ["one","other","low","high"] ["one","other"] (qh qih):=⟨rfl,rfl,rfl,by decide +kernel,rfl,by decide +kernel,by decide +kernel⟩
abbrev s_has:Stmt:=top 5
abbrev qc9:Stmt:=top 6
theorem qrp :qk1 ["box","other","stretches","stretch","beside","both"] [v0,v1]=[some v0,some v1,none,none,none,none]:=rfl
theorem qa7:qo ["box","other","stretches","stretch","beside","both"] ["box","other"] (qh qc9):=⟨rfl,rfl,rfl,by decide +kernel,rfl,by decide +kernel,by decide +kernel⟩
abbrev qy7:Stmt:=top 7
theorem qqp :qk1 ["box"] [v0]=[some v0]:=rfl
theorem qcq:qo ["box"] ["box"] (qh qy7):=⟨rfl,rfl,rfl,by decide +kernel,rfl,by decide +kernel,by decide +kernel⟩
abbrev qf7:Stmt:=top 8
theorem qdn :qk1 ["stretch","inner","sides"] [v0,v1]=[some v0,some v1,none]:=rfl
theorem qud:qo ["stretch","inner","sides"] ["stretch","inner"] (qh qf7):=⟨rfl,rfl,rfl,by decide +kernel,rfl,by decide +kernel,by decide +kernel⟩
abbrev qrb:Stmt:=top 9
theorem qmu :qk1 ["box","other","both","told","place","stretch","side"] [v0,v1]=[some v0,some v1,none,none,none,none,none]:=rfl
theorem qv7:qo ["box","other","both","told","place","stretch","side"] ["box","other"] (qh qrb):=⟨rfl,rfl,rfl,by decide +kernel,rfl,by decide +kernel,by decide +kernel⟩
abbrev qj3:Stmt:=qj2 (top 12) 0
theorem qhh:qo ["self","name"] ["self","name"] (qh qj3):=⟨rfl,rfl,rfl,by decide +kernel,rfl,by decide +kernel,by decide +kernel⟩
abbrev qu5:Stmt:=qj2 (top 13) 0
abbrev qg7:Stmt:=qj2 (top 14) 0
abbrev qt5:Stmt:=qj2 (top 15) 0
abbrev qub:Stmt:=top 21
theorem qpu:qk1 ["addresses","doors"] []=[none,none]:=rfl
theorem qmf:qo ["addresses","doors"] [] (qh qub):=⟨rfl,rfl,rfl,by decide +kernel,rfl,by decide +kernel,by decide +kernel⟩
abbrev qx1:Stmt:=qj2 (top 22) 0
theorem qka :qk1 ["self","box"] [v0,v1]=[some v0,some v1]:=rfl
theorem qpa:qo ["self","box"] ["self","box"] (qh qx1):=⟨rfl,rfl,rfl,by decide +kernel,rfl,by decide +kernel,by decide +kernel⟩
abbrev qyb:Stmt:=qj2 (top 22) 1
abbrev qy2:Stmt:=qj2 (top 23) 0
theorem qja :qk1 ["self","box","word"] [v0,v1,v2]=[some v0,some v1,some v2]:=rfl
theorem qoa:qo ["self","box","word"] ["self","box","word"] (qh qy2):=⟨rfl,rfl,rfl,by decide +kernel,rfl,by decide +kernel,by decide +kernel⟩
abbrev qk8:Stmt:=qj2 (top 23) 1
theorem sc_Word_told:qo ["self"] ["self"] (qh qk8):=⟨rfl,rfl,rfl,by decide +kernel,rfl,by decide +kernel,by decide +kernel⟩
abbrev qxb:Stmt:=qj2 (top 23) 2
abbrev qcc:Stmt:=qj2 (top 24) 0
abbrev qdc:Stmt:=qj2 (top 24) 1
abbrev qz2:Stmt:=qj2 (top 25) 0
theorem qla :qk1 ["self","box","name"] [v0,v1,v2]=[some v0,some v1,some v2]:=rfl
theorem qqa:qo ["self","box","name"] ["self","box","name"] (qh qz2):=⟨rfl,rfl,rfl,by decide +kernel,rfl,by decide +kernel,by decide +kernel⟩
abbrev qzb:Stmt:=qj2 (top 25) 1
abbrev qac:Stmt:=qj2 (top 25) 2
abbrev qd7:Stmt:=top 26
theorem qbn :qk1 ["told"] [v0]=[some v0]:=rfl
theorem qgn:qo ["told"] ["told"] (qh qd7):=⟨rfl,rfl,rfl,by decide +kernel,rfl,by decide +kernel,by decide +kernel⟩
abbrev qr2:Stmt:=top 30
theorem qcb :qk1 ["rules"] [v0]=[some v0]:=rfl
theorem qob:qo ["rules"] ["rules"] (qh qr2):=⟨rfl,rfl,rfl,by decide +kernel,rfl,by decide +kernel,by decide +kernel⟩
abbrev qw1:Stmt:=top 31
theorem qc8 :qk1 ["names","place","name"] [v0]=[some v0,none,none]:=rfl
theorem qi3:qo ["names","place","name"] ["names"] (qh qw1):=⟨rfl,rfl,rfl,by decide +kernel,rfl,by decide +kernel,by decide +kernel⟩
abbrev qi1:Stmt:=top 32
theorem qb6 :qk1 ["chains","name","called"] [v0]=[some v0,none,none]:=rfl
theorem qk2:qo ["chains","name","called"] ["chains"] (qh qi1):=⟨rfl,rfl,rfl,by decide +kernel,rfl,by decide +kernel,by decide +kernel⟩
abbrev qf3:Stmt:=top 33
theorem qgd :qk1 ["chains","lengths","ready","name","lacking"] [v0,v1]=[some v0,some v1,none,none,none]:=rfl
theorem qx4:qo ["chains","lengths","ready","name","lacking"] ["chains","lengths"] (qh qf3):=⟨rfl,rfl,rfl,by decide +kernel,rfl,by decide +kernel,by decide +kernel⟩
abbrev ql2:Stmt:=top 34
theorem qia :qk1 ["chains","lengths","ready","name","rules"] [v0]=[some v0,none,none,none,none]:=rfl
theorem qd2:qo ["chains","lengths","ready","name","rules"] ["chains"] (qh ql2):=⟨rfl,rfl,rfl,by decide +kernel,rfl,by decide +kernel,by decide +kernel⟩
abbrev qs5:Stmt:=top 35
abbrev qaa:Stmt:=top 36
abbrev qy1:Stmt:=qj2 (top 37) 0
theorem qma :qk1 ["self","default","chains","kept","name","rules","lengths"] [v0,v1,v2]=[some v0,some v1,some v2,none,none,none,none]:=rfl
theorem qp2:qo ["self","default","chains","kept","name","rules","lengths"] ["self","default","chains"] (qh qy1):=⟨rfl,rfl,rfl,by decide +kernel,rfl,by decide +kernel,by decide +kernel⟩
abbrev qv5:Stmt:=qj2 (top 37) 1
abbrev qba:Stmt:=qj2 (top 37) 2
abbrev qp3:Stmt:=qj2 (top 37) 3
theorem qhb :qk1 ["self","name","index","rules"] [v0,v1,v2]=[some v0,some v1,some v2,none]:=rfl
theorem qc7:qo ["self","name","index","rules"] ["self","name","index"] (qh qp3):=⟨rfl,rfl,rfl,by decide +kernel,rfl,by decide +kernel,by decide +kernel⟩
abbrev qk4:Stmt:=qj2 (top 37) 4
theorem qld :qk1 ["self"] [v0]=[some v0]:=rfl
theorem qnd:qo ["self"] ["self"] (qh qk4):=⟨rfl,rfl,rfl,by decide +kernel,rfl,by decide +kernel,by decide +kernel⟩
abbrev qq2:Stmt:=qj2 (top 37) 5
theorem qk9 :qk1 ["self","name"] [v0,v1]=[some v0,some v1]:=rfl
theorem qn9:qo ["self","name"] ["self","name"] (qh qq2):=⟨rfl,rfl,rfl,by decide +kernel,rfl,by decide +kernel,by decide +kernel⟩
abbrev qbc:Stmt:=qj2 (top 37) 6
abbrev qa9:Stmt:=top 39
theorem qnp :qk1 ["rule","number","end"] [v0,v1,v2]=[some v0,some v1,some v2]:=rfl
theorem qbq:qo ["rule","number","end"] ["rule","number","end"] (qh qa9):=⟨rfl,rfl,rfl,by decide +kernel,rfl,by decide +kernel,by decide +kernel⟩
abbrev qsb:Stmt:=top 40
theorem qnu :qk1 ["book","rule","number"] [v0,v1,v2]=[some v0,some v1,some v2]:=rfl
theorem qvu:qo ["book","rule","number"] ["book","rule","number"] (qh qsb):=⟨rfl,rfl,rfl,by decide +kernel,rfl,by decide +kernel,by decide +kernel⟩
abbrev qc6:Stmt:=top 41
theorem qij :qk1 ["book","rows","places","place","rule","number","no"] [v0]=[some v0,none,none,none,none,none,none]:=rfl
theorem qt3:qo ["book","rows","places","place","rule","number","no"] ["book"] (qh qc6):=⟨rfl,rfl,rfl,by decide +kernel,rfl,by decide +kernel,by decide +kernel⟩
abbrev qvb:Stmt:=top 42
theorem qqu :qk1 ["rows","default","step"] [v0,v1,v2]=[some v0,some v1,some v2]:=rfl
theorem qwu:qo ["rows","default","step"] ["rows","default","step"] (qh qvb):=⟨rfl,rfl,rfl,by decide +kernel,rfl,by decide +kernel,by decide +kernel⟩
abbrev qm5:Stmt:=top 43
theorem qxg :qk1 ["row","fits"] [v0,v1]=[some v0,some v1]:=rfl
theorem qeh:qo ["row","fits"] ["row","fits"] (qh qm5):=⟨rfl,rfl,rfl,by decide +kernel,rfl,by decide +kernel,by decide +kernel⟩
abbrev qx7:Stmt:=top 45
theorem qop :qk1 ["box","other","both"] [v0,v1]=[some v0,some v1,none]:=rfl
theorem qfh:qo ["box","other","both"] ["box","other"] (qh qx7):=⟨rfl,rfl,rfl,by decide +kernel,rfl,by decide +kernel,by decide +kernel⟩
abbrev qb9:Stmt:=top 46
theorem qpp :qk1 ["rows","default","box","told","waiting","place","step","word","row","piece","fits"] [v0,v1,v2]=[some v0,some v1,some v2,none,none,none,none,none,none,none,none]:=rfl
theorem qd4:qo ["rows","default","box","told","waiting","place","step","word","row","piece","fits"] ["rows","default","box"] (qh qb9):=⟨rfl,rfl,rfl,by decide +kernel,rfl,by decide +kernel,by decide +kernel⟩
abbrev qn5:Stmt:=top 47
theorem qyg :qk1 ["book","box"] [v0,v1]=[some v0,some v1]:=rfl
theorem qgh:qo ["book","box"] ["book","box"] (qh qn5):=⟨rfl,rfl,rfl,by decide +kernel,rfl,by decide +kernel,by decide +kernel⟩
abbrev qtb:Stmt:=top 49
theorem qou :qk1 ["one","other","rows","told","box","way","word","piece","other_way","other_word"] [v0,v1]=[some v0,some v1,none,none,none,none,none,none,none,none]:=rfl
theorem qf5:qo ["one","other","rows","told","box","way","word","piece","other_way","other_word"] ["one","other"] (qh qtb):=⟨rfl,rfl,rfl,by decide +kernel,rfl,by decide +kernel,by decide +kernel⟩
abbrev qe7:Stmt:=top 50
theorem qcn :qk1 ["one","other","box","way","word","other_way","other_word"] [v0,v1]=[some v0,some v1,none,none,none,none,none]:=rfl
theorem qh5:qo ["one","other","box","way","word","other_way","other_word"] ["one","other"] (qh qe7):=⟨rfl,rfl,rfl,by decide +kernel,rfl,by decide +kernel,by decide +kernel⟩
abbrev qwb:Stmt:=top 51
theorem qru :qk1 ["one","other"] [v0,v1]=[some v0,some v1]:=rfl
theorem qxu:qo ["one","other"] ["one","other"] (qh qwb):=⟨rfl,rfl,rfl,by decide +kernel,rfl,by decide +kernel,by decide +kernel⟩
abbrev qo3:Stmt:=top 53
theorem qgb :qk1 ["_law_script","_law_k"] [v0,v1]=[some v0,some v1]:=rfl
theorem qqb:qo ["_law_script","_law_k"] ["_law_script","_law_k"] (qh qo3):=⟨rfl,rfl,rfl,by decide +kernel,rfl,by decide +kernel,by decide +kernel⟩
abbrev qe6:Stmt:=top 54
theorem qjj :qk1 ["_law_d"] [v0]=[some v0]:=rfl
theorem qdk:qo ["_law_d"] ["_law_d"] (qh qe6):=⟨rfl,rfl,rfl,by decide +kernel,rfl,by decide +kernel,by decide +kernel⟩
abbrev qy3:Stmt:=top 55
theorem qye :qk1 ["_law_script"] [v0]=[some v0]:=rfl
theorem qof:qo ["_law_script"] ["_law_script"] (qh qy3):=⟨rfl,rfl,rfl,by decide +kernel,rfl,by decide +kernel,by decide +kernel⟩
abbrev qn3:Stmt:=top 56
theorem qdb :qk1 ["_law_mark","_law_top_here","_law_cell","_law_way","_law_one","_law_two"] [v0,v1,v2]=[some v0,some v1,some v2,none,none,none]:=rfl
theorem qe4:qo ["_law_mark","_law_top_here","_law_cell","_law_way","_law_one","_law_two"] ["_law_mark","_law_top_here","_law_cell"] (qh qn3):=⟨rfl,rfl,rfl,by decide +kernel,rfl,by decide +kernel,by decide +kernel⟩
abbrev qi5:Stmt:=top 57
theorem qmj :qk1 ["_law_marks_here","_law_cell","_law_wish","_law_box_here","_law_at","_law_k"] [v0,v1,v2]=[some v0,some v1,some v2,none,none,none]:=rfl
theorem ql5:qo ["_law_marks_here","_law_cell","_law_wish","_law_box_here","_law_at","_law_k"] ["_law_marks_here","_law_cell","_law_wish"] (qh qi5):=⟨rfl,rfl,rfl,by decide +kernel,rfl,by decide +kernel,by decide +kernel⟩
abbrev qz4:Stmt:=top 58
theorem qze :qk1 ["_law_script","_law_marks_here","_law_many","_law_boxes_here","_law_pieces","_law_k","_law_at","_law_cell","_law_wish"] [v0,v1,v2]=[some v0,some v1,some v2,none,none,none,none,none,none]:=rfl
theorem qs1:qo ["_law_script","_law_marks_here","_law_many","_law_boxes_here","_law_pieces","_law_k","_law_at","_law_cell","_law_wish"] ["_law_script","_law_marks_here","_law_many"] (qh qz4):=⟨rfl,rfl,rfl,by decide +kernel,rfl,by decide +kernel,by decide +kernel⟩
abbrev qp5:Stmt:=top 59
theorem qbh :qk1 ["_law_cell","_law_many","_law_at"] [v0]=[some v0,none,none]:=rfl
theorem qb7:qo ["_law_cell","_law_many","_law_at"] ["_law_cell"] (qh qp5):=⟨rfl,rfl,rfl,by decide +kernel,rfl,by decide +kernel,by decide +kernel⟩
abbrev qo5:Stmt:=top 60
theorem qzg {v4:V}:qk1 ["_law_cell","_law_level","_law_box_here","_law_name_here","_law_calls","_law_way"] [v0,v1,v2,v3,v4]=[some v0,some v1,some v2,some v3,some v4,none]:=rfl
theorem qz9:qo ["_law_cell","_law_level","_law_box_here","_law_name_here","_law_calls","_law_way"] ["_law_cell","_law_level","_law_box_here","_law_name_here","_law_calls"] (qh qo5):=⟨rfl,rfl,rfl,by decide +kernel,rfl,by decide +kernel,by decide +kernel⟩
abbrev qj4:Stmt:=top 61
theorem qkd :qk1 ["_law_script","_law_sizes","_law_boxes_here","_law_at","_law_name_here","_law_chains_here","_law_level","_law_rules","_law_calls","_law_k"] [v0,v1,v2,v3]=[some v0,some v1,some v2,some v3,none,none,none,none,none,none]:=rfl
theorem qo1:qo ["_law_script","_law_sizes","_law_boxes_here","_law_at","_law_name_here","_law_chains_here","_law_level","_law_rules","_law_calls","_law_k"] ["_law_script","_law_sizes","_law_boxes_here","_law_at"] (qh qj4):=⟨rfl,rfl,rfl,by decide +kernel,rfl,by decide +kernel,by decide +kernel⟩
abbrev qg4:Stmt:=top 62
theorem qhd :qk1 ["_law_word"] [v0]=[some v0]:=rfl
theorem qmd:qo ["_law_word"] ["_law_word"] (qh qg4):=⟨rfl,rfl,rfl,by decide +kernel,rfl,by decide +kernel,by decide +kernel⟩
abbrev qh4:Stmt:=top 63
theorem qid :qk1 ["_law_marks_here","_law_cell","_law_at","_law_parcel_here","_law_d","_law_top_here","_law_turn","_law_way","_law_number"] [v0,v1,v2]=[some v0,some v1,some v2,none,none,none,none,none,none]:=rfl
theorem qh1:qo ["_law_marks_here","_law_cell","_law_at","_law_parcel_here","_law_d","_law_top_here","_law_turn","_law_way","_law_number"] ["_law_marks_here","_law_cell","_law_at"] (qh qh4):=⟨rfl,rfl,rfl,by decide +kernel,rfl,by decide +kernel,by decide +kernel⟩
abbrev qg6:Stmt:=top 64
theorem qlj :qk1 ["_law_box_here","_law_parcel_here","_law_k"] [v0,v1]=[some v0,some v1,none]:=rfl
theorem qpb:qo ["_law_box_here","_law_parcel_here","_law_k"] ["_law_box_here","_law_parcel_here"] (qh qg6):=⟨rfl,rfl,rfl,by decide +kernel,rfl,by decide +kernel,by decide +kernel⟩
abbrev qs4:Stmt:=top 65
theorem qah :qk1 ["_law_chains_here","_law_name_here","_law_parcel_here","_law_seen","_law_its_name","_law_rules","_law_index","_law_rule_here","_law_fits","_law_word"] [v0,v1,v2,v3]=[some v0,some v1,some v2,some v3,none,none,none,none,none,none]:=rfl
theorem qt1:qo ["_law_chains_here","_law_name_here","_law_parcel_here","_law_seen","_law_its_name","_law_rules","_law_index","_law_rule_here","_law_fits","_law_word"] ["_law_chains_here","_law_name_here","_law_parcel_here","_law_seen"] (qh qs4):=⟨rfl,rfl,rfl,by decide +kernel,rfl,by decide +kernel,by decide +kernel⟩
abbrev qa5:Stmt:=top 66
theorem qaf :qk1 ["_law_box_here","_law_other","_law_k"] [v0,v1]=[some v0,some v1,none]:=rfl
theorem qz8:qo ["_law_box_here","_law_other","_law_k"] ["_law_box_here","_law_other"] (qh qa5):=⟨rfl,rfl,rfl,by decide +kernel,rfl,by decide +kernel,by decide +kernel⟩
abbrev qi4:Stmt:=top 67
theorem qjd :qk1 ["_law_rule_here","_law_cell","_law_d","_law_low","_law_high","_law_place","_law_one","_law_two"] [v0,v1]=[some v0,some v1,none,none,none,none,none,none]:=rfl
theorem qh2:qo ["_law_rule_here","_law_cell","_law_d","_law_low","_law_high","_law_place","_law_one","_law_two"] ["_law_rule_here","_law_cell"] (qh qi4):=⟨rfl,rfl,rfl,by decide +kernel,rfl,by decide +kernel,by decide +kernel⟩
abbrev qx3:Stmt:=top 68
theorem qxe:qk1 [] []=[]:=rfl
theorem qnf:qo [] [] (qh qx3):=⟨rfl,rfl,rfl,by decide +kernel,rfl,by decide +kernel,by decide +kernel⟩
abbrev qf6:Stmt:=top 69
theorem qkj {v4:V}:qk1 ["_law_rules","_law_k","_law_way","_law_cell","_law_fresh","_law_rule_here","_law_same"] [v0,v1,v2,v3,v4]=[some v0,some v1,some v2,some v3,some v4,none,none]:=rfl
theorem qj8:qo ["_law_rules","_law_k","_law_way","_law_cell","_law_fresh","_law_rule_here","_law_same"] ["_law_rules","_law_k","_law_way","_law_cell","_law_fresh"] (qh qf6):=⟨rfl,rfl,rfl,by decide +kernel,rfl,by decide +kernel,by decide +kernel⟩
abbrev qt2:Stmt:=top 70
theorem qfb :qk1 ["_law_default","_law_chains_here","_law_cell","_law_fresh","_law_at","_law_rules","_law_last","_law_k","_law_new_here","_law_more"] [v0,v1,v2,v3]=[some v0,some v1,some v2,some v3,none,none,none,none,none,none]:=rfl
theorem qp1:qo ["_law_default","_law_chains_here","_law_cell","_law_fresh","_law_at","_law_rules","_law_last","_law_k","_law_new_here","_law_more"] ["_law_default","_law_chains_here","_law_cell","_law_fresh"] (qh qt2):=⟨rfl,rfl,rfl,by decide +kernel,rfl,by decide +kernel,by decide +kernel⟩
abbrev qs2:Stmt:=top 71
theorem qeb :qk1 ["_law_default","_law_chains_here","_law_turned_here","_law_parcel_here","_law_word","_law_rule_here"] [v0,v1,v2,v3]=[some v0,some v1,some v2,some v3,none,none]:=rfl
theorem qf4:qo ["_law_default","_law_chains_here","_law_turned_here","_law_parcel_here","_law_word","_law_rule_here"] ["_law_default","_law_chains_here","_law_turned_here","_law_parcel_here"] (qh qs2):=⟨rfl,rfl,rfl,by decide +kernel,rfl,by decide +kernel,by decide +kernel⟩
abbrev qpf:Stmt:=top 72
theorem st_law :qk1 ["_law_script","_law_shape","_law_default","_law_sizes","_law_marks_here","_law_chains_here","_law_turned_here","_law_k","_law_held","_law_one","_law_other","_law_parcel_here","_law_third","_law_found"] [v0]=[some v0,none,none,none,none,none,none,none,none,none,none,none,none,none]:=rfl
theorem qk5:qo ["_law_script","_law_shape","_law_default","_law_sizes","_law_marks_here","_law_chains_here","_law_turned_here","_law_k","_law_held","_law_one","_law_other","_law_parcel_here","_law_third","_law_found"] ["_law_script"] (qh qpf):=⟨rfl,rfl,rfl,by decide +kernel,rfl,by decide +kernel,by decide +kernel⟩
section
variable {P:Program}{w:World}{K:W.Frag}{mg:Str→Option Value}{base:Heap}{f:Addr}{fd:FuncData}
theorem qrt {l:Addr}{y:V}{H:Hp}(h:H l=some (.lst xs))(z:xs.length≤16770000)(q:Q .non (upd H l (.lst (xs++[y])))):qek (.ref l) [y] H Q :=
 ⟨l,xs,y,rfl,rfl,h,Nat.lt_of_le_of_lt z (by decide),q⟩
theorem ok_cell (F:Fun K "_law_cell_at" "_law_cell_at" qo3 f fd)(b_len:mg "len"=none):FnOk P w K mg base CX0 1 f fd ["_law_script","_law_k"] (spCell K):=by
 refine F.ok qqb (fun vs H Q E h=>?_) (fun _ _ _ _ H _ Q E hr h=>?_)
 ·obtain ⟨a,ns,k,rfl,_⟩:=h
  rfl
 obtain ⟨a,ns,k,rfl,hS,h0,q⟩:=h;obtain ⟨n,rfl⟩:=Int.eq_ofNat_of_zero_le h0;refine ⟨_,(qc (ql1 (qk qod (pv 1) (qy qb5 rfl b_len qg8 (qa (pv 0) qd)) (qs0 _)) (qg (qm (qq qb2 (pv 0) (pv 1) (fun _ _=>rfl)))) qn0) (qg (qm qf))),?_⟩;rw [qgb];walk_at "s";refine LenR.lst hS ?_;walk_at "s";rw [List.length_map];refine BrS.dec (fun c=>?_) (fun c=>?_)
 ·walk_at "s"
  refine qw2 hS (v:=.int (cell ns n)) ?_ q
  have hn:n<ns.length:=by omega
  rw [List.getElem?_map,List.getElem?_eq_getElem hn];unfold cell;rw [Int.toNat_natCast,List.getD_eq_getElem?_getD,List.getElem?_eq_getElem hn];rfl
 ·walk_at "s"
  have hn:ns.length≤n:=by omega
  have e:cell ns n=0:=by
   unfold cell;rw [Int.toNat_natCast,List.getD_eq_getElem?_getD,List.getElem?_eq_none hn];rfl
  rw [e] at q;exact q
def Fair (bs:Bsx):Prop:=bs.length≤8∧∀ b∈bs,b.1≤b.2∧-(2 ^ 400)<b.1∧b.2<2 ^ 400
theorem at_of {xs:List α}{n:Nat}(h:i<n)(e:xs.length=n):∃ x,xs[i]?=some x:=by
 subst e;exact ⟨xs[i],List.getElem?_eq_getElem h⟩
inductive Yes where
 | word (z:Str)
 | goto (n:Nat)
def Yes.v:Yes→V
 | .word z=>.str z
 | .goto n=>.int (n:Int)
theorem qro {n:Nat}:(Yes.goto n).v=.int (n:Int):=rfl
structure Row where
 nm:Str
 ix:Nat
 bp:Addr
 yes:Yes
 no:Nat
def Row.vs (r:Row):List V:=[.str r.nm,.int (r.ix:Int),.ref r.bp,r.yes.v,.int (r.no:Int)]
def RowAt (H:Hp)(bx:Addr→Bsx)(v:V)(r:Row):Prop:=∃ t,v=.ref t∧H t=some (.tup r.vs)∧IsBox H r.bp (bx r.bp)∧(bx r.bp).length=6∧Fair (bx r.bp)
theorem RowAt.same {H H':Hp}{bx:Addr→Bsx}{v:V}{r:Row}(h:RowAt H bx v r)(s:Same H H'):RowAt H' bx v r:=by
 obtain ⟨t,e,h1,h2,h3⟩:=h;exact ⟨t,e,s _ _ h1,h2.same s,h3⟩
def qkl (rs:List Row):Prop:=∀ (i:Nat) (r:Row),rs[i]?=some r→i<r.no∧r.no≤rs.length∧∀ m,r.yes=.goto m→i<m∧m≤rs.length
def qhg (n:Nat)(df:Str):Yes→Option Str
 | .word z=>some z
 | .goto i=>if i<n then none else some df
def optV:Option Str→V
 | some z=>.str z
 | none=>.non
def qf2 (r:Row)(b:Bool):Yes:=if b=true then r.yes else .goto r.no
theorem qrw {n:Nat}{df:Str}{y:Yes}(h:optV (qhg n df y)=.non):∃ i,y=.goto i∧i<n:=by
 cases y with
 | word z=>cases h
 | goto i =>
  by_cases l:i<n
  ·exact ⟨i,rfl,l⟩
  ·rw [show qhg n df (.goto i)=some df from if_neg l] at h
   cases h
theorem qqw {n:Nat}{df:Str}{y:Yes}(h:¬ optV (qhg n df y)=.non):∃ z,qhg n df y=some z∧(y=.word z∨∃ i,y=.goto i∧n≤i∧z=df):=by
 cases y with
 | word z=>exact ⟨z,rfl,.inl rfl⟩
 | goto i =>
  by_cases l:i<n
  ·rw [show qhg n df (.goto i)=none from if_pos l] at h
   exact absurd rfl h
  ·exact ⟨df,if_neg l,.inr ⟨i,rfl,Nat.le_of_not_lt l,rfl⟩⟩
def qzj:Sp:=fun vs H Q _=>∃ (rl:Addr) (df:Str) (y:Yes) (vr:List V),vs=[.ref rl,.str df,y.v]∧H rl=some (.lst vr)∧Q (optV (qhg vr.length df y)) H
theorem quv (F:Fun K "ended" "ended" qvb f fd)(b_len:mg "len"=none)(b_isinstance:mg "isinstance"=none)(b_str:mg "str"=none):FnOk P w K mg base CX0 1 f fd ["rows","default","step"] qzj:=by
 refine F.ok qwu (by walk_at "l") (fun cdv A outer s H vs Q E hr h=>?_);obtain ⟨rl,df,y,vr,rfl,hrl,q⟩:=h;refine ⟨_,(qc (ql1 (qh6 (qy qvm rfl b_isinstance qo2 (qa (pv 2) (qa (qxq (v:=.ty "str") (u:=.type "str") rfl b_str bo_str rfl) qd)))) (qg (qm (pv 2))) qn0) (qg (qm (qvf (qk qod (pv 2) (qy qb5 rfl b_len qg8 (qa (pv 0) qd)) (qs0 _)) qw5 (pv 1))))),?_⟩;rw [qqu];walk_at "s"
 cases y with
 | word z =>
  refine isi_str ?_;walk_at "s";exact q
 | goto i =>
  simp only [qro];refine qxk ?_;walk_at "s";refine LenR.lst (SqL.of hrl) ?_;walk_at "s";refine IfR.dec (fun h=>?_) (fun h=>?_)
  ·walk_at "s"
   have l:i<vr.length:=by omega
   rw [show qhg vr.length df (.goto i)=none from if_pos l] at q;exact q
  ·walk_at "s"
   have l:¬ i<vr.length:=by omega
   rw [show qhg vr.length df (.goto i)=some df from if_neg l] at q;exact q
def qsp:Sp:=fun vs H Q _=>∃ (t:Addr) (b:Bool) (r:Row),vs=[.ref t,.bl b]∧H t=some (.tup r.vs)∧Q (qf2 r b).v H
theorem ok_step (F:Fun K "step_from" "step_from" qm5 f fd):FnOk P w K mg base CX0 1 f fd ["row","fits"] qsp:=by
 refine F.ok qeh (by walk_at "l") (fun cdv A outer s H vs Q E hr h=>?_);obtain ⟨t,b,r,rfl,ht,q⟩:=h;refine ⟨_,(qg (qm (qvf (qh6 (pv 1)) (qq ql0 (pv 0) qf (fun _ _=>rfl)) (qq ql0 (pv 0) qf (fun _ _=>rfl))))),?_⟩;rw [qxg];walk_at "s"
 cases b with
 | true =>
  walk_at "s";refine ixT_go (i:=3) (SqT.of ht) rfl ?_;walk_at "s";exact q
 | false =>
  walk_at "s";refine ixT_go (i:=4) (SqT.of ht) rfl ?_;walk_at "s";exact q
def qup:Sp:=fun vs H Q _=>∃ (p r:Addr) (a b c d:Int),vs=[.ref p,.ref r]∧H p=some (.tup [.int a,.int b])∧H r=some (.tup [.int c,.int d])∧(min b d<max a c→∀ H',Same H H'→Q .non H') ∧
 (max a c≤min b d→∀ x H',Same H H'→H' x=some (.tup [.int (max a c),.int (min b d)])→Q (.ref x) H')
theorem ok_meet (F:Fun K "meet" "meet" qih f fd)(b_max:mg "max"=none)(b_min:mg "min"=none):FnOk P w K mg base CX0 1 f fd ["one","other"] qup:=by
 refine F.ok qck (by walk_at "l") (fun cdv A outer s H vs Q E hr h=>?_);obtain ⟨p,r,a,b,c,d,rfl,hp,hq,q1,q2⟩:=h;refine ⟨_,(qc (qi (i:=2) qck.nd rfl (Or.inl rfl) (qy (qq7 rfl) rfl b_max qyi (qa (qq ql0 (pv 0) qf (fun _ _=>rfl)) (qa (qq ql0 (pv 1) qf (fun _ _=>rfl)) qd)))) (qc (qi (i:=3) qck.nd rfl (Or.inl rfl) (qy (qp7 rfl) rfl b_min qxi (qa (qq ql0 (pv 0) qf (fun _ _=>rfl)) (qa (qq ql0 (pv 1) qf (fun _ _=>rfl)) qd)))) (qc (ql1 (qk qrn (pv 2) (pv 3) (qs0 _)) (qg (qm qw5)) qn0) (qg (qm (qv0 (qa (pv 2) (qa (pv 3) qd)))))))),?_⟩;rw [st_meet];walk_at "ix";refine BrS.dec (fun c1=>?_) (fun c1=>?_)
 ·walk_at "ix"
  exact q1 c1 H (Same.refl H)
 ·walk_at "ix"
  exact TupR.go (by simp) fun x hx=>q2 (by omega) x _ (qe hx _) qb0
def spCommon:Sp:=fun vs H Q _=>∃ (p r:Addr) (bs cs:Bsx),vs=[.ref p,.ref r]∧IsBox H p bs∧IsBox H r cs∧cs.length=bs.length∧Fair bs∧Fair cs∧(qe3 bs cs=none→∀ H',Same H H'→Q .non H') ∧
 (∀ ds,qe3 bs cs=some ds→∀ x H',Same H H'→IsBox H' x ds→Q (.ref x) H')
theorem spCommon.go {H:Hp}{E:XK}{r:Addr}{bs cs:Bsx}(hp:IsBox H p bs)(hr:IsBox H r cs)(hl:cs.length=bs.length)(h1:Fair bs)(h2:Fair cs)(q:∀ v H',Same H H'→BothV H' bs cs v→Q v H'):spCommon [.ref p,.ref r] H Q E :=
 ⟨p,r,bs,cs,rfl,hp,hr,hl,h1,h2,fun z H' s=>q _ H' s (.inl ⟨rfl,z⟩),fun ds z x H' s hx=>q _ H' s (.inr ⟨x,ds,rfl,z,hx⟩)⟩
theorem qor (F:Fun K "common" "common" qc9 f fd)(g_meet:Fn P w K mg base "meet" 1 ["one","other"] qup)(b_zip:mg "zip"=none)(b_tuple:mg "tuple"=none):FnOk P w K mg base CX0 2 f fd ["box","other"] spCommon:=by
 refine F.ok qa7 (by walk_at "l") (fun cdv A outer s H vs Q E hr h=>?_);obtain ⟨p,r,bs,cs,rfl,⟨vs,hp,hb⟩,⟨ws,hr1,hc⟩,hl,fair,fair',q1,q2⟩:=h;refine ⟨_,(qc (qi (i:=2) qa7.nd rfl (Or.inl rfl) (qe1 qd)) (qc (qb3 PassesOwn.never rfl (pi_zip rfl b_zip (qa (pv 0) (qa (pv 1) qd))) (qj7 rfl (qx (qp (i:=3) qa7.nd rfl (Or.inl rfl)) (qx (qp (i:=4) qa7.nd rfl (Or.inl rfl)) qc5))) (qc (qi (i:=5) qa7.nd rfl (Or.inl rfl) (qf1 g_meet hr (by decide) rfl (qa (pv 3) (qa (pv 4) qd)))) (qc (ql1 (qk qai (pv 5) qw5 (qs0 _)) (qg (qm qw5)) qn0) (qg (qn2 (qp8 PySem.F.plainAttrs_list PySem.F.slot_list_append PySem.F.type_list_append qr1 (pv 2) (qa (pv 5) qd))))))) (qg (qm (qm4 qw4 rfl b_tuple qv6 (qa (pv 2) qd)))))),?_⟩;rw [qrp];walk_at "s";refine LstR.go (by simp) fun l hl0=>?_;have s0:=qe hl0 (.lst []);refine ZipR.go (s0.seqT (SqT.of hp)) (s0.seqT (SqT.of hr1)) ?_;have h8:=fair.1;have hbl:=hb.len;have hcl:=hc.len;have hml:=qj6 hl;refine ForR.pairs itz (fun i σ H'=>Same H H'∧∃ xs y z u,H' l=some (.lst xs)∧Strs H' xs ((qt4 bs cs).take i)∧(∀ b∈(qt4 bs cs).take i,full b=true)∧σ=[some (.ref p),some (.ref r),some (.ref l),y,z,u]) ⟨s0,[],none,none,none,qb0,.nil,(fun b hb=>by cases hb),rfl⟩
  (fun i σ H' pv=>⟨pv.1.seqT (SqT.of hp),pv.1.seqT (SqT.of hr1)⟩) (fun i x t σ H1 hx pv nt=>?_) (fun σ H1 pv=>?_)
 ·obtain ⟨sm,xs,y,z,u,hl1,hb1,al,rfl⟩:=pv
  obtain ⟨x1,x2⟩:=x;obtain ⟨e1,e2⟩:=List.getElem?_zip_eq_some.mp hx;obtain ⟨a,lo,hi,rfl,eb,ha⟩:=hb.at e1;obtain ⟨a',lo',hi',rfl,ec,ha'⟩:=hc.at e2;have em:=qr6 eb ec;have st:=qe nt (.tup [.ref a,.ref a']);have lt:i<bs.length:=(List.getElem?_eq_some_iff.mp eb).1;walk_at "s";refine ⟨a,a',lo,hi,lo',hi',rfl,st _ _ (sm _ _ ha),st _ _ (sm _ _ ha'),fun z H2 s2=>?_,fun z x H2 s2 hx=>?_⟩
  ·walk_at "s"
   exact q1 (qel eb ec z) H2 ((sm.trans st).trans s2)
  ·walk_at "s"
   refine BrS.dec (fun z=>by cases z) (fun _=>?_);walk_at "s";have hl2:=s2 _ _ (st _ _ hl1);refine ⟨qy4 hl2,?_⟩;refine qm6 hl2 ?_ ?_
   ·rw [hb1.len,List.length_take]
    omega
   refine ⟨((sm.trans st).trans s2).put hl0,_,_,_,_,qb0,?_,?_,rfl⟩
   ·rw [List.take_add_one,em,Option.toList_some]
    exact ((hb1.same (st.trans s2)).snoc hx).upd hl2
   ·rw [List.take_add_one,em,Option.toList_some]
    intro d hd
    rcases List.mem_append.mp hd with z' | z'
    ·exact al d z'
    ·obtain rfl:=List.mem_singleton.mp z'
     exact decide_eq_true z
 ·obtain ⟨sm,xs,y,z,u,hl1,hb1,al,rfl⟩:=pv
  rw [List.take_of_length_le (by rw [List.length_zip]; omega)] at hb1 al;walk_at "s";refine TupOf.lst (SqL.of hl1) fun t ht=>?_;have s2:=qe ht (.tup xs);exact q2 _ (qu8 al) t _ (sm.trans s2) ⟨xs,qb0,hb1.same s2⟩
def qqj:Sp:=fun vs H Q _=>∃ (p r:Addr) (bs cs:Bsx),vs=[.ref p,.ref r]∧IsBox H p bs∧IsBox H r cs∧cs.length=bs.length∧Fair bs∧Fair cs∧∀ l xs H',H l=none→Same H H'→H' l=some (.lst xs)→Bxs H' xs (qk3 bs cs)→Q (.ref l) H'
def qj5 (b c:Int×Int):Bsx:=(if b.1<c.1 then [(b.1,c.1 - 1)] else [])++(if c.2<b.2 then [(c.2+1,b.2)] else [])
def qkb:Sp:=fun vs H Q _=>∃ (p r:Addr) (b c:Int×Int),vs=[.ref p,.ref r]∧H p=some (.tup [.int b.1,.int b.2])∧H r=some (.tup [.int c.1,.int c.2])∧∀ l xs H',H l=none→Same H H'→H' l=some (.lst xs)→Strs H' xs (qj5 b c)→Q (.ref l) H'
theorem qxp (b c:Int×Int):(qj5 b c).length≤2:=by
 unfold qj5;rw [List.length_append]
 split <;> split <;> simp
theorem qjk {bs cs:Bsx}{b c:Int×Int}(eb:bs[k]?=some b)(ec:cs[k]?=some c):qd3 bs cs ds k=(qj5 b (qm2 b c)).map fun s=>ds.take k++[s]++bs.drop (k+1):=by
 unfold qd3;rw [eb,ec];have d1:(qm2 b c).1=max b.1 c.1:=rfl;have d2:(qm2 b c).2=min b.2 c.2:=rfl;generalize qm2 b c=d at d1 d2;simp only [qj5,List.map_append]
 have e1:(b.1≤c.1 - 1)↔(b.1<d.1):=by omega
 have e2:(c.2+1≤b.2)↔(d.2<b.2):=by omega
 congr 1
 ·by_cases h:b.1<d.1
  ·rw [if_pos h,if_pos (e1.mpr h),show d.1=c.1 by omega]
   rfl
  ·rw [if_neg h,if_neg fun z=>h (e1.mp z)]
   rfl
 ·by_cases h:d.2<b.2
  ·rw [if_pos h,if_pos (e2.mpr h),show d.2=c.2 by omega]
   rfl
  ·rw [if_neg h,if_neg fun z=>h (e2.mp z)]
   rfl
theorem qxn (F:Fun K "outside" "outside" qf7 f fd):FnOk P w K mg base CX0 1 f fd ["stretch","inner"] qkb:=by
 refine F.ok qud (by walk_at "l") (fun _ _ _ _ H _ Q E hr h=>?_);obtain ⟨p,r,b,c,rfl,hp,hr1,q⟩:=h;refine ⟨_,(qc (qi (i:=2) qud.nd rfl (Or.inl rfl) (qe1 qd)) (qc (ql1 (qk qod (qq ql0 (pv 0) qf (fun _ _=>rfl)) (qq ql0 (pv 1) qf (fun _ _=>rfl)) (qs0 _)) (qg (qn2 (qp8 PySem.F.plainAttrs_list PySem.F.slot_list_append PySem.F.type_list_append qr1 (pv 2) (qa (qv0 (qa (qq ql0 (pv 0) qf (fun _ _=>rfl)) (qa (qj qce (qq ql0 (pv 1) qf (fun _ _=>rfl)) qf) qd))) qd)))) qn0) (qc (ql1 (qk qod (qq ql0 (pv 1) qf (fun _ _=>rfl)) (qq ql0 (pv 0) qf (fun _ _=>rfl)) (qs0 _)) (qg (qn2 (qp8 PySem.F.plainAttrs_list PySem.F.slot_list_append PySem.F.type_list_append qr1 (pv 2) (qa (qv0 (qa (qj qb1 (qq ql0 (pv 1) qf (fun _ _=>rfl)) qf) (qa (qq ql0 (pv 0) qf (fun _ _=>rfl)) qd))) qd)))) qn0) (qg (qm (pv 2)))))),?_⟩;rw [qdn];walk_at "s";refine LstR.go (by simp) fun l hl=>?_;have s0:=qe hl (.lst []);have hp0:=s0 _ _ hp;have hr0:=s0 _ _ hr1;walk_at "ix";have tail:∀ (xs:List V) (H1:Hp),Same H H1→H1 l=some (.lst xs)→Strs H1 xs (if b.1<c.1 then [(b.1,c.1 - 1)] else []) →
   (c.2<b.2→∀ x,H1 x=none→Q (.ref l) (upd (upd H1 x (.tup [.int (c.2+1),.int b.2])) l (.lst (xs++[.ref x]))))∧(¬ c.2<b.2→Q (.ref l) H1):=fun xs H1 s1 h1 st=>by
  refine ⟨fun z x hx=>?_,fun z=>?_⟩
  ·have s2:=qe hx (.tup [.int (c.2+1),.int b.2])
   have h2:=s2 _ _ h1;refine q l _ _ hl ((s1.trans s2).put hl) qb0 ?_;unfold qj5;rw [if_pos z];exact ((st.same s2).snoc qb0).upd h2
  ·refine q l xs H1 hl s1 h1 ?_
   unfold qj5;rw [if_neg z,List.append_nil];exact st
 refine BrS.dec (fun z=>?_) (fun z=>?_)
 ·walk_at "ix"
  refine ⟨qy4 qb0,?_⟩;walk_at "ix";refine TupR.go (by simp) fun x hx=>?_;have s1:=qe hx (.tup [.int b.1,.int (c.1 - 1)]);have h1:=s1 _ _ (qb0 (H:=H) (a:=l) (o:=.lst []));refine qm6 h1 (by simp) ?_;have s2:Same H (upd (upd (upd H l (.lst [])) x (.tup [.int b.1,.int (c.1 - 1)])) l (.lst ([]++[.ref x]))):=(s0.trans s1).put hl;have hp2:=s2 _ _ hp;have hr2:=s2 _ _ hr1;obtain ⟨t1,t2⟩:=tail _ _ s2 qb0 (by rw [if_pos z]; exact ((Strs.nil (H:=upd (upd H l (.lst [])) x (.tup [.int b.1,.int (c.1 - 1)]))).snoc qb0).upd h1);walk_at "ix";refine BrS.dec (fun z2=>?_) (fun z2=>?_)
  ·walk_at "ix"
   refine ⟨qy4 qb0,?_⟩;walk_at "ix";refine TupR.go (by simp) fun y hy=>?_;have s3:=qe hy (.tup [.int (c.2+1),.int b.2]);refine qm6 (s3 _ _ qb0) (by simp) ?_;exact t1 z2 y hy
  ·walk_at "ix"
   exact t2 z2
 ·obtain ⟨t1,t2⟩:=tail [] _ s0 qb0 (by rw [if_neg z]; exact .nil)
  walk_at "ix";refine BrS.dec (fun z2=>?_) (fun z2=>?_)
  ·walk_at "ix"
   refine ⟨qy4 qb0,?_⟩;walk_at "ix";refine TupR.go (by simp) fun y hy=>?_;have s3:=qe hy (.tup [.int (c.2+1),.int b.2]);refine qm6 (s3 _ _ qb0) (by simp) ?_;exact t1 z2 y hy
  ·walk_at "ix"
   exact t2 z2
theorem qep {xs:List α}{j:Nat}{x:α}(e:xs[j]?=some x):xs.take (j+1)=xs.take j++[x]:=by
 rw [List.take_add_one,e,Option.toList_some]
theorem qlv (F:Fun K "rests" "rests" qrb f fd)(g_common:Fn P w K mg base "common" 2 ["box","other"] spCommon)(g_outside:Fn P w K mg base "outside" 1 ["stretch","inner"] qkb)(b_enumerate:mg "enumerate"=none):FnOk P w K mg base CX0 3 f fd ["box","other"] qqj:=by
 refine F.ok qv7 (by walk_at "l") (fun cdv A outer s H vs Q E hr h=>?_);obtain ⟨p,r,bs,cs,rfl,hp,hr1,hl,fair,fair',q⟩:=h;refine ⟨_,(qc (qi (i:=2) qv7.nd rfl (Or.inl rfl) (qf1 g_common hr (by decide) rfl (qa (pv 0) (qa (pv 1) qd)))) (qc (ql1 (qk qai (pv 2) qw5 (qs0 _)) (qg (qm (qe1 (qa (pv 0) qd)))) qn0) (qc (qi (i:=3) qv7.nd rfl (Or.inl rfl) (qe1 qd)) (qc (qb3 PassesOwn.never rfl (qik true rfl b_enumerate (qa (pv 0) qd)) (qj7 rfl (qx (qp (i:=4) qv7.nd rfl (Or.inl rfl)) (qx (qp (i:=5) qv7.nd rfl (Or.inl rfl)) qc5))) (qg (qb3 PassesOwn.never rfl (ql3 (qf1 g_outside hr (by decide) rfl (qa (pv 5) (qa (qq ql0 (pv 2) (pv 4) (fun _ _=>rfl)) qd)))) (qp (i:=6) qv7.nd rfl (Or.inl rfl)) (qg (qn2 (qp8 PySem.F.plainAttrs_list PySem.F.slot_list_append PySem.F.type_list_append qr1 (pv 3) (qa (qj ql7 (qj ql7 (qj1 qy9 (pv 2) qa2 (qz1 (pv 4))) (qv0 (qa (pv 6) qd))) (qj1 qy9 (pv 0) (qz1 (qj qb1 (pv 4) qf)) qa2)) qd))))))) (qg (qm (pv 3))))))),?_⟩;rw [qmu];walk_at "s";refine ⟨p,r,bs,cs,rfl,hp,hr1,hl,fair,fair',fun z H2 s2=>?_,fun ds z x H2 s2 hx=>?_⟩
 ·walk_at "s"
  refine LstR.go (by simp) fun l hl0=>?_;have s3:=qe hl0 (.lst [.ref p]);refine q l _ _ (s2.free hl0) (s2.trans s3) qb0 ?_;unfold qk3;rw [z];exact .cons (hp.same (s2.trans s3)) .nil
 ·have hp2:=hp.same s2
  obtain ⟨bvs,hpb,hb⟩:=id hp2;obtain ⟨dvs,hxd,hd⟩:=id hx;obtain ⟨ed,_⟩:=qp4 z
  have dl:ds.length=bs.length:=by rw [ed]; exact qj6 hl
  have h8:=fair.1;walk_at "s";refine BrS.dec (fun z=>by cases z) (fun _=>?_);walk_at "s";refine LstR.go (by simp) fun l hl0=>?_;have s3:=qe hl0 (.lst []);refine EnuR.go (t:=true) (s3.seqT (SqT.of hpb)) ?_;refine ForR.pairs ite (fun i σ H'=>Same H2 H'∧∃ xs y z u,H' l=some (.lst xs)∧Bxs H' xs (qg1 bs cs ds i)∧σ=[some (.ref p),some (.ref r),some (.ref x),some (.ref l),y,z,u]) ⟨s3,[],none,none,none,qb0,.nil,rfl⟩
   (fun i σ H' pv=>pv.1.seqT (SqT.of hpb)) (fun i y t σ H3 hy pv nt=>?_) (fun σ H3 pv=>?_)
  ·obtain ⟨sm,xs,y1,z1,u1,hl1,hb1,rfl⟩:=pv
   obtain ⟨v,ev,rfl⟩:=qbd hy;obtain ⟨a,lo,hi,rfl,eb,ha⟩:=hb.at ev;obtain ⟨c,ec⟩:∃ c,cs[i]?=some c:=⟨cs[i]'(by rw [hl]; exact (List.getElem?_eq_some_iff.mp eb).1),List.getElem?_eq_getElem _⟩
   have edi:ds[i]?=some (qm2 (lo,hi) c):=by
    rw [ed];exact qr6 eb ec
   have lt:i<bs.length:=(List.getElem?_eq_some_iff.mp eb).1;have st:=qe nt (.tup [.int (i:Int),.ref a]);walk_at "s";refine qh9 ((hx.same sm).same st) edi fun a' ha'=>?_;refine ⟨a,a',(lo,hi),qm2 (lo,hi) c,rfl,st _ _ (sm _ _ ha),ha',fun w ws H4 nw s4 hw hws=>?_⟩;walk_at "s";refine IlR.go (SqL.of hw) ?_
   have wl:w≠l:=fun e=>by
    subst e;rw [st _ _ hl1] at nw;cases nw
   have hlen:=ql8 bs cs ds i;have h2:=qxp (lo,hi) (qm2 (lo,hi) c)
   have key:∀ j,j≤(qj5 (lo,hi) (qm2 (lo,hi) c)).length→(qg1 bs cs ds i++((qj5 (lo,hi) (qm2 (lo,hi) c)).take j).map fun s=>ds.take i++[s]++bs.drop (i+1)).length≤100:=fun j hj=>by
    rw [List.length_append,List.length_map,List.length_take];omega
   refine ForR.items itl (fun j σ H'=>Same H2 H'∧H' w=some (.lst ws)∧Strs H' ws (qj5 (lo,hi) (qm2 (lo,hi) c))∧∃ xs u,H' l=some (.lst xs)∧Bxs H' xs (qg1 bs cs ds i++((qj5 (lo,hi) (qm2 (lo,hi) c)).take j).map fun s=>ds.take i++[s]++bs.drop (i+1)) ∧
     σ=[some (.ref p),some (.ref r),some (.ref x),some (.ref l),some (.int (i:Int)),some (.ref a),u]) ⟨(sm.trans st).trans s4,hw,hws,xs,u1,s4 _ _ (st _ _ hl1),?_,rfl⟩ (fun j σ H' pv=>SqL.of pv.2.1) (fun j v σ H5 hv pv=>?_) (fun σ H5 pv=>?_)
   ·rw [List.take_zero,List.map_nil,List.append_nil]
    exact hb1.same (st.trans s4)
   ·obtain ⟨sm5,hw5,hs5,xs5,u5,hl5,hb5,rfl⟩:=pv
    obtain ⟨g,lo',hi',rfl,eg,hg⟩:=hs5.at hv;have k5:=key j (Nat.le_of_lt (List.getElem?_eq_some_iff.mp eg).1);rw [← hb5.len] at k5;walk_at "s";refine ⟨qy4 hl5,?_⟩;refine PartR.go ?_;refine qsl (sm5 _ _ hxd) (by rw [hd.len]; omega) fun q1 n1=>?_;have t1:=qe n1 (.tup (dvs.take i));walk_at "s";refine TupR.go (by simp) fun q2 n2=>?_;have t2:=qe n2 (.tup [.ref g]);refine qdd (t2 _ _ qb0) qb0 (by rw [List.length_take,List.length_singleton,hd.len]; omega) fun q3 H6 t3 h3=>?_;walk_at "s";refine PartR.go ?_;have sm6:=((sm5.trans t1).trans t2).trans t3;refine qlf (sm6 _ _ hpb) (by rw [hb.len]; omega) fun q4 n4=>?_;have t4:=qe n4 (.tup (bvs.drop (i+1)));refine qdd (t4 _ _ h3) qb0 (by simp only [List.length_append,List.length_take,List.length_singleton,List.length_drop,hd.len,hb.len]; omega) fun q5 H7 t5 h5=>?_;have t57:=(((t1.trans t2).trans t3).trans t4).trans t5;have hl7:=t57 _ _ hl5;have sm7:=sm5.trans t57;refine qm6 hl7 (by omega) ?_;refine ⟨sm7.put hl0,?_,(hs5.same t57).upd hl7,_,_,qb0,?_,rfl⟩
    ·rw [qt wl]
     exact t57 _ _ hw5
    ·rw [qep eg,List.map_append,← List.append_assoc]
     refine ((hb5.same t57).snoc ?_).upd hl7;refine ⟨_,h5,?_⟩;exact (((hd.same sm7).take).app (.cons (t57 _ _ hg) .nil)).app ((hb.same sm7).drop)
   ·obtain ⟨sm5,hw5,hs5,xs5,u5,hl5,hb5,rfl⟩:=pv
    rw [hws.len,List.take_length,← qjk eb ec,← qz3] at hb5;walk_at "s";exact ⟨sm5,xs5,_,_,_,hl5,hb5,rfl⟩
  ·obtain ⟨sm,xs,y1,z1,u1,hl1,hb1,rfl⟩:=pv
   walk_at "s";refine q l xs H3 (s2.free hl0) (s2.trans sm) hl1 ?_;unfold qk3;rw [z];rw [qi9,hb.len] at hb1;exact hb1
def qnh:Bsx→Bsx→List Bsx
 | b::bs,c::cs=>((if b.1≤c.1 - 1 then [(b.1,c.1 - 1)::bs] else [])++(if c.2+1≤b.2 then [(c.2+1,b.2)::bs] else []))++(qnh bs cs).map (qm2 b c::·)
 | _,_=>[]
theorem qxh (b c d:Int×Int)(bs cs ds:Bsx)(k:Nat):qd3 (b::bs) (c::cs) (d::ds) (k+1)=(qd3 bs cs ds k).map (d::·):=by
 unfold qd3;simp only [List.getElem?_cons_succ,List.take_succ_cons,List.drop_succ_cons]
 cases bs[k]? with
 | none=>rfl
 | some b' =>
  cases cs[k]? with
  | none=>rfl
  | some c' =>
   simp only [List.map_append]
   congr 1
   ·split <;> simp
   ·split <;> simp
theorem qmh (b c d:Int×Int)(bs cs ds:Bsx)(n:Nat):qg1 (b::bs) (c::cs) (d::ds) (n+1)=qd3 (b::bs) (c::cs) (d::ds) 0++(qg1 bs cs ds n).map (d::·):=by
 induction n with
 | zero =>
  rw [qz3];simp [qg1]
 | succ n ih=>rw [qz3,ih,qxh,qz3,List.map_append,List.append_assoc]
theorem qgc:∀ (bs cs:Bsx),cs.length=bs.length→qg1 bs cs (qt4 bs cs) bs.length=qnh bs cs
 | [],[],_=>rfl
 | b::bs,c::cs,h=>by
  have ih:=qgc bs cs (Nat.succ.inj h);show qg1 (b::bs) (c::cs) (qm2 b c::qt4 bs cs) (bs.length+1)=_;rw [qmh,ih];rfl
def qa1 (xs:List Bsx)(ns:List Int):Nat:=(xs.map fun x=>if qr0 x ns=true then 1 else 0).sum
theorem qi8 (xs ys:List Bsx)(ns:List Int):qa1 (xs++ys) ns=qa1 xs ns+qa1 ys ns:=by
 unfold qa1;rw [List.map_append,List.sum_append]
theorem qu4 (b:Int×Int)(bs:Bsx)(n:Int)(ns:List Int):qr0 (b::bs) (n::ns)=(qw b n && qr0 bs ns):=rfl
theorem qx9 (d:Int×Int)(n:Int)(ns:List Int):∀ xs:List Bsx,qa1 (xs.map (d::·)) (n::ns)=if qw d n=true then qa1 xs ns else 0
 | []=>by simp [qa1]
 | x::xs=>by
  have ih:=qx9 d n ns xs
  have e:∀ (y:Bsx) (ys:List Bsx) (ms:List Int),qa1 (y::ys) ms=(if qr0 y ms=true then 1 else 0)+qa1 ys ms:=fun _ _ _=>by simp [qa1]
  rw [List.map_cons,e,e,ih,qu4]
  cases qw d n <;> simp
theorem qr3 (x:Bsx)(ns:List Int):qa1 [x] ns=if qr0 x ns=true then 1 else 0:=by simp [qa1]
theorem qbb:∀ (bs cs:Bsx) (ns:List Int),cs.length=bs.length→ns.length=bs.length→(∀ c∈cs,c.1≤c.2)→(∀ d∈qt4 bs cs,full d=true)→qa1 (qnh bs cs) ns=if (qr0 bs ns && !qr0 cs ns)=true then 1 else 0
 | [],[],[],_,_,_,_=>rfl
 | b::bs,c::cs,n::ns,h1,h2,h3,h4=>by
  have ih:=qbb bs cs ns (Nat.succ.inj h1) (Nat.succ.inj h2) (fun x hx=>h3 x (List.mem_cons_of_mem _ hx)) fun x hx=>h4 x (List.mem_cons_of_mem _ hx);have hm:max b.1 c.1≤min b.2 c.2:=of_decide_eq_true (h4 (qm2 b c) List.mem_cons_self);have hc:=h3 c List.mem_cons_self;show qa1 (((if b.1≤c.1 - 1 then [(b.1,c.1 - 1)::bs] else [])++(if c.2+1≤b.2 then [(c.2+1,b.2)::bs] else []))++(qnh bs cs).map (qm2 b c::·)) (n::ns)=_;rw [qi8,qi8,qx9,ih,qu4,qu4]
  have e1:qa1 (if b.1≤c.1 - 1 then [(b.1,c.1 - 1)::bs] else []) (n::ns)=if (decide (b.1≤n∧n≤c.1 - 1) && qr0 bs ns)=true then 1 else 0:=by
   by_cases z:b.1≤c.1 - 1
   ·rw [if_pos z,qr3,qu4]
    unfold qw;simp [Bool.and_assoc]
   ·rw [if_neg z,decide_eq_false (by omega)]
    rfl
  have e2:qa1 (if c.2+1≤b.2 then [(c.2+1,b.2)::bs] else []) (n::ns)=if (decide (c.2+1≤n∧n≤b.2) && qr0 bs ns)=true then 1 else 0:=by
   by_cases z:c.2+1≤b.2
   ·rw [if_pos z,qr3,qu4]
    unfold qw;simp [Bool.and_assoc]
   ·rw [if_neg z,decide_eq_false (by omega)]
    rfl
  rw [e1,e2]
  have e3:qw (qm2 b c) n=decide (b.1≤n∧n≤b.2∧c.1≤n∧n≤c.2):=by
   unfold qw qm2;rw [Bool.eq_iff_iff];simp only [Bool.and_eq_true,decide_eq_true_eq];omega
  have e4:qw b n=decide (b.1≤n∧n≤b.2):=by unfold qw; simp
  have e5:qw c n=decide (c.1≤n∧n≤c.2):=by unfold qw; simp
  rw [e3,e4,e5]
  cases qr0 bs ns with
  | false=>simp
  | true =>
   by_cases p1:b.1≤n∧n≤c.1 - 1
   ·rw [decide_eq_true p1,decide_eq_false (show ¬ (c.2+1≤n∧n≤b.2) by omega),decide_eq_false (show ¬ (b.1≤n∧n≤b.2∧c.1≤n∧n≤c.2) by omega),decide_eq_false (show ¬ (c.1≤n∧n≤c.2) by omega),decide_eq_true (show b.1≤n∧n≤b.2 by omega)]
    simp
   ·rw [decide_eq_false p1]
    by_cases p2:c.2+1≤n∧n≤b.2
    ·rw [decide_eq_true p2,decide_eq_false (show ¬ (b.1≤n∧n≤b.2∧c.1≤n∧n≤c.2) by omega),decide_eq_false (show ¬ (c.1≤n∧n≤c.2) by omega),decide_eq_true (show b.1≤n∧n≤b.2 by omega)]
     simp
    ·rw [decide_eq_false p2]
     by_cases p3:b.1≤n∧n≤b.2
     ·rw [decide_eq_true p3,decide_eq_true (show b.1≤n∧n≤b.2∧c.1≤n∧n≤c.2 by omega),decide_eq_true (show c.1≤n∧n≤c.2 by omega)]
      simp
     ·rw [decide_eq_false p3,decide_eq_false (show ¬ (b.1≤n∧n≤b.2∧c.1≤n∧n≤c.2) by omega)]
      simp
theorem apart:∀ (bs cs:Bsx) (ns:List Int),qe3 bs cs=none→qr0 bs ns=true→ns.length=bs.length→cs.length=bs.length→qr0 cs ns=false:=fun bs cs ns h hb hn hc=>by
 cases e:qr0 cs ns with
 | false=>rfl
 | true =>
  exfalso
  have all:∀ d∈qt4 bs cs,full d=true:=fun d hd=>by
   obtain ⟨i,hi⟩:=List.getElem?_of_mem hd;unfold qt4 at hi;rw [List.getElem?_zipWith] at hi
   cases eb:bs[i]? with
   | none=>rw [eb] at hi; cases hi
   | some b =>
    cases ec:cs[i]? with
    | none=>rw [eb,ec] at hi; cases hi
    | some c =>
     rw [eb,ec] at hi;cases hi
     have li:i<ns.length:=by rw [hn]; exact (List.getElem?_eq_some_iff.mp eb).1
     have en:=List.getElem?_eq_getElem li
     have l1:qw b ns[i]=true:=by
      cases z:qw b ns[i] with
      | true=>rfl
      | false=>rw [qq5 eb en z] at hb; cases hb
     have l2:qw c ns[i]=true:=by
      cases z:qw c ns[i] with
      | true=>rfl
      | false=>rw [qq5 ec en z] at e; cases e
     unfold qw at l1 l2;rw [Bool.and_eq_true,decide_eq_true_eq,decide_eq_true_eq] at l1 l2;exact decide_eq_true (show max b.1 c.1≤min b.2 c.2 by omega)
  rw [qu8 all] at h;cases h
theorem qx8 {bs cs:Bsx}(h1:cs.length=bs.length)(h2:ns.length=bs.length)(h3:∀ c∈cs,c.1≤c.2):qa1 (qk3 bs cs) ns=if (qr0 bs ns && !qr0 cs ns)=true then 1 else 0:=by
 unfold qk3
 split
 ·rename_i e
  rw [qr3]
  cases hb:qr0 bs ns with
  | false=>rfl
  | true=>rw [apart bs cs ns e hb h2 h1]; rfl
 ·rename_i ds e
  obtain ⟨rfl,al⟩:=qp4 e;rw [qgc bs cs h1];exact qbb bs cs ns h1 h2 h3 al
theorem qhc:∀ (bs cs:Bsx),cs.length=bs.length→(∀ b∈bs,b.1≤b.2)→(∀ d∈qt4 bs cs,full d=true)→∀ x∈qnh bs cs,x.length=bs.length∧∀ b∈x,b.1≤b.2
 | [],[],_,_,_,x,hx=>by cases hx
 | b::bs,c::cs,h1,h2,h3,x,hx=>by
  have ih:=qhc bs cs (Nat.succ.inj h1) (fun y hy=>h2 y (List.mem_cons_of_mem _ hy)) fun y hy=>h3 y (List.mem_cons_of_mem _ hy);have hm:max b.1 c.1≤min b.2 c.2:=of_decide_eq_true (h3 (qm2 b c) List.mem_cons_self)
  have own:∀ u v:Int,u≤v→((u,v)::bs).length=(b::bs).length∧∀ y∈(u,v)::bs,y.1≤y.2:=fun u v z=>⟨rfl,fun y hy=>by
   rcases List.mem_cons.mp hy with rfl | hy
   ·exact z
   ·exact h2 y (List.mem_cons_of_mem _ hy)⟩
  rcases List.mem_append.mp hx with hx | hx
  ·rcases List.mem_append.mp hx with hx | hx
   ·split at hx
    ·obtain rfl:=List.mem_singleton.mp hx
     exact own _ _ (by assumption)
    ·cases hx
   ·split at hx
    ·obtain rfl:=List.mem_singleton.mp hx
     exact own _ _ (by assumption)
    ·cases hx
  ·obtain ⟨y,hy,rfl⟩:=List.mem_map.mp hx
   obtain ⟨l,f⟩:=ih y hy;refine ⟨by rw [List.length_cons,List.length_cons,l],fun z hz=>?_⟩
   rcases List.mem_cons.mp hz with rfl | hz
   ·exact hm
   ·exact f z hz
theorem qoh {bs cs:Bsx}(h1:cs.length=bs.length)(h2:∀ b∈bs,b.1≤b.2):∀ x∈qk3 bs cs,x.length=bs.length∧∀ b∈x,b.1≤b.2:=by
 unfold qk3
 split
 ·intro x hx
  obtain rfl:=List.mem_singleton.mp hx;exact ⟨rfl,h2⟩
 ·rename_i ds e
  obtain ⟨rfl,al⟩:=qp4 e;rw [qgc bs cs h1];exact qhc bs cs h1 h2 al
theorem qzu {bs cs:Bsx}:∀ x∈qk3 bs cs,∀ y∈x,∃ b∈bs,b.1≤y.1∧y.2≤b.2:=by
 unfold qk3
 split
 ·intro x hx y hy
  obtain rfl:=List.mem_singleton.mp hx;exact ⟨y,hy,Int.le_refl _,Int.le_refl _⟩
 ·rename_i ds e
  obtain ⟨rfl,al⟩:=qp4 e;intro x hx y hy;unfold qg1 at hx;obtain ⟨k,_,hx⟩:=List.mem_flatMap.mp hx;unfold qd3 at hx
  split at hx
  ·rename_i b c eb ec
   have fm:max b.1 c.1≤min b.2 c.2:=of_decide_eq_true (al _ (List.mem_of_getElem? (qr6 eb ec)));have mb:=List.mem_of_getElem? eb
   have all:∀ s:Int×Int,b.1≤s.1→s.2≤b.2→y∈(qt4 bs cs).take k++[s]++bs.drop (k+1)→∃ b∈bs,b.1≤y.1∧y.2≤b.2:=fun s h1 h2 hy=>by
    rcases List.mem_append.mp hy with hy | hy
    ·rcases List.mem_append.mp hy with hy | hy
     ·obtain ⟨i,hi⟩:=List.getElem?_of_mem (List.mem_of_mem_take hy)
      obtain ⟨b',c',e1,e2,rfl⟩:=List.getElem?_zipWith_eq_some.mp hi;exact ⟨b',List.mem_of_getElem? e1,Int.le_max_left _ _,Int.min_le_left _ _⟩
     ·obtain rfl:=List.mem_singleton.mp hy
      exact ⟨b,mb,h1,h2⟩
    ·exact ⟨y,List.mem_of_mem_drop hy,Int.le_refl _,Int.le_refl _⟩
   rcases List.mem_append.mp hx with hx | hx
   ·split at hx
    ·obtain rfl:=List.mem_singleton.mp hx
     exact all (b.1,c.1 - 1) (Int.le_refl _) (by simp only; omega) hy
    ·cases hx
   ·split at hx
    ·obtain rfl:=List.mem_singleton.mp hx
     exact all (c.2+1,b.2) (by simp only; omega) (Int.le_refl _) hy
    ·cases hx
  ·cases hx
theorem qin {bs cs:Bsx}(hl:cs.length=bs.length)(hb:Fair bs):∀ x∈qk3 bs cs,x.length=bs.length∧Fair x:=fun x hx=>by
 obtain ⟨l,f⟩:=qoh hl (fun b h=>(hb.2 b h).1) x hx;refine ⟨l,by rw [l]; exact hb.1,fun y hy=>?_⟩;obtain ⟨b,mb,h1,h2⟩:=qzu x hx y hy;obtain ⟨_,b1,b2⟩:=hb.2 b mb;exact ⟨f y hy,by omega,by omega⟩
def qs8 (bs:Bsx):Int:=bs.foldl (fun n b=>n * (b.2 - b.1+1)) 1
theorem qrd (x:Bsx)(xs:List Bsx)(ns:List Int):qa1 (x::xs) ns=(if qr0 x ns=true then 1 else 0)+qa1 xs ns:=by simp [qa1]
def qhk:Bsx→List (List Int)
 | []=>[[]]
 | b::bs=>(List.range (b.2 - b.1+1).toNat).flatMap fun (k:Nat)=>(qhk bs).map ((b.1+(k:Int))::·)
theorem qhu (lo n:Int)(c:Nat):∀ m:Nat,((List.range m).map fun (k:Nat)=>if lo+(k:Int)=n then c else 0).sum=if lo≤n∧n<lo+m then c else 0
 | 0=>by
  rw [if_neg (by omega)];rfl
 | m+1=>by
  rw [List.range_succ,List.map_append,List.sum_append,qhu lo n c m];simp only [List.map_cons,List.map_nil,List.sum_cons,List.sum_nil,Nat.add_zero]
  by_cases h1:lo≤n∧n<lo+m
  ·rw [if_pos h1,if_neg (by omega),if_pos (by omega)]
   rfl
  ·rw [if_neg h1]
   by_cases h2:lo+(m:Int)=n
   ·rw [if_pos h2,if_pos (by omega),Nat.zero_add]
   ·rw [if_neg h2,if_neg (by omega)]
theorem qn7 (c:Int):∀ bs:Bsx,bs.foldl (fun n b=>n * (b.2 - b.1+1)) c=c * qs8 bs
 | []=>by simp [qs8]
 | b::bs=>by
  have e:qs8 (b::bs)=(b.2 - b.1+1) * qs8 bs:=by
   show bs.foldl _ (1 * (b.2 - b.1+1))=_;rw [qn7,Int.one_mul]
  rw [List.foldl_cons,qn7,e,Int.mul_assoc]
theorem qri (b:Int×Int)(bs:Bsx):qs8 (b::bs)=(b.2 - b.1+1) * qs8 bs:=by
 show bs.foldl _ (1 * (b.2 - b.1+1))=_;rw [qn7,Int.one_mul]
theorem qbv:∀ x:Bsx,(∀ b∈x,b.1≤b.2)→((qhk x).length:Int)=qs8 x
 | [],_=>rfl
 | b::bs,h=>by
  have ih:=qbv bs fun y hy=>h y (List.mem_cons_of_mem _ hy);have hb:=h b List.mem_cons_self;rw [qri,← ih];show (((List.range (b.2 - b.1+1).toNat).flatMap fun (k:Nat)=>(qhk bs).map ((b.1+(k:Int))::·)).length:Int)=_;rw [List.length_flatMap]
  have e:((List.range (b.2 - b.1+1).toNat).map fun (k:Nat)=>((qhk bs).map ((b.1+(k:Int))::·)).length).sum=(b.2 - b.1+1).toNat * (qhk bs).length:=by
   have:(fun (k:Nat)=>((qhk bs).map ((b.1+(k:Int))::·)).length)=fun _=>(qhk bs).length:=funext fun k=>List.length_map ..;rw [this,List.map_const',List.sum_replicate_nat,List.length_range]
  rw [e,Int.natCast_mul,Int.toNat_of_nonneg (by omega)]
theorem qur:∀ x:Bsx,(∀ b∈x,b.1≤b.2)→qr0 x (x.map (·.1))=true
 | [],_=>rfl
 | b::bs,h=>by
  have:=h b List.mem_cons_self;rw [List.map_cons,qu4,qur bs fun y hy=>h y (List.mem_cons_of_mem _ hy),Bool.and_true];unfold qw;rw [decide_eq_true (Int.le_refl _),decide_eq_true this];rfl
theorem qom:∀ x:Bsx,(∀ b∈x,b.1≤b.2)→qr0 x (x.map (·.2))=true
 | [],_=>rfl
 | b::bs,h=>by
  have:=h b List.mem_cons_self;rw [List.map_cons,qu4,qom bs fun y hy=>h y (List.mem_cons_of_mem _ hy),Bool.and_true];unfold qw;rw [decide_eq_true (Int.le_refl _),decide_eq_true this];rfl
theorem qnm {c:Int×Int}{n:Int}(h:qr0 g ns=true)(eg:g[k]?=some c)(en:ns[k]?=some n):c.1≤n∧n≤c.2:=by
 cases e:qw c n with
 | false =>
  rw [qq5 eg en e] at h;cases h
 | true =>
  unfold qw at e;rw [Bool.and_eq_true,decide_eq_true_eq,decide_eq_true_eq] at e;exact e
theorem qrg:∀ {xs:List Bsx} {x:Bsx} {ns:List Int},x∈xs→qr0 x ns=true→1≤qa1 xs ns
 | y::xs,x,ns,hx,h=>by
  rw [qrd]
  rcases List.mem_cons.mp hx with rfl | hx
  ·rw [if_pos h]
   omega
  ·have:=qrg hx h
   omega
structure Split (bs:Bsx)(Ps:List Bsx):Prop where
 fit:∀ x∈Ps,x.length=bs.length∧Fair x
 one:∀ ns:List Int,ns.length=bs.length→qa1 Ps ns=if qr0 bs ns=true then 1 else 0
theorem Split.first {bs:Bsx}(h:Fair bs):Split bs [bs]:=⟨fun x hx=>by obtain rfl:=List.mem_singleton.mp hx; exact ⟨rfl,h⟩,fun ns _=>qr3 bs ns⟩
theorem both_in {x c:Bsx}(hl:c.length=x.length)(h:qe3 x c=some ds):∃ ns:List Int,ns.length=x.length∧qr0 x ns=true∧qr0 c ns=true:=by
 obtain ⟨rfl,al⟩:=qp4 h;have ml:=qj6 hl;refine ⟨(qt4 x c).map (·.1),by rw [List.length_map]; exact ml,qe2 fun i b n eb en=>?_,qe2 fun i b n eb en=>?_⟩
 ·rw [List.getElem?_map] at en
  cases em:(qt4 x c)[i]? with
  | none =>
   rw [em] at en;cases en
  | some d =>
   rw [em] at en;cases en;have fd:d.1≤d.2:=of_decide_eq_true (al d (List.mem_of_getElem? em));obtain ⟨b',c',e1,e2,rfl⟩:=List.getElem?_zipWith_eq_some.mp em;rw [eb] at e1;cases e1;unfold qw;rw [Bool.and_eq_true,decide_eq_true_eq,decide_eq_true_eq];simp only [qm2] at fd ⊢;omega
 ·rw [List.getElem?_map] at en
  cases em:(qt4 x c)[i]? with
  | none =>
   rw [em] at en;cases en
  | some d =>
   rw [em] at en;cases en;have fd:d.1≤d.2:=of_decide_eq_true (al d (List.mem_of_getElem? em));obtain ⟨b',c',e1,e2,rfl⟩:=List.getElem?_zipWith_eq_some.mp em;rw [eb] at e2;cases e2;unfold qw;rw [Bool.and_eq_true,decide_eq_true_eq,decide_eq_true_eq];simp only [qm2] at fd ⊢;omega
def topsI:List Int:=[3,255,4294967295,65535,4294967295,65535]
theorem que (h:i<6):∃ t:Int,topsI[i]?=some t∧(topsI.map V.int)[i]?=some (.int t)∧0≤t∧t<2 ^ 33:=by
 have e:i=0∨i=1∨i=2∨i=3∨i=4∨i=5:=by omega
 rcases e with rfl | rfl | rfl | rfl | rfl | rfl <;> exact ⟨_,rfl,rfl,by decide,by decide⟩
theorem qhs {ds:List Int}(h:i<ds.length):∃ d,ds[i]?=some d∧(ds.map V.int)[i]?=some (.int d):=⟨ds[i],List.getElem?_eq_getElem h,by rw [List.getElem?_map,List.getElem?_eq_getElem h]; rfl⟩
def Low (bs:Bsx):Prop:=∀ b∈bs,0≤b.1∧b.1≤b.2∧b.2<2 ^ 40
theorem Low.fair {bs:Bsx}(h:Low bs)(l:bs.length≤8):Fair bs:=by
 have e:(2:Int) ^ 40<2 ^ 400:=by decide +kernel
 refine ⟨l,fun b hb=>?_⟩;obtain ⟨h1,h2,h3⟩:=h b hb;exact ⟨h2,by omega,by omega⟩
def qen:Sp:=fun vs H Q _=>∃ i:Nat,vs=[.int (i:Int)]∧i<6∧∀ (t:Int) H',topsI[i]?=some t→0≤t→t<2 ^ 33→Same H H'→Q (.int t) H'
theorem ok_top (F:Fun K "_law_top" "_law_top" qe6 f fd):FnOk P w K mg base CX0 1 f fd ["_law_d"] qen:=by
 refine F.ok qdk (by walk_at "l") (fun _ _ _ _ H _ Q E hr h=>?_);obtain ⟨i,rfl,lt,q⟩:=h;refine ⟨_,(qg (qm (qq qb2 (qe1 (qyh rfl)) (pv 0) (fun _ _=>rfl)))),?_⟩;rw [qjj];walk_at "s";refine LstR.go (by simp) fun l nl=>?_;obtain ⟨t,e1,e2,t0,t1⟩:=que lt;refine qw2 (xs:=topsI.map V.int) (SqL.of qb0) e2 ?_;exact q t _ e1 t0 t1 (qe nl _)
theorem qq8 {H:Hp}{x y:Int}(q:∀ l H',Same H H'→H' l=some (.tup [.int x,.int y])→Q (.ref l) H'):TupR [.int x,.int y] H Q:=TupR.go (by simp) fun l nl=>q l _ (qe nl _) qb0
abbrev Lk:=Bsx×List (Nat×Bool)×Str
def WkAt (H:Hp)(v:V)(d:Nat×Bool):Prop:=∃ t,v=.ref t∧H t=some (.tup [.int (d.1:Int),.bl d.2])
def LkAt (D:Addr)(H:Hp)(v:V)(k:Lk):Prop:=∃ t p l ls,v=.ref t∧H t=some (.tup [.ref p,.ref l,.str k.2.2])∧IsBox H p k.1∧l≠D∧H l=some (.lst ls)∧All2 (WkAt H) ls k.2.1
theorem LkAt.upd {H:Hp}{v:V}{k:Lk}{o:HO}(h:LkAt D H v k)(hD:H D=some (.lst xs)):LkAt D (upd H D o) v k:=by
 obtain ⟨t,p,l,ls,e,h1,h2,ne,h3,h4⟩:=h
 exact ⟨t,p,l,ls,e,qu2 hD _ _ h1,h2.upd hD,ne,by rw [qt ne]; exact h3,All2.imp h4 fun _ _ r=>by
  obtain ⟨t,e,h⟩:=r
  exact ⟨t,e,qu2 hD _ _ h⟩⟩
def lookOne (bs cs:Bsx)(w df:Str):List Lk:=match qe3 bs cs with
 | none=>[(bs,[(0,false)],df)]
 | some ds=>(ds,[(0,true)],w)::(qg1 bs cs ds bs.length).map fun x=>(x,[(0,false)],df)
def wkD (d:Nat×Bool):PyData:=.tuple [.int (d.1:Int),.bool d.2]
theorem wk_dts {H:Hp}{ls:List V}{dn:List (Nat×Bool)}(h:All2 (WkAt H) ls dn):Dts H ls (dn.map wkD):=by
 induction h with
 | nil=>exact .nil
 | cons h _ ih =>
  obtain ⟨t,rfl,h⟩:=h;exact .cons (.tup (.inl h) (.cons (.int _) (.cons (.bl _) .nil))) ih
def pre (d:Nat×Bool)(k:Lk):Lk:=(k.1,d::k.2.1,k.2.2)
def qd5 (rs:List Row)(bx:Addr→Bsx)(df:Str):Nat→Nat→Bsx→List Lk
 | 0,_,_=>[]
 | n+1,i,bs=>match rs[i]? with
  | none=>[(bs,[],df)]
  | some r=>match qe3 bs (bx r.bp) with
   | none=>(qd5 rs bx df n r.no bs).map (pre (i,false))
   | some ds=>(match r.yes with
     | .word z=>[(ds,[(i,true)],z)]
     | .goto m=>(qd5 rs bx df n m ds).map (pre (i,true))) ++
    (qg1 bs (bx r.bp) ds bs.length).flatMap fun x=>(qd5 rs bx df n r.no x).map (pre (i,false))
def LkF (G:Hp)(D:Addr)(H:Hp)(v:V)(k:Lk):Prop:=LkAt D H v k∧∀ t p l,v=.ref t→H t=some (.tup [.ref p,.ref l,.str k.2.2])→G l=none
def qfd (rs:List Row):Prop:=∀ r∈rs,∀ z,r.yes=.word z→PyData.strOk z=true
def qsa:Sp:=fun vs H Q _=>∃ (rl p:Addr) (df:Str) (vr:List V) (rs:List Row) (bx:Addr→Bsx) (bs:Bsx),vs=[.ref rl,.str df,.ref p]∧H rl=some (.lst vr)∧All2 (RowAt H bx) vr rs∧qkl rs∧qfd rs∧rs.length≤120∧IsBox H p bs∧bs.length=6∧Low bs∧(qd5 rs bx df (rs.length+1) 0 bs).length≤16770000 ∧
 ∀ D xs H',H D=none→Same H H'→H' D=some (.lst xs)→All2 (LkF H D H') xs (qd5 rs bx df (rs.length+1) 0 bs)→Q (.ref D) H'
def piecesOf (bs cs:Bsx):List (Bsx×Bool):=match qe3 bs cs with
 | none=>[(bs,false)]
 | some ds=>(ds,true)::(qg1 bs cs ds bs.length).map fun x=>(x,false)
theorem qyd {bs cs:Bsx}(h:qe3 bs cs=some bs)(n:Nat):qg1 bs cs bs n=[]:=by
 obtain ⟨e,al⟩:=qp4 h;unfold qg1;rw [List.flatMap_eq_nil_iff];intro k _;unfold qd3
 split
 ·rename_i b c eb ec
  have m:=qr6 eb ec;rw [← e,eb] at m;have m0:b=qm2 b c:=Option.some.inj m;have m1:b.1=max b.1 c.1:=congrArg Prod.fst m0;have m2:b.2=min b.2 c.2:=congrArg Prod.snd m0;rw [if_neg (by omega),if_neg (by omega)];rfl
 ·rfl
theorem qdo {bs cs:Bsx}(hl:cs.length=bs.length)(hb:Fair bs)(al:∀ b∈qt4 bs cs,full b=true):Fair (qt4 bs cs):=by
 refine ⟨by rw [qj6 hl]; exact hb.1,fun y hy=>?_⟩;have fy:y.1≤y.2:=of_decide_eq_true (al y hy);obtain ⟨i,hi⟩:=List.getElem?_of_mem hy;obtain ⟨b,c,e1,e2,e3⟩:=List.getElem?_zipWith_eq_some.mp hi;obtain ⟨_,b1,b2⟩:=hb.2 b (List.mem_of_getElem? e1);have y1:y.1=max b.1 c.1:=congrArg Prod.fst e3.symm;have y2:y.2=min b.2 c.2:=congrArg Prod.snd e3.symm;exact ⟨fy,by omega,by omega⟩
theorem qjc {bs cs:Bsx}(hl:cs.length=bs.length)(hb:Fair bs):∀ q∈piecesOf bs cs,q.1.length=bs.length∧Fair q.1:=by
 intro q hq;unfold piecesOf at hq
 split at hq
 ·obtain rfl:=List.mem_singleton.mp hq
  exact ⟨rfl,hb⟩
 ·rename_i ds e
  rcases List.mem_cons.mp hq with rfl | hq
  ·obtain ⟨rfl,al⟩:=qp4 e
   exact ⟨qj6 hl,qdo hl hb al⟩
  ·obtain ⟨x,hx,rfl⟩:=List.mem_map.mp hq
   have:=qin hl hb x (by unfold qk3; rw [e]; exact hx);exact this
theorem qmn {bs cs:Bsx}:(piecesOf bs cs).length≤2 * bs.length+1∧piecesOf bs cs≠[]:=by
 unfold piecesOf
 split
 ·exact ⟨Nat.le_add_left 1 _,by simp⟩
 ·rename_i ds e
  have:=ql8 bs cs ds bs.length;exact ⟨by rw [List.length_cons,List.length_map]; omega,by simp⟩
structure Pl where
 bs:Bsx
 dn:List (Nat×Bool)
 y:Yes
 n:Nat
def qg5 (rs:List Row)(bx:Addr→Bsx)(df:Str)(n:Nat)(bs:Bsx):Yes→List Lk
 | .word z=>[(bs,[],z)]
 | .goto i=>qd5 rs bx df n i bs
def pres (dn:List (Nat×Bool))(k:Lk):Lk:=(k.1,dn++k.2.1,k.2.2)
def Pl.look (rs:List Row)(bx:Addr→Bsx)(df:Str)(x:Pl):List Lk:=(qg5 rs bx df x.n x.bs x.y).map (pres x.dn)
def kid (r:Row)(i n:Nat)(dn:List (Nat×Bool))(q:Bsx×Bool):Pl:=⟨q.1,dn++[(i,q.2)],qf2 r q.2,n⟩
section
variable {rs:List Row}{bx:Addr→Bsx}{df:Str}
theorem ql6 {n:Nat}{bs:Bsx}(e:rs[i]?=none):qd5 rs bx df (n+1) i bs=[(bs,[],df)]:=by
 simp only [qd5,e]
theorem qk6 {n:Nat}{bs:Bsx}{r:Row}(e:rs[i]?=some r):qd5 rs bx df (n+1) i bs=(piecesOf bs (bx r.bp)).flatMap fun q=>(qg5 rs bx df n q.1 (qf2 r q.2)).map (pre (i,q.2)):=by
 simp only [qd5,e];unfold piecesOf
 cases qe3 bs (bx r.bp) with
 | none =>
  show _=(qd5 rs bx df n r.no bs).map (pre (i,false))++[];rw [List.append_nil]
 | some ds =>
  have a:(match r.yes with
    | .word z=>[(ds,[(i,true)],z)]
    | .goto m=>(qd5 rs bx df n m ds).map (pre (i,true)))=(qg5 rs bx df n ds (qf2 r true)).map (pre (i,true)):=by
   show _=(qg5 rs bx df n ds r.yes).map (pre (i,true))
   cases r.yes <;> rfl
  have b:((qg1 bs (bx r.bp) ds bs.length).map fun x=>(x,false)).flatMap (fun q=>(qg5 rs bx df n q.1 (qf2 r q.2)).map (pre (i,q.2)))=(qg1 bs (bx r.bp) ds bs.length).flatMap fun x=>(qd5 rs bx df n r.no x).map (pre (i,false)):=by
   rw [List.flatMap_map];rfl
  show (match r.yes with
    | .word z=>[(ds,[(i,true)],z)]
    | .goto m=>(qd5 rs bx df n m ds).map (pre (i,true)))++_=List.flatMap _ ((ds,true)::(qg1 bs (bx r.bp) ds bs.length).map fun x=>(x,false))
  rw [List.flatMap_cons,b,a]
theorem flat_eq {f g:α→List β}{l:List α}(h:∀ x∈l,f x=g x):l.flatMap f=l.flatMap g:=by
 induction l with
 | nil=>rfl
 | cons x l ih=>rw [List.flatMap_cons,List.flatMap_cons,h x List.mem_cons_self,ih fun y hy=>h y (List.mem_cons_of_mem _ hy)]
theorem qts {f:α→List β}{l:List α}(h:∀ x∈l,1≤(f x).length):l.length≤(l.flatMap f).length:=by
 induction l with
 | nil=>exact Nat.le_refl _
 | cons x l ih =>
  have a:=h x List.mem_cons_self;have b:=ih fun y hy=>h y (List.mem_cons_of_mem _ hy);rw [List.flatMap_cons,List.length_append,List.length_cons];omega
theorem qwr {bs:Bsx}{dn:List (Nat×Bool)}{n:Nat}{r:Row}(e:rs[i]?=some r):Pl.look rs bx df ⟨bs,dn,.goto i,n+1⟩=((piecesOf bs (bx r.bp)).map (kid r i n dn)).flatMap (Pl.look rs bx df):=by
 show (qd5 rs bx df (n+1) i bs).map (pres dn)=_;rw [qk6 e,List.map_flatMap,List.flatMap_map];refine flat_eq fun q _=>?_;show ((qg5 rs bx df n q.1 (qf2 r q.2)).map (pre (i,q.2))).map (pres dn)=(qg5 rs bx df n q.1 (qf2 r q.2)).map (pres (dn++[(i,q.2)]));rw [List.map_map];refine List.map_congr_left fun k _=>?_;show (k.1,dn++(i,q.2)::k.2.1,k.2.2)=(k.1,(dn++[(i,q.2)])++k.2.1,k.2.2);rw [List.append_assoc];rfl
def YOk (rs:List Row)(n:Nat):Yes→Prop
 | .word z=>PyData.strOk z=true
 | .goto i=>i≤rs.length∧rs.length+1≤n+i
theorem qmp {n:Nat}{r:Row}(lat:qkl rs)(wo:qfd rs)(e:rs[i]?=some r)(h:rs.length+1≤n+1+i)(b:Bool):YOk rs n (qf2 r b):=by
 obtain ⟨l1,l2,l3⟩:=lat i r e
 cases b with
 | false=>exact ⟨l2,by omega⟩
 | true =>
  show YOk rs n r.yes
  cases ey:r.yes with
  | word z=>exact wo r (List.mem_of_getElem? e) z ey
  | goto m =>
   obtain ⟨g1,g2⟩:=l3 m ey;exact ⟨g2,by omega⟩
theorem qrc (lat:qkl rs)(wo:qfd rs):∀ (n:Nat) (bs:Bsx) (y:Yes),YOk rs n y→1≤(qg5 rs bx df n bs y).length
 | n,bs,.word z,_=>Nat.le_refl 1
 | 0,bs,.goto i,h=>absurd h (by intro h; obtain ⟨h1,h2⟩:=h; omega)
 | n+1,bs,.goto i,h=>by
  show 1≤(qd5 rs bx df (n+1) i bs).length
  cases e:rs[i]? with
  | none =>
   rw [ql6 e];exact Nat.le_refl 1
  | some r =>
   rw [qk6 e];have:=(qmn (bs:=bs) (cs:=bx r.bp)).2
   cases hp:piecesOf bs (bx r.bp) with
   | nil=>exact absurd hp this
   | cons q l =>
    have p:=qrc lat wo n q.1 (qf2 r q.2) (qmp lat wo e h.2 q.2);rw [List.flatMap_cons,List.length_append,List.length_map];omega
def qcl (rs:List Row)(bx:Addr→Bsx):Nat→Nat→Bsx→Nat
 | 0,_,_=>1
 | n+1,i,bs=>match rs[i]? with
  | none=>1
  | some r=>1+((piecesOf bs (bx r.bp)).map fun q=>match qf2 r q.2 with
   | .word _=>1
   | .goto m=>qcl rs bx n m q.1).sum
def Pl.cost (rs:List Row)(bx:Addr→Bsx)(x:Pl):Nat:=match x.y with
 | .word _=>1
 | .goto i=>qcl rs bx x.n i x.bs
theorem qdt {bs:Bsx}{dn:List (Nat×Bool)}{n:Nat}{r:Row}(e:rs[i]?=some r):Pl.cost rs bx ⟨bs,dn,.goto i,n+1⟩=1+(((piecesOf bs (bx r.bp)).map (kid r i n dn)).map (Pl.cost rs bx)).sum:=by
 show qcl rs bx (n+1) i bs=_;simp only [qcl,e];rw [List.map_map];rfl
theorem qxw (x:Pl):1≤x.cost rs bx:=by
 obtain ⟨bs,dn,y,n⟩:=x
 cases y with
 | word z=>exact Nat.le_refl 1
 | goto i =>
  show 1≤qcl rs bx n i bs
  cases n with
  | zero=>exact Nat.le_refl 1
  | succ n =>
   cases e:rs[i]? with
   | none =>
    simp only [qcl,e];exact Nat.le_refl 1
   | some r =>
    simp only [qcl,e];omega
structure Pl.Ok (rs:List Row)(x:Pl):Prop where
 six:x.bs.length=6
 fair:Fair x.bs
 y:YOk rs x.n x.y
 dn:∀ i,x.y=.goto i→x.dn.length≤i
theorem qgw {bs:Bsx}{dn:List (Nat×Bool)}{y:Yes}{n:Nat}{z:Str}(ok:Pl.Ok rs ⟨bs,dn,y,n⟩)(h:y=.word z∨∃ i,y=.goto i∧rs.length≤i∧z=df):Pl.look rs bx df ⟨bs,dn,y,n⟩=[(bs,dn,z)]:=by
 rcases h with rfl | ⟨i,rfl,li,rfl⟩
 ·show [(bs,dn++[],z)]=_
  rw [List.append_nil]
 ·have h:i≤rs.length∧rs.length+1≤n+i:=ok.y
  obtain ⟨m,rfl⟩:∃ m,n=m+1:=⟨n - 1,by omega⟩;show (qd5 rs bx z (m+1) i bs).map (pres dn)=_;rw [ql6 (List.getElem?_eq_none li)];show [(bs,dn++[],z)]=_;rw [List.append_nil]
theorem kid_ok {bs:Bsx}{dn:List (Nat×Bool)}{n:Nat}{r:Row}(lat:qkl rs)(wo:qfd rs)(e:rs[i]?=some r)(ok:Pl.Ok rs ⟨bs,dn,.goto i,n+1⟩)(c6:(bx r.bp).length=6):∀ x∈(piecesOf bs (bx r.bp)).map (kid r i n dn),Pl.Ok rs x:=by
 intro x hx;obtain ⟨q,hq,rfl⟩:=List.mem_map.mp hx;have b6:bs.length=6:=ok.six;obtain ⟨q1,q2⟩:=qjc (c6.trans b6.symm) ok.fair q hq;have oy:i≤rs.length∧rs.length+1≤n+1+i:=ok.y;refine ⟨q1.trans b6,q2,qmp lat wo e oy.2 q.2,fun j ej=>?_⟩;have dl:dn.length≤i:=ok.dn i rfl;obtain ⟨l1,l2,l3⟩:=lat i r e;show (dn++[(i,q.2)]).length≤j;rw [List.length_append,List.length_singleton];have ej:qf2 r q.2=.goto j:=ej
 cases hb:q.2 with
 | false =>
  rw [hb] at ej;cases ej;omega
 | true =>
  rw [hb] at ej;have:=(l3 j ej).1;omega
end
def PcAt (H:Hp)(v:V)(x:Bsx×Bool):Prop:=∃ t a,v=.ref t∧H t=some (.tup [.ref a,.bl x.2])∧IsBox H a x.1
theorem PcAt.mono {H H':Hp}{v:V}{x:Bsx×Bool}(h:PcAt H v x)(k:∀ a xs,H a=some (.tup xs)→H' a=some (.tup xs)):PcAt H' v x:=by
 obtain ⟨t,a,e,h1,h2⟩:=h;exact ⟨t,a,e,k _ _ h1,h2.mono k⟩
def qef:Sp:=fun vs H Q _=>∃ (p r:Addr) (bs cs:Bsx),vs=[.ref p,.ref r]∧IsBox H p bs∧IsBox H r cs∧cs.length=bs.length∧Fair bs∧Fair cs∧∀ l us H',H l=none→Same H H'→H' l=some (.lst us)→All2 (PcAt H') us (piecesOf bs cs)→Q (.ref l) H'
theorem qmc {H:Hp}{bs:Bsx}{b:Bool}(hp:IsBox H p bs)(q:∀ l us H',H l=none→Same H H'→H' l=some (.lst us)→All2 (PcAt H') us [(bs,b)]→Q (.ref l) H'):TupR [.ref p,.bl b] H fun x H1=>LstR [x] H1 Q:=by
 refine TupR.go (by simp) fun t nt=>?_;have s2:=qe nt (.tup [.ref p,.bl b]);refine LstR.go (by simp) fun l nl=>?_;have s3:=qe nl (.lst [.ref t]);exact q l [.ref t] _ (s2.free nl) (s2.trans s3) qb0 (.cons ⟨t,p,rfl,s3 _ _ qb0,hp.same (s2.trans s3)⟩ .nil)
theorem qkr (F:Fun K "pieces" "pieces" qx7 f fd)(g_common:Fn P w K mg base "common" 2 ["box","other"] spCommon)(g_rests:Fn P w K mg base "rests" 3 ["box","other"] qqj):FnOk P w K mg base CX0 4 f fd ["box","other"] qef:=by
 refine F.ok qfh (by walk_at "l") (fun cdv A outer s H vs Q E hr h=>?_);obtain ⟨p,r,bs,cs,rfl,hp,hr1,hl,fb,fc,q⟩:=h;refine ⟨_,(qc (qi (i:=2) qfh.nd rfl (Or.inl rfl) (qf1 g_common hr (by decide) rfl (qa (pv 0) (qa (pv 1) qd)))) (qc (ql1 (qk qai (pv 2) qw5 (qs0 _)) (qg (qm (qe1 (qa (qv0 (qa (pv 0) (qa qf9 qd))) qd)))) qn0) (qc (ql1 (qk (qgr hr.units) (pv 2) (pv 0) (qs0 _)) (qg (qm (qe1 (qa (qv0 (qa (pv 0) (qa qf9 qd))) qd)))) qn0) (qg (qm (qj qv2 (qe1 (qa (qv0 (qa (pv 2) (qa qf9 qd))) qd)) (qa6 (T:=["rest"]) (cap:=[]) rfl (COk.of (out:=qh qx7) (N:=["box","other","both"]) rfl rfl (by decide +kernel)) (ql3 (qf1 g_rests hr (by decide) rfl (qa (pv 0) (qa (pv 1) qd)))) (fun _ _ _=>(qp (i:=0) (show List.Nodup (["rest"]:List Str) by decide +kernel) rfl (Or.inl rfl))) (fun _ _ _=>ql4) (fun _ _ _=>(qv0 (qa (pv 0) (qa qf9 qd))))))))))),?_⟩;rw [qop];walk_at "s";refine spCommon.go hp hr1 hl fb fc fun v H1 s1 bv=>?_;walk_at "s"
 rcases bv with ⟨rfl,e⟩ | ⟨x,ds,rfl,e,hx⟩
 ·walk_at "s"
  refine qmc (hp.same s1) fun l us H2 nl s2 hl2 al=>q l us H2 (s1.free nl) (s1.trans s2) hl2 ?_;unfold piecesOf;rw [e];exact al
 ·refine BrS.dec (fun z=>by cases z) (fun _=>?_)
  walk_at "s";refine eqB_go hx (hp.same s1) ?_;walk_at "s";refine BrS.dec (fun z=>?_) (fun z=>?_)
  ·subst z
   walk_at "s";refine qmc (hp.same s1) fun l us H2 nl s2 hl2 al=>q l us H2 (s1.free nl) (s1.trans s2) hl2 ?_;unfold piecesOf;rw [e];show All2 (PcAt H2) us ((ds,true)::(qg1 ds cs ds ds.length).map fun x=>(x,false));rw [qyd e];exact al
  ·walk_at "s"
   refine qmc hx fun l us H2 nl s2 hl2 al=>?_;have s12:=s1.trans s2;walk_at "s";refine ⟨p,r,bs,cs,rfl,hp.same s12,hr1.same s12,hl,fb,fc,fun lr xs H3 nlr s3 hlr bxs=>?_⟩;have s23:=s2.trans s3;have xl:=bxs.len
   have er:qk3 bs cs=qg1 bs cs ds bs.length:=by
    unfold qk3;rw [e]
   have rl:=ql8 bs cs ds bs.length;have b8:=fb.1;rw [er] at xl bxs;walk_at "s";refine IlR.go (SqL.of hlr) ?_;refine CmpR.rel (fun D H x v=>∃ a t,x=.ref a∧v=.ref t∧t≠D∧H t=some (.tup [.ref a,.bl false])) (fun D H H' x v k r=>?_) itl (by omega) (fun H' s=>SqL.of (s _ _ hlr)) (fun D x H' ys Q' hx' nD s4 hD k=>?_) fun D H4 vs nD s4 hD al4=>?_
   ·obtain ⟨a,t,e1,e2,n,h⟩:=r
    exact ⟨a,t,e1,e2,n,k _ _ n h⟩
   ·obtain ⟨j,hj⟩:=List.getElem?_of_mem hx'
    obtain ⟨a,b,rfl,eb,ha⟩:=bxs.at hj;walk_at "s";refine TupR.go (by simp) fun t nt=>?_;refine k _ _ (qe nt _) ⟨a,t,rfl,rfl,fun z=>?_,qb0⟩;rw [z,hD] at nt;cases nt
   ·walk_at "s"
    have s34:=s3.trans s4;have ul:=All2.len al;have vl:=All2.len al4;refine qe5 (SqL.of (s34 _ _ hl2)) (SqL.of hD) (by rw [List.length_singleton] at ul; omega) fun l5 nl5=>?_;have s5:=qe nl5 (.lst (us++vs));have s25:=s34.trans s5;refine q l5 _ _ ((s12.trans s34).free nl5) ((s12.trans s34).trans s5) qb0 ?_;unfold piecesOf;rw [e];show All2 _ _ ([(ds,true)]++(qg1 bs cs ds bs.length).map fun x=>(x,false));refine All2.app (All2.imp al fun _ _ z=>z.mono fun _ _ z=>s25 _ _ z) ?_;have bx5:Bxs _ xs (qg1 bs cs ds bs.length):=bxs.same (s4.trans s5)
    have al5:=All2.imp al4 (S:=fun x v=>∃ a t,x=V.ref a∧v=.ref t∧upd H4 l5 (.lst (us++vs)) t=some (.tup [.ref a,.bl false])) fun x v r=>by
     obtain ⟨a,t,e1,e2,_,h⟩:=r;exact ⟨a,t,e1,e2,s5 _ _ h⟩
    generalize upd H4 l5 (.lst (us++vs))=H5 at *;clear al4 bxs;generalize qg1 bs cs ds bs.length=bss at *;clear er rl xl vl hlr hD
    induction bx5 generalizing vs with
    | nil =>
     cases al5;exact .nil
    | cons hb _ ih =>
     cases al5 with
     | cons h al5 =>
      obtain ⟨a,t,e1,e2,h⟩:=h;cases e1;exact .cons ⟨t,_,e2,h,hb⟩ (ih _ al5)
def PlAt (D W:Addr)(G H:Hp)(v:V)(x:Pl):Prop:=∃ t p l ls,v=.ref t∧H t=some (.tup [.ref p,.ref l,x.y.v])∧IsBox H p x.bs∧l≠D∧l≠W∧G l=none∧H l=some (.lst ls)∧All2 (WkAt H) ls x.dn
theorem PlAt.same {W:Addr}{H H':Hp}{v:V}{x:Pl}(h:PlAt D W G H v x)(s:Same H H'):PlAt D W G H' v x:=by
 obtain ⟨t,p,l,ls,e,h1,h2,n1,n2,n3,h3,h4⟩:=h
 exact ⟨t,p,l,ls,e,s _ _ h1,h2.same s,n1,n2,n3,s _ _ h3,All2.imp h4 fun _ _ r=>by
  obtain ⟨t,e,h⟩:=r
  exact ⟨t,e,s _ _ h⟩⟩
theorem PlAt.upd {W A:Addr}{H:Hp}{v:V}{x:Pl}{o:HO}(h:PlAt D W G H v x)(hA:H A=some (.lst xs))(z:A=D∨A=W):PlAt D W G (upd H A o) v x:=by
 obtain ⟨t,p,l,ls,e,h1,h2,n1,n2,n3,h3,h4⟩:=h
 have ne:l≠A:=by
  rcases z with rfl | rfl
  ·exact n1
  ·exact n2
 exact ⟨t,p,l,ls,e,qu2 hA _ _ h1,h2.upd hA,n1,n2,n3,by rw [qt ne]; exact h3,All2.imp h4 fun _ _ r=>by
  obtain ⟨t,e,h⟩:=r
  exact ⟨t,e,qu2 hA _ _ h⟩⟩
def yesD:Yes→PyData
 | .word z=>.str z
 | .goto i=>.int (i:Int)
def qe9 (x:Pl):PyData:=.tuple [boxD x.bs,.list (x.dn.map wkD),yesD x.y]
theorem yes_dt {H:Hp}:∀ y:Yes,Dt H y.v (yesD y)
 | .word z=>.str z
 | .goto i=>.int (i:Int)
theorem qrq {W:Addr}{H:Hp}{vs:List V}{st:List Pl}(h:All2 (PlAt D W G H) vs st):Dts H vs (st.map qe9):=by
 induction h with
 | nil=>exact .nil
 | cons h _ ih =>
  obtain ⟨t,p,l,ls,rfl,h1,h2,_,_,_,h3,h4⟩:=h;exact .cons (.tup (.inl h1) (.cons h2.dt (.cons (.lst (.inl h3) (wk_dts h4)) (.cons (yes_dt _) .nil)))) ih
theorem qth {rs:List Row}:∀ {st:List Pl},(∀ x∈st,YOk rs x.n x.y)→PyData.canLayAll0 (st.map qe9)=true
 | [],_=>by simp [PyData.canLayAll0]
 | x::st,h=>by
  have h1:=h x List.mem_cons_self;rw [List.map_cons,PyData.canLayAll0.eq_2,qth fun y hy=>h y (List.mem_cons_of_mem _ hy)];have l:=qya x.bs;have m:=qz5 wkD (fun z=>by simp [wkD,PyData.canLay0,PyData.canLayAll0]) x.dn
  have y:PyData.canLay0 (yesD x.y)=true:=by
   cases e:x.y with
   | word z =>
    rw [e] at h1;have h1:PyData.strOk z=true:=h1;simp [yesD,PyData.canLay0,h1]
   | goto i=>simp [yesD,PyData.canLay0]
  simp [qe9,PyData.canLay0,PyData.canLayAll0,l,m,y]
theorem qsh {rs:List Row}{st:List Pl}(h:∀ x∈st,YOk rs x.n x.y):SeqAt.shaped (.list (st.map qe9))=true:=by
 have a:=qth h
 have b:=qc2 qe9 (n:=10) (fun x=>by
  have d:=qs7 x.bs;have e:=qc2 wkD (n:=3) (fun z=>by simp [wkD,PyData.depth,PyData.depthAll]) x.dn
  have y:PyData.depth (yesD x.y)≤1:=by
   cases x.y <;> simp [yesD,PyData.depth]
  simp [qe9,PyData.depth,PyData.depthAll]
  omega) st
 exact qc4 (by simp [PyData.canLay0,a]) (by simp only [PyData.depth]; omega)
theorem qsr {rs:List Row}{W:Addr}{H:Hp}{b:Addr}{ws:List V}{st:List Pl}(ha:H a=some (.lst ws.reverse))(al:All2 (PlAt D W G H) ws st)(hb:H b=some (.lst []))(ok:∀ x∈st,YOk rs x.n x.y)(q:Q (.bl (!decide (st.length=0))) H):rEqD true (.ref a) (.ref b) H Q:=by
 have ok':∀ x∈st.reverse,YOk rs x.n x.y:=fun x hx=>ok x (List.mem_reverse.mp hx);refine ⟨.list (st.reverse.map qe9),.list [],.lst (.inl ha) (qrq al.rev),.lst (.inl hb) .nil,qsh ok',by decide,?_⟩
 have e:PyData.eqv (.list (st.reverse.map qe9)) (.list [])=decide (st.length=0):=by
  cases st with
  | nil=>rfl
  | cons z r =>
   rw [decide_eq_false (by intro c; cases c),List.reverse_cons,List.map_append]
   cases hx:(r.reverse.map qe9) with
   | nil=>simp [PyData.eqv,PyData.eqvAll]
   | cons _ _=>simp [PyData.eqv,PyData.eqvAll]
 rw [e];exact q
def lkPl (k:Lk):Pl:=⟨k.1,k.2.1,.word k.2.2,0⟩
theorem pl_told {W:Addr}{H:Hp}{ks:List Lk}(h:All2 (PlAt D W G H) xs (ks.map lkPl)):All2 (LkF G D H) xs ks:=by
 induction ks generalizing xs with
 | nil =>
  cases h;exact .nil
 | cons k ks ih =>
  cases h with
  | cons h t =>
   refine .cons ?_ (ih t);obtain ⟨t,p,l,ls,rfl,h1,h2,n1,n2,n3,h3,h4⟩:=h;refine ⟨⟨t,p,l,ls,rfl,h1,h2,n1,h3,h4⟩,fun t' p' l' e h'=>?_⟩;cases e;have h1:H t=some (.tup [.ref p,.ref l,.str k.2.2]):=h1;rw [h1] at h';cases h';exact n3
theorem qlr (F:Fun K "looked" "looked" qb9 f fd)(g_ended:Fn P w K mg base "ended" 1 ["rows","default","step"] qzj)(g_step_from:Fn P w K mg base "step_from" 1 ["row","fits"] qsp)(g_pieces:Fn P w K mg base "pieces" 4 ["box","other"] qef)(b_reversed:mg "reversed"=none):FnOk P w K mg base CX0 6 f fd ["rows","default","box"] qsa:=by
 refine F.ok qd4 (by walk_at "l") (fun _ _ _ _ H _ Q E hr h=>?_);obtain ⟨rl,p,df,vr,rs,bx,bs,rfl,hrl,al,lat,wo,n120,hp,b6,low,few,q⟩:=h;have rl':=All2.len al;refine ⟨_,(qc (qi (i:=3) qd4.nd rfl (Or.inl rfl) (qe1 qd)) (qc (qi (i:=4) qd4.nd rfl (Or.inl rfl) (qe1 (qa (qv0 (qa (pv 2) (qa (qe1 qd) (qa qf qd)))) qd))) (qc (qsf PassesOwn.never (qk (qzh hr.units) (pv 4) (qe1 qd) (qs0 _)) (qc (qi (i:=5) qd4.nd rfl (Or.inl rfl) (pe_bm0 PySem.F.plainAttrs_list PySem.F.slot_list_pop PySem.F.type_list_pop mt_pop (pv 4))) (qc (qi (i:=6) qd4.nd rfl (Or.inl rfl) (qq ql0 (pv 5) qf (fun _ _=>rfl))) (qc (qi (i:=7) qd4.nd rfl (Or.inl rfl) (qf1 g_ended hr (by decide) rfl (qa (pv 0) (qa (pv 1) (qa (pv 6) qd))))) (qc (ql1 (qk qdr (pv 7) qw5 (qs0 _)) (qc (qn2 (qp8 PySem.F.plainAttrs_list PySem.F.slot_list_append PySem.F.type_list_append qr1 (pv 3) (qa (qv0 (qa (qq ql0 (pv 5) qf (fun _ _=>rfl)) (qa (qq ql0 (pv 5) qf (fun _ _=>rfl)) (qa (pv 7) qd)))) qd))) (qg qn8)) qn0) (qc (qi (i:=8) qd4.nd rfl (Or.inl rfl) (qq qb2 (pv 0) (pv 6) (fun _ _=>rfl))) (qg (qb3 PassesOwn.never rfl (pi_rev rfl b_reversed (qa (qf1 g_pieces hr (by decide) rfl (qa (qq ql0 (pv 5) qf (fun _ _=>rfl)) (qa (qq ql0 (pv 8) qf (fun _ _=>rfl)) qd))) qd)) (qj7 rfl (qx (qp (i:=9) qd4.nd rfl (Or.inl rfl)) (qx (qp (i:=10) qd4.nd rfl (Or.inl rfl)) qc5))) (qg (qn2 (qp8 PySem.F.plainAttrs_list PySem.F.slot_list_append PySem.F.type_list_append qr1 (pv 4) (qa (qv0 (qa (pv 9) (qa (qj qv2 (qq ql0 (pv 5) qf (fun _ _=>rfl)) (qe1 (qa (qv0 (qa (pv 6) (qa (pv 10) qd))) qd))) (qa (qf1 g_step_from hr (by decide) rfl (qa (pv 8) (qa (pv 10) qd))) qd)))) qd)))))))))))) (qg (qm (pv 3)))))),?_⟩;rw [qpp];walk_at "s";refine LstR.go (by simp) fun D nD=>?_;have s1:=qe nD (.lst []);have hD1:upd H D (.lst []) D=some (.lst []):=qb0;generalize upd H D (.lst [])=H1 at *;walk_at "s";refine LstR.go (by simp) fun l0 nl0=>?_;have s2:=qe nl0 (.lst []);have hl02:upd H1 l0 (.lst []) l0=some (.lst []):=qb0
 have nl0D:l0≠D:=fun e=>by
  rw [e,hD1] at nl0;cases nl0
 generalize upd H1 l0 (.lst [])=H2 at *;refine TupR.go (by simp) fun t0 nt0=>?_;have s3:=qe nt0 (.tup [.ref p,.ref l0,.int 0]);have ht03:upd H2 t0 (.tup [.ref p,.ref l0,.int 0]) t0=some (.tup [.ref p,.ref l0,.int 0]):=qb0;generalize upd H2 t0 (.tup [.ref p,.ref l0,.int 0])=H3 at *;refine LstR.go (by simp) fun W nW=>?_;have s4:=qe nW (.lst [.ref t0]);have hW4:upd H3 W (.lst [.ref t0]) W=some (.lst [.ref t0]):=qb0;have s23:=s2.trans s3;have s13:=s1.trans s23;have s14:=s13.trans s4;have nW0:H W=none:=s13.free nW;have hl03:=s3 _ _ hl02
 have nl0W:l0≠W:=fun e=>by
  rw [e,nW] at hl03;cases hl03
 have nDW:D≠W:=fun e=>by
  have:=s23 _ _ hD1;rw [e,nW] at this;cases this
 have hD4:=(s23.trans s4) _ _ hD1;have p0:PlAt D W H (upd H3 W (.lst [.ref t0])) (.ref t0) ⟨bs,[],.goto 0,rs.length+1⟩:=⟨t0,p,l0,[],rfl,s4 _ _ ht03,hp.same s14,nl0D,nl0W,s1.free nl0,s4 _ _ hl03,.nil⟩;generalize upd H3 W (.lst [.ref t0])=H4 at *;walk_at "s"
 have tot:qd5 rs bx df (rs.length+1) 0 bs=[]++([⟨bs,[],.goto 0,rs.length+1⟩]:List Pl).flatMap (Pl.look rs bx df):=by
  rw [List.nil_append,List.flatMap_cons,List.flatMap_nil,List.append_nil];show _=(qd5 rs bx df (rs.length+1) 0 bs).map (pres []);exact (List.map_id' _).symm
 generalize qd5 rs bx df (rs.length+1) 0 bs=total at *;refine qpg (fun m σ H'=>Same H H'∧∃ (ws:List V) (st:List Pl) (xs:List V) (ks:List Lk) (y1 y2 y3 y4 y5 y6:Option V),σ=[some (.ref rl),some (.str df),some (.ref p),some (.ref D),some (.ref W),y1,y2,y3,y4,y5,y6]∧H' W=some (.lst ws.reverse)∧H' D=some (.lst xs)∧All2 (PlAt D W H H') ws st∧All2 (PlAt D W H H') xs (ks.map lkPl)∧(∀ x∈st,Pl.Ok rs x)∧m=(st.map (Pl.cost rs bx)).sum∧total=ks++st.flatMap (Pl.look rs bx df)) _
  ⟨s14,[.ref t0],[⟨bs,[],.goto 0,rs.length+1⟩],[],[],none,none,none,none,none,none,rfl,hW4,hD4,.cons p0 .nil,.nil,(fun x hx=>by
   obtain rfl:=List.mem_singleton.mp hx
   exact ⟨b6,low.fair (by omega),⟨Nat.zero_le _,Nat.le_refl _⟩,fun i e=>Nat.zero_le _⟩),rfl,tot⟩ fun m σ H5 pv=>?_
 clear tot p0 hW4 hD4 s14 s13 s23 s1 s2 s3 s4 hl03 hl02 ht03 hD1 nt0 nl0 nW nl0D nl0W;obtain ⟨sm,ws,st,xs,ks,y1,y2,y3,y4,y5,y6,rfl,hW5,hD5,pa,ta,ok,rfl,tot⟩:=pv
 have room:ks.length+st.length≤16770000:=by
  have:=qts (f:=Pl.look rs bx df) (l:=st) fun x hx=>by
   unfold Pl.look;rw [List.length_map];exact qrc lat wo _ _ _ (ok x hx).y
  rw [tot,List.length_append] at few;omega
 walk_at "s";refine LstR.go (by simp) fun e ne=>?_;have s6:=qe ne (.lst []);have he6:upd H5 e (.lst []) e=some (.lst []):=qb0;have sm6:=sm.trans s6;have hW6:=s6 _ _ hW5;have hD6:=s6 _ _ hD5;replace pa:=All2.imp pa fun _ _ r=>r.same s6;replace ta:=All2.imp ta fun _ _ r=>r.same s6;generalize upd H5 e (.lst [])=H6 at *;refine qsr hW6 pa he6 (fun x hx=>(ok x hx).y) ?_;refine ⟨_,rfl,WhL.on (fun ht=>?_) fun hf=>?_⟩
 ·cases pa with
  | nil=>cases ht
  | @cons w0 x0 ws st hw pa =>
   have okx:=ok x0 List.mem_cons_self;have ok':∀ x∈st,Pl.Ok rs x:=fun x hx=>ok x (List.mem_cons_of_mem _ hx);obtain ⟨bs0,dn0,y0,n0⟩:=x0;rw [List.reverse_cons] at hW6;rw [List.length_cons] at room;walk_at "s";refine ⟨qy4 hW6,?_⟩;refine pop_go hW6 ?_;have sm7:Same H (upd H6 W (.lst ws.reverse)):=sm6.put nW0;have hW7:upd H6 W (.lst ws.reverse) W=some (.lst ws.reverse):=qb0
   have hD7:upd H6 W (.lst ws.reverse) D=some (.lst xs):=by rw [qt nDW]; exact hD6
   have hw7:=hw.upd (o:=.lst ws.reverse) hW6 (.inr rfl);replace pa:=All2.imp pa fun _ _ r=>r.upd (o:=.lst ws.reverse) hW6 (.inr rfl);replace ta:=All2.imp ta fun _ _ r=>r.upd (o:=.lst ws.reverse) hW6 (.inr rfl);clear hw;generalize upd H6 W (.lst ws.reverse)=H7 at *;obtain ⟨t1,p1,l1,ls1,rfl,ht1,hp1,n1D,n1W,n1G,hl1,wk1⟩:=id hw7;have ht1:H7 t1=some (.tup [.ref p1,.ref l1,y0.v]):=ht1;walk_at "s";refine ixT_go (i:=2) (SqT.of ht1) rfl ?_;walk_at "s";refine ⟨rl,df,y0,vr,rfl,sm7 _ _ hrl,?_⟩;walk_at "s";have wl:=All2.len pa;have xl:=All2.len ta;rw [List.length_map] at xl
   by_cases hE:optV (qhg vr.length df y0)=V.non
   ·rw [hE]
    walk_at "s";obtain ⟨i,rfl,li⟩:=qrw hE;simp only [qro] at ht1 ⊢;rw [rl'] at li;obtain ⟨v,hv,t,rfl,htr,hb,c6,fairc⟩:=All2.ix al (List.getElem?_eq_getElem li);have er:rs[i]?=some rs[i]:=List.getElem?_eq_getElem li;generalize rs[i]=r at *;have oy:i≤rs.length∧rs.length+1≤n0+i:=okx.y;obtain ⟨n,rfl⟩:∃ n,n0=n+1:=⟨n0 - 1,by omega⟩;have kok:=kid_ok lat wo er okx c6;have d0:dn0.length≤i:=okx.dn i rfl;have b60:bs0.length=6:=okx.six;have lk:=qwr (bx:=bx) (df:=df) (bs:=bs0) (dn:=dn0) (n:=n) er;have ck:=qdt (bx:=bx) (bs:=bs0) (dn:=dn0) (n:=n) er;rw [List.flatMap_cons,lk,← List.flatMap_append] at tot
    have room2:ks.length+((piecesOf bs0 (bx r.bp)).length+st.length)≤16770000:=by
     have:=qts (f:=Pl.look rs bx df) (l:=(piecesOf bs0 (bx r.bp)).map (kid r i n dn0)++st) fun x hx=>by
      unfold Pl.look;rw [List.length_map];exact qrc lat wo _ _ _ ((List.mem_append.mp hx).elim (fun h=>kok x h) fun h=>ok' x h).y
     rw [tot,List.length_append] at few;rw [List.length_append,List.length_map] at this;omega
    have htr7:=sm7 _ _ htr;refine qw2 (i:=i) (SqL.of (sm7 _ _ hrl)) hv ?_;walk_at "s";refine ixT_go (i:=0) (SqT.of ht1) rfl ?_;walk_at "s";refine ixT_go (i:=2) (SqT.of htr7) rfl ?_;refine ⟨p1,r.bp,bs0,bx r.bp,rfl,hp1,hb.same sm7,c6.trans b60.symm,okx.fair,fairc,fun l us H8 nl s8 hl8 ual=>?_⟩
    have nlW:l≠W:=fun e=>by
     rw [e,hW7] at nl;cases nl
    replace pa:=All2.imp pa fun _ _ r=>r.same s8;replace ta:=All2.imp ta fun _ _ r=>r.same s8;have hw8:=hw7.same s8;have hW8:=s8 _ _ hW7;have hD8:=s8 _ _ hD7;have htr8:=s8 _ _ htr7;have sm8:=sm7.trans s8;have ul:=All2.len ual;clear hw7 ht1 hp1 hl1 wk1 n1D n1W n1G;walk_at "s";refine RevR.go (SqL.of hl8) ?_;refine ForR.items itv (fun j σ H'=>Same H H'∧H' l=some (.lst us)∧H' D=some (.lst xs)∧H' t=some (.tup r.vs)∧PlAt D W H H' (.ref t1) ⟨bs0,dn0,.goto i,n+1⟩∧All2 (PlAt D W H H') ws st∧All2 (PlAt D W H H') xs (ks.map lkPl)∧All2 (PcAt H') us (piecesOf bs0 (bx r.bp))∧∃ (as:List V) (y5 y6:Option V),H' W=some (.lst (ws.reverse++as))∧All2 (PlAt D W H H') as (((piecesOf bs0 (bx r.bp)).reverse.take j).map (kid r i n dn0))∧σ=[some (.ref rl),some (.str df),some (.ref p),some (.ref D),some (.ref W),some (.ref t1),some (.int (i:Int)),some .non,some (.ref t),y5,y6])
     ⟨sm8,hl8,hD8,htr8,hw8,pa,ta,ual,[],_,_,by rw [List.append_nil]; exact hW8,.nil,rfl⟩ (fun j σ H' pv=>SqL.of pv.2.1) (fun j x σ H9 hx pv=>?_) (fun σ H9 pv=>?_)
    ·obtain ⟨sm9,hl9,hD9,ht9,hw9,pa9,ta9,ual9,as,y5,y6,hW9,as9,rfl⟩:=pv
     obtain ⟨qv,eq,tq,aq,rfl,htq,hbq⟩:=All2.at ual9.rev hx;obtain ⟨qb,b⟩:=qv;obtain ⟨t1',p1,l1,ls1,e1,ht1,hp1,n1D,n1W,n1G,hl1,wk1⟩:=id hw9;cases e1;have ht1:H9 t1=some (.tup [.ref p1,.ref l1,.int (i:Int)]):=ht1;have wkl:=All2.len wk1;have wkl:ls1.length=dn0.length:=wkl;have al9:=All2.len as9;rw [List.length_map,List.length_take,List.length_reverse] at al9;refine qio (SqT.of htq) ?_;walk_at "s";refine ⟨qy4 hW9,?_⟩;refine ixT_go (i:=1) (SqT.of ht1) rfl ?_;walk_at "s";refine TupR.go (by simp) fun u nu=>?_;have z1:=qe nu (.tup [.int (i:Int),.bl b]);have hu:upd H9 u (.tup [.int (i:Int),.bl b]) u=some (.tup [.int (i:Int),.bl b]):=qb0;generalize upd H9 u (.tup [.int (i:Int),.bl b])=G1 at *;refine LstR.go (by simp) fun l2 nl2=>?_;have z2:=qe nl2 (.lst [.ref u]);have hl2:upd G1 l2 (.lst [.ref u]) l2=some (.lst [.ref u]):=qb0;generalize upd G1 l2 (.lst [.ref u])=G2 at *;have z12:=z1.trans z2;refine qe5 (SqL.of (z12 _ _ hl1)) (SqL.of hl2) (by rw [List.length_singleton]; omega) fun l3 nl3=>?_;have z3:=qe nl3 (.lst (ls1++[.ref u]));have hl3:upd G2 l3 (.lst (ls1++[.ref u])) l3=some (.lst (ls1++[.ref u])):=qb0;generalize upd G2 l3 (.lst (ls1++[.ref u]))=G3 at *;have z13:=z12.trans z3;walk_at "s";refine ⟨t,b,r,rfl,z13 _ _ ht9,?_⟩;walk_at "s";refine TupR.go (by simp) fun t3 nt3=>?_;have z4:=qe nt3 (.tup [.ref aq,.ref l3,(qf2 r b).v]);have ht3:upd G3 t3 (.tup [.ref aq,.ref l3,(qf2 r b).v]) t3=some (.tup [.ref aq,.ref l3,(qf2 r b).v]):=qb0;generalize upd G3 t3 (.tup [.ref aq,.ref l3,(qf2 r b).v])=G4 at *;have z14:=z13.trans z4;have hW14:=z14 _ _ hW9
     have n3W:l3≠W:=fun e=>by
      rw [e,z12 _ _ hW9] at nl3;cases nl3
     have n3D:l3≠D:=fun e=>by
      rw [e,z12 _ _ hD9] at nl3;cases nl3
     have n3H:H l3=none:=(sm9.trans z12).free nl3;refine qrt hW14 (by rw [List.length_append,List.length_reverse,al9]; omega) ?_
     have new:PlAt D W H G4 (.ref t3) (kid r i n dn0 (qb,b)):=⟨t3,aq,l3,ls1++[.ref u],rfl,ht3,hbq.same z14,n3D,n3W,n3H,z4 _ _ hl3,(All2.imp wk1 fun _ _ r=>by
      obtain ⟨t,e,h⟩:=r
      exact ⟨t,e,z14 _ _ h⟩).snoc ⟨u,rfl,(z2.trans (z3.trans z4)) _ _ hu⟩⟩
     refine ⟨(sm9.trans z14).put nW0,by rw [qt nlW]; exact z14 _ _ hl9,by rw [qt nDW]; exact z14 _ _ hD9,qu2 hW14 _ _ (z14 _ _ ht9),(hw9.same z14).upd hW14 (.inr rfl),All2.imp pa9 fun _ _ r=>(r.same z14).upd hW14 (.inr rfl),All2.imp ta9 fun _ _ r=>(r.same z14).upd hW14 (.inr rfl),All2.imp ual9 fun _ _ r=>(r.mono fun _ _ z=>z14 _ _ z).mono (qu2 hW14),as++[.ref t3],_,_,?_,?_,rfl⟩
     ·rw [qb0,List.append_assoc]
     ·rw [List.take_add_one,eq,Option.toList_some,List.map_append]
      exact (All2.imp as9 fun _ _ r=>(r.same z14).upd hW14 (.inr rfl)).snoc (new.upd hW14 (.inr rfl))
    ·obtain ⟨sm9,hl9,hD9,ht9,hw9,pa9,ta9,ual9,as,y5,y6,hW9,as9,rfl⟩:=pv
     rw [List.take_of_length_le (by rw [List.length_reverse,List.length_reverse]; omega),List.map_reverse] at as9;replace as9:=as9.rev;rw [List.reverse_reverse] at as9;walk_at "s";refine ⟨_,?_,sm9,as.reverse++ws,(piecesOf bs0 (bx r.bp)).map (kid r i n dn0)++st,xs,ks,_,_,_,_,_,_,rfl,by rw [List.reverse_append,List.reverse_reverse]; exact hW9,hD9,as9.app pa9,ta9,fun x hx=>(List.mem_append.mp hx).elim (fun h=>kok x h) fun h=>ok' x h,rfl,tot⟩;rw [List.sum_cons,ck,List.map_append,List.sum_append];omega
   ·obtain ⟨z,ez,hz⟩:=qqw hE
    rw [ez];have nn:decide (optV (some z)=V.non)=false:=decide_eq_false (by intro c; cases c);show BrS (!decide (optV (some z)=V.non)) _ _ _ _;rw [nn];walk_at "s";rw [rl'] at hz;have le:=qgw (bx:=bx) (df:=df) okx hz;refine ⟨qy4 hD7,?_⟩;refine ixT_go (i:=0) (SqT.of ht1) rfl ?_;walk_at "s";refine ixT_go (i:=1) (SqT.of ht1) rfl ?_;walk_at "s";refine TupR.go (by simp) fun t2 nt2=>?_;have z2:=qe nt2 (.tup [.ref p1,.ref l1,optV (some z)]);have ht2:upd H7 t2 (.tup [.ref p1,.ref l1,optV (some z)]) t2=some (.tup [.ref p1,.ref l1,.str z]):=qb0;generalize upd H7 t2 (.tup [.ref p1,.ref l1,optV (some z)])=H8 at *;have hD8:=z2 _ _ hD7
    have new:PlAt D W H H8 (.ref t2) (lkPl (bs0,dn0,z)):=⟨t2,p1,l1,ls1,rfl,ht2,hp1.same z2,n1D,n1W,n1G,z2 _ _ hl1,All2.imp wk1 fun _ _ r=>by
     obtain ⟨t,e,h⟩:=r
     exact ⟨t,e,z2 _ _ h⟩⟩
    refine qrt hD8 (by omega) ?_;walk_at "s";have cp:=qxw (rs:=rs) (bx:=bx) ⟨bs0,dn0,y0,n0⟩;refine ⟨_,?_,(sm7.trans z2).put nD,ws,st,xs++[.ref t2],ks++[(bs0,dn0,z)],_,_,_,_,_,_,rfl,by rw [qt (Ne.symm nDW)]; exact z2 _ _ hW7,qb0,All2.imp pa fun _ _ r=>(r.same z2).upd hD8 (.inl rfl),?_,ok',rfl,?_⟩
    ·rw [List.sum_cons]
     omega
    ·rw [List.map_append]
     exact (All2.imp ta fun _ _ r=>(r.same z2).upd hD8 (.inl rfl)).snoc (new.upd hD8 (.inl rfl))
    ·rw [tot,List.flatMap_cons,le,List.append_assoc]
 ·cases pa with
  | cons _ _=>cases hf
  | nil =>
   rw [List.flatMap_nil,List.append_nil] at tot;walk_at "s";refine q D xs H6 nD sm6 hD6 ?_;rw [tot];exact pl_told ta
def PSub (x b:Bsx):Prop:=∀ ns:List Int,ns.length=b.length→qr0 x ns=true→qr0 b ns=true
def POut (x c:Bsx):Prop:=∀ ns:List Int,ns.length=c.length→qr0 x ns=true→qr0 c ns=false
def Full (x:Bsx):Prop:=∀ b∈x,b.1≤b.2
theorem PSub.refl (x:Bsx):PSub x x:=fun _ _ h=>h
theorem PSub.trans {x b c:Bsx}(h:PSub x b)(k:PSub b c)(l:c.length=b.length):PSub x c:=fun ns hn hx=>k ns hn (h ns (hn.trans l) hx)
theorem PSub.out {x b c:Bsx}(h:PSub x b)(k:POut b c)(l:c.length=b.length):POut x c:=fun ns hn hx=>k ns hn (h ns (hn.trans l) hx)
theorem qn4 {x:Bsx}(h:qr0 x ns=true){b:Int×Int}{n:Int}(e:x[i]?=some b)(e':ns[i]?=some n):qw b n=true:=by
 cases z:qw b n with
 | true=>rfl
 | false=>rw [qq5 e e' z] at h; cases h
theorem qag {bs cs:Bsx}(hl:cs.length=bs.length)(hn:ns.length=bs.length)(h:qr0 (qt4 bs cs) ns=true):qr0 bs ns=true∧qr0 cs ns=true:=by
 have key:∀ i (b c:Int×Int) (n:Int),bs[i]?=some b→cs[i]?=some c→ns[i]?=some n→qw b n=true∧qw c n=true:=fun i b c n eb ec en=>by
  have m:=qn4 h (qr6 eb ec) en;unfold qw qm2 at m;rw [Bool.and_eq_true,decide_eq_true_eq,decide_eq_true_eq] at m;unfold qw;rw [Bool.and_eq_true,decide_eq_true_eq,decide_eq_true_eq,Bool.and_eq_true,decide_eq_true_eq,decide_eq_true_eq];have:max b.1 c.1≤n:=m.1;have:n≤min b.2 c.2:=m.2;omega
 refine ⟨qe2 fun i b n eb en=>?_,qe2 fun i c n ec en=>?_⟩
 ·have li:=(List.getElem?_eq_some_iff.mp eb).1
  exact (key i b _ n eb (List.getElem?_eq_getElem (show i<cs.length by omega)) en).1
 ·have li:=(List.getElem?_eq_some_iff.mp ec).1
  exact (key i _ c n (List.getElem?_eq_getElem (show i<bs.length by omega)) ec en).2
theorem sub_at {x b:Bsx}(h:PSub x b)(l:x.length=b.length)(f:Full x){y c:Int×Int}(ey:x[k]?=some y)(ec:b[k]?=some c):c.1≤y.1∧y.2≤c.2:=by
 have h1:=h _ (by rw [List.length_map]; exact l) (qur x f);have h2:=h _ (by rw [List.length_map]; exact l) (qom x f);have a:=qnm h1 ec (n:=y.1) (by rw [List.getElem?_map,ey]; rfl);have d:=qnm h2 ec (n:=y.2) (by rw [List.getElem?_map,ey]; rfl);exact ⟨a.1,d.2⟩
theorem qiu {x b:Bsx}(h:PSub x b)(l:x.length=b.length)(f:Full x):qe3 x b=some x:=by
 have e:qt4 x b=x:=by
  refine List.ext_getElem? fun k=>?_
  by_cases c:k<x.length
  ·have ex:=List.getElem?_eq_getElem c
   have eb:=List.getElem?_eq_getElem (show k<b.length by omega);rw [qr6 ex eb,ex];obtain ⟨h1,h2⟩:=sub_at h l f ex eb;unfold qm2
   congr 1
   exact Prod.ext (by show max _ _=_; omega) (by show min _ _=_; omega)
  ·rw [List.getElem?_eq_none (by rw [qj6 l.symm]; omega),List.getElem?_eq_none (by omega)]
 rw [qu8 (by rw [e]; exact fun y hy=>decide_eq_true (f y hy)),e]
theorem qhv {x c:Bsx}(h:POut x c)(l:c.length=x.length):qe3 x c=none:=by
 cases e:qe3 x c with
 | none=>rfl
 | some ds =>
  obtain ⟨ns,hn,h1,h2⟩:=both_in l e;rw [h ns (hn.trans l.symm) h1] at h2;cases h2
theorem qva {bs cs:Bsx}(hl:cs.length=bs.length)(hc:Full cs):∀ q∈piecesOf bs cs,PSub q.1 bs∧(q.2=true→PSub q.1 cs)∧(q.2=false→POut q.1 cs):=by
 intro q hq;unfold piecesOf at hq
 split at hq
 ·rename_i e
  obtain rfl:=List.mem_singleton.mp hq;exact ⟨PSub.refl _,fun z=>(by cases z),fun _ ns hn hx=>apart bs cs ns e hx (hn.trans hl) hl⟩
 ·rename_i ds e
  rcases List.mem_cons.mp hq with rfl | hq
  ·obtain ⟨rfl,al⟩:=qp4 e
   exact ⟨fun ns hn hx=>(qag hl hn hx).1,fun _ ns hn hx=>(qag hl (hn.trans hl) hx).2,fun z=>(by cases z)⟩
  ·obtain ⟨x,hx,rfl⟩:=List.mem_map.mp hq
   have key:∀ ns:List Int,ns.length=bs.length→qr0 x ns=true→qr0 bs ns=true∧qr0 cs ns=false:=fun ns hn hi=>by
    have t:=qx8 hl hn hc
    have m:x∈qk3 bs cs:=by unfold qk3; rw [e]; exact hx
    have p:=qrg m hi;rw [t] at p
    split at p
    ·rename_i z
     rw [Bool.and_eq_true,Bool.not_eq_true'] at z;exact z
    ·omega
   exact ⟨fun ns hn hi=>(key ns hn hi).1,fun z=>(by cases z),fun _ ns hn hi=>(key ns (hn.trans hl) hi).2⟩
theorem qwh {bs cs:Bsx}(hl:cs.length=bs.length)(f:Full bs)(h:PSub bs cs∨POut bs cs):∃ b,piecesOf bs cs=[(bs,b)]:=by
 unfold piecesOf
 rcases h with h | h
 ·have e:=qiu h hl.symm f
  rw [e];refine ⟨true,?_⟩;show (bs,true)::(qg1 bs cs bs bs.length).map _=_;rw [qyd e];rfl
 ·rw [qhv h hl]
  exact ⟨false,rfl⟩
open Classical in
noncomputable def wtOf:List (Bsx×Nat)→Bsx→Nat
 | [],_=>1
 | c::ws,bs=>(if PSub bs c.1∨POut bs c.1 then 1 else c.2) * wtOf ws bs
theorem qto {x bs:Bsx}:∀ (ws:List (Bsx×Nat)),(∀ c∈ws,1≤c.2∧((PSub bs c.1∨POut bs c.1)→PSub x c.1∨POut x c.1))→wtOf ws x≤wtOf ws bs
 | [],_=>Nat.le_refl 1
 | c::ws,h=>by
  have ih:=qto ws fun d hd=>h d (List.mem_cons_of_mem _ hd);obtain ⟨h1,h2⟩:=h c List.mem_cons_self;unfold wtOf;refine Nat.mul_le_mul ?_ ih
  by_cases a:PSub bs c.1∨POut bs c.1
  ·rw [if_pos a,if_pos (h2 a)]
   exact Nat.le_refl 1
  ·rw [if_neg a]
   split
   ·exact h1
   ·exact Nat.le_refl _
open Classical in
theorem quo {x bs:Bsx}{d:Bsx×Nat}(nd:¬ (PSub bs d.1∨POut bs d.1))(xd:PSub x d.1∨POut x d.1):∀ (ws:List (Bsx×Nat)),d∈ws→(∀ c∈ws,1≤c.2∧((PSub bs c.1∨POut bs c.1)→PSub x c.1∨POut x c.1))→d.2 * wtOf ws x≤wtOf ws bs
 | [],m,_=>by cases m
 | c::ws,m,h=>by
  have hw:=fun e he=>h e (List.mem_cons_of_mem c he)
  rcases List.mem_cons.mp m with rfl | m
  ·unfold wtOf
   rw [if_neg nd,if_pos xd,Nat.one_mul];exact Nat.mul_le_mul (Nat.le_refl _) (qto ws hw)
  ·have ih:=quo nd xd ws m hw
   obtain ⟨h1,h2⟩:=h c List.mem_cons_self;unfold wtOf
   have a:(if PSub x c.1∨POut x c.1 then 1 else c.2)≤(if PSub bs c.1∨POut bs c.1 then 1 else c.2):=by
    by_cases a:PSub bs c.1∨POut bs c.1
    ·rw [if_pos a,if_pos (h2 a)]
     exact Nat.le_refl 1
    ·rw [if_neg a]
     split
     ·exact h1
     ·exact Nat.le_refl _
   calc d.2 * ((if PSub x c.1∨POut x c.1 then 1 else c.2) * wtOf ws x)=(if PSub x c.1∨POut x c.1 then 1 else c.2) * (d.2 * wtOf ws x):=by rw [Nat.mul_left_comm]
    _≤_:=Nat.mul_le_mul a ih
theorem qdj:∀ (ws:List (Bsx×Nat)) (bs:Bsx),(∀ c∈ws,1≤c.2)→wtOf ws bs≤ws.foldr (fun c n=>c.2 * n) 1
 | [],_,_=>Nat.le_refl 1
 | c::ws,bs,h=>by
  have ih:=qdj ws bs fun d hd=>h d (List.mem_cons_of_mem _ hd);unfold wtOf;rw [List.foldr_cons];refine Nat.mul_le_mul ?_ ih
  split
  ·exact h c List.mem_cons_self
  ·exact Nat.le_refl _
theorem qjp {α:Type}{f:α→Nat}{m:Nat}:∀ {l:List α},(∀ x∈l,f x≤m)→(l.map f).sum≤l.length * m
 | [],_=>Nat.zero_le _
 | x::l,h=>by
  have:=h x List.mem_cons_self;have:=qjp (l:=l) fun y hy=>h y (List.mem_cons_of_mem _ hy);rw [List.map_cons,List.sum_cons,List.length_cons,Nat.add_mul,Nat.one_mul];omega
theorem qfg {α β:Type}{f:α→List β}:∀ {l:List α},(l.flatMap f).length=(l.map fun x=>(f x).length).sum
 | []=>rfl
 | x::l=>by rw [List.flatMap_cons,List.length_append,qfg (l:=l),List.map_cons,List.sum_cons]
section
variable {rs:List Row}{bx:Addr→Bsx}{df:Str}
structure Six (U bs:Bsx):Prop where
 six:bs.length=6
 full:Full bs
 sub:PSub bs U
theorem Six.piece {bs cs:Bsx}(u6:U.length=6)(h:Six U bs)(fr:Fair bs)(c6:cs.length=6)(hc:Full cs):∀ q∈piecesOf bs cs,Six U q.1∧Fair q.1:=fun q hq=>by
 have hl:cs.length=bs.length:=c6.trans h.six.symm;obtain ⟨q1,q2⟩:=qjc hl fr q hq;exact ⟨⟨q1.trans h.six,fun b hb=>(q2.2 b hb).1,(qva hl hc q hq).1.trans h.sub (u6.trans h.six.symm)⟩,q2⟩
theorem qso:∀ (ws:List (Bsx×Nat)) (bs:Bsx),(∀ c∈ws,1≤c.2)→1≤wtOf ws bs
 | [],_,_=>Nat.le_refl 1
 | c::ws,bs,h=>by
  have ih:=qso ws bs fun d hd=>h d (List.mem_cons_of_mem _ hd);unfold wtOf;refine Nat.mul_pos ?_ ih
  split
  ·exact Nat.zero_lt_one
  ·exact h c List.mem_cons_self
theorem qxa {U:Bsx}{ws:List (Bsx×Nat)}(u6:U.length=6)(hw:∀ c∈ws,1≤c.2∧c.1.length=6∧Full c.1∧∀ bs,Six U bs→(piecesOf bs c.1).length≤c.2)(hr:∀ r∈rs,∃ m,(bx r.bp,m)∈ws) :
  ∀ (n:Nat) (y:Yes) (bs:Bsx),Six U bs→Fair bs→(qg5 rs bx df n bs y).length≤wtOf ws bs
 | n,.word z,bs,_,_=>qso ws bs fun c hc=>(hw c hc).1
 | 0,.goto i,bs,_,_=>Nat.zero_le _
 | n+1,.goto i,bs,h6,fr=>by
  have p1:=qso ws bs fun c hc=>(hw c hc).1;show (qd5 rs bx df (n+1) i bs).length≤_
  cases e:rs[i]? with
  | none =>
   rw [ql6 e];exact p1
  | some r =>
   obtain ⟨m,hm⟩:=hr r (List.mem_of_getElem? e);obtain ⟨w1,w2,w3,w4⟩:=hw _ hm;have hl:(bx r.bp).length=bs.length:=w2.trans h6.six.symm;rw [qk6 e]
   by_cases d:PSub bs (bx r.bp)∨POut bs (bx r.bp)
   ·obtain ⟨b,eb⟩:=qwh hl h6.full d
    rw [eb,List.flatMap_cons,List.flatMap_nil,List.append_nil,List.length_map];exact qxa u6 hw hr n _ bs h6 fr
   ·rw [qfg]
    have le:∀ q∈piecesOf bs (bx r.bp),m * ((qg5 rs bx df n q.1 (qf2 r q.2)).map (pre (i,q.2))).length≤wtOf ws bs:=fun q hq=>by
     obtain ⟨s6,sf⟩:=h6.piece u6 fr w2 w3 q hq;have ih:=qxa u6 hw hr n (qf2 r q.2) q.1 s6 sf;obtain ⟨q1,q2,q3⟩:=qva hl w3 q hq
     have xd:PSub q.1 (bx r.bp)∨POut q.1 (bx r.bp):=by
      cases hb:q.2 with
      | true=>exact .inl (q2 hb)
      | false=>exact .inr (q3 hb)
     have cut:=quo (d:=(bx r.bp,m)) (x:=q.1) d xd ws hm fun c hc=>⟨(hw c hc).1,fun z=>by
      have cl:c.1.length=bs.length:=(hw c hc).2.1.trans h6.six.symm
      rcases z with z | z
      ·exact .inl (q1.trans z cl)
      ·exact .inr (q1.out z cl)⟩
     rw [List.length_map];exact Nat.le_trans (Nat.mul_le_mul (Nat.le_refl m) ih) cut
    have w4:=w4 bs h6;have s:=qjp (f:=fun (q:Bsx×Bool)=>m * ((qg5 rs bx df n q.1 (qf2 r q.2)).map (pre (i,q.2))).length) le
    have sm:∀ l:List (Bsx×Bool),(l.map fun q=>m * ((qg5 rs bx df n q.1 (qf2 r q.2)).map (pre (i,q.2))).length).sum=m * (l.map fun q=>((qg5 rs bx df n q.1 (qf2 r q.2)).map (pre (i,q.2))).length).sum:=by
     intro l
     induction l with
     | nil=>rfl
     | cons a l ih=>rw [List.map_cons,List.sum_cons,ih,List.map_cons,List.sum_cons,Nat.mul_add]
    rw [sm] at s;have s2:m * ((piecesOf bs (bx r.bp)).map fun q=>((qg5 rs bx df n q.1 (qf2 r q.2)).map (pre (i,q.2))).length).sum≤m * wtOf ws bs:=Nat.le_trans s (Nat.mul_le_mul w4 (Nat.le_refl _));exact Nat.le_of_mul_le_mul_left s2 w1
inductive qqd (rs:List Row) (bx:Addr→Bsx) (df:Str) (x:Bsx):Yes→List (Nat×Bool)→Str→Prop where
 | word (z:Str):qqd rs bx df x (.word z) [] z
 | done {i:Nat} (e:rs[i]?=none):qqd rs bx df x (.goto i) [] df
 | yes {i:Nat} {r:Row} {lk:List (Nat×Bool)} {w:Str} (e:rs[i]?=some r) (y:PSub x (bx r.bp)) (h:qqd rs bx df x r.yes lk w):qqd rs bx df x (.goto i) ((i,true)::lk) w
 | no {i:Nat} {r:Row} {lk:List (Nat×Bool)} {w:Str} (e:rs[i]?=some r) (y:POut x (bx r.bp)) (h:qqd rs bx df x (.goto r.no) lk w):qqd rs bx df x (.goto i) ((i,false)::lk) w
theorem qgi (u6:U.length=6)(hr:∀ r∈rs,(bx r.bp).length=6∧Full (bx r.bp)) :
  ∀ (n:Nat) (y:Yes) (bs:Bsx),Six U bs→Fair bs→∀ k∈qg5 rs bx df n bs y,PSub k.1 bs∧Six U k.1∧Fair k.1∧qqd rs bx df k.1 y k.2.1 k.2.2
 | n,.word z,bs,h6,fr,k,hk=>by
  obtain rfl:=List.mem_singleton.mp hk;exact ⟨PSub.refl _,h6,fr,.word z⟩
 | 0,.goto i,bs,_,_,k,hk=>by cases hk
 | n+1,.goto i,bs,h6,fr,k,hk=>by
  have hk:k∈qd5 rs bx df (n+1) i bs:=hk
  cases e:rs[i]? with
  | none =>
   rw [ql6 e] at hk;obtain rfl:=List.mem_singleton.mp hk;exact ⟨PSub.refl _,h6,fr,.done e⟩
  | some r =>
   obtain ⟨w2,w3⟩:=hr r (List.mem_of_getElem? e);have hl:(bx r.bp).length=bs.length:=w2.trans h6.six.symm;rw [qk6 e] at hk;obtain ⟨q,hq,hk⟩:=List.mem_flatMap.mp hk;obtain ⟨k',hk',rfl⟩:=List.mem_map.mp hk;obtain ⟨s6,sf⟩:=h6.piece u6 fr w2 w3 q hq;obtain ⟨q1,q2,q3⟩:=qva hl w3 q hq;obtain ⟨a1,a2,a3,a4⟩:=qgi u6 hr n (qf2 r q.2) q.1 s6 sf k' hk';have ql:bs.length=q.1.length:=h6.six.trans s6.six.symm;have cl:(bx r.bp).length=q.1.length:=w2.trans s6.six.symm;refine ⟨a1.trans q1 ql,a2,a3,?_⟩;obtain ⟨qb,b⟩:=q
   cases b with
   | true=>exact .yes e (a1.trans (q2 rfl) cl) a4
   | false=>exact .no e (a1.out (q3 rfl) cl) a4
theorem qd8 {f:α→List Bsx}:∀ l:List α,qa1 (l.flatMap f) ns=(l.map fun x=>qa1 (f x) ns).sum
 | []=>rfl
 | x::l=>by rw [List.flatMap_cons,qi8,qd8 l,List.map_cons,List.sum_cons]
theorem qvh {bs cs:Bsx}(hl:cs.length=bs.length)(hn:ns.length=bs.length)(hc:Full cs):qa1 ((piecesOf bs cs).map (·.1)) ns=if qr0 bs ns=true then 1 else 0:=by
 have t:=qx8 hl hn hc;unfold piecesOf;unfold qk3 at t
 cases e:qe3 bs cs with
 | none=>exact qr3 bs ns
 | some ds =>
  rw [e] at t;obtain ⟨ed,al⟩:=qp4 e;have t:qa1 (qg1 bs cs ds bs.length) ns=_:=t;show qa1 (ds::((qg1 bs cs ds bs.length).map fun x=>(x,false)).map (·.1)) ns=_;rw [List.map_map,show ((fun x=>x.1) ∘ fun x=>(x,false):Bsx→Bsx)=id from rfl,List.map_id,qrd,t]
  have m:qr0 ds ns=(qr0 bs ns && qr0 cs ns):=by
   rw [ed]
   cases h:qr0 (qt4 bs cs) ns with
   | true =>
    obtain ⟨a,b⟩:=qag hl hn h;rw [a,b];rfl
   | false =>
    cases ha:qr0 bs ns with
    | false=>rfl
    | true =>
     cases hb:qr0 cs ns with
     | false=>rfl
     | true =>
      have:qr0 (qt4 bs cs) ns=true:=qe2 fun i d n ei en=>by
       obtain ⟨b,c,e1,e2,e3⟩:=List.getElem?_zipWith_eq_some.mp ei;have l1:=qn4 ha e1 en;have l2:=qn4 hb e2 en;unfold qw at l1 l2 ⊢;rw [Bool.and_eq_true,decide_eq_true_eq,decide_eq_true_eq] at l1 l2 ⊢;rw [← e3];exact ⟨(by show max _ _≤_; omega),(by show _≤min _ _; omega)⟩
      rw [this] at h;cases h
  rw [m]
  cases qr0 bs ns <;> cases qr0 cs ns <;> rfl
theorem qee (u6:U.length=6)(hr:∀ r∈rs,(bx r.bp).length=6∧Full (bx r.bp))(lat:qkl rs)(hn:ns.length=6) :
  ∀ (n:Nat) (y:Yes) (bs:Bsx),(∀ i,y=.goto i→rs.length+1≤n+i∧i≤rs.length)→Six U bs→Fair bs→qa1 ((qg5 rs bx df n bs y).map (·.1)) ns=if qr0 bs ns=true then 1 else 0
 | n,.word z,bs,_,h6,fr=>qr3 bs ns
 | 0,.goto i,bs,h,_,_=>by
  have:=h i rfl;omega
 | n+1,.goto i,bs,h,h6,fr=>by
  show qa1 ((qd5 rs bx df (n+1) i bs).map (·.1)) ns=_
  cases e:rs[i]? with
  | none =>
   rw [ql6 e];exact qr3 bs ns
  | some r =>
   obtain ⟨w2,w3⟩:=hr r (List.mem_of_getElem? e);have hl:(bx r.bp).length=bs.length:=w2.trans h6.six.symm;obtain ⟨l1,l2,l3⟩:=lat i r e;have hi:=h i rfl;rw [qk6 e,← qvh hl (hn.trans h6.six.symm) w3,List.map_flatMap,qd8]
   have each:∀ q∈piecesOf bs (bx r.bp),qa1 (((qg5 rs bx df n q.1 (qf2 r q.2)).map (pre (i,q.2))).map (·.1)) ns=if qr0 q.1 ns=true then 1 else 0:=fun q hq=>by
    obtain ⟨s6,sf⟩:=h6.piece u6 fr w2 w3 q hq;rw [List.map_map,show ((fun x=>x.1) ∘ pre (i,q.2):Lk→Bsx)=fun x=>x.1 from rfl];refine qee u6 hr lat hn n _ q.1 (fun j ej=>?_) s6 sf;obtain ⟨qb,b⟩:=q
    cases b with
    | true =>
     obtain ⟨g1,g2⟩:=l3 j ej;exact ⟨by omega,g2⟩
    | false =>
     cases ej;exact ⟨by omega,l2⟩
   unfold qa1;rw [List.map_map]
   congr 1
   exact List.map_congr_left each
end
theorem qon {bs cs:Bsx}{b c:Int×Int}(eb:bs[k]?=some b)(ec:cs[k]?=some c)(h:c.1≤b.1∧b.2≤c.2):qd3 bs cs ds k=[]:=by
 unfold qd3;rw [eb,ec];show (if b.1≤c.1 - 1 then _ else [])++(if c.2+1≤b.2 then _ else [])=[];rw [if_neg (by omega),if_neg (by omega)];rfl
theorem qyq (bs cs ds:Bsx)(k:Nat):(qd3 bs cs ds k).length≤2:=by
 unfold qd3
 split
 ·rw [List.length_append]
  split <;> split <;> simp
 ·decide
theorem qph (a:Nat):∀ n:Nat,(List.range n).countP (fun k=>decide (k=a))≤(if a<n then 1 else 0)
 | 0=>by simp
 | n+1=>by
  have ih:=qph a n;rw [List.range_succ,List.countP_append,List.countP_singleton]
  by_cases c:n=a
  ·subst c
   rw [if_neg (Nat.lt_irrefl n)] at ih;rw [if_pos (Nat.lt_succ_self n),decide_eq_true rfl,if_pos rfl];omega
  ·rw [decide_eq_false c,if_neg Bool.false_ne_true]
   split at ih <;> split <;> omega
theorem qxl (n:Nat):∀ S:List Nat,(List.range n).countP (fun k=>decide (k∈S))≤S.length
 | []=>by
  have:(List.range n).countP (fun k=>decide (k∈([]:List Nat)))=0:=by
   rw [List.countP_eq_zero];intro k _ h;exact absurd (of_decide_eq_true h) (by simp)
  rw [this];exact Nat.le_refl 0
 | a::S=>by
  have ih:=qxl n S;have h1:=qph a n
  have h2:(if a<n then 1 else 0)≤1:=by split <;> omega
  have:∀ l:List Nat,l.countP (fun k=>decide (k∈a::S))≤l.countP (fun k=>decide (k=a))+l.countP (fun k=>decide (k∈S)):=by
   intro l
   induction l with
   | nil=>exact Nat.le_refl 0
   | cons x l ih =>
    rw [List.countP_cons,List.countP_cons,List.countP_cons]
    by_cases c:x=a
    ·have:(if decide (x∈a::S)=true then 1 else 0)≤1:=by split <;> omega
     have:(if decide (x=a)=true then 1 else 0)=1:=by rw [decide_eq_true c]; rfl
     omega
    ·have:decide (x∈a::S)=decide (x∈S):=by
      rw [Bool.eq_iff_iff,decide_eq_true_eq,decide_eq_true_eq]
      constructor
      ·intro h
       rcases List.mem_cons.mp h with h | h
       ·exact absurd h c
       ·exact h
      ·exact List.mem_cons_of_mem _
     rw [this];omega
  have:=this (List.range n);rw [List.length_cons];omega
theorem qfc {bs cs:Bsx}:∀ n:Nat,(∀ k,k<n→k∉S→qd3 bs cs ds k=[])→(qg1 bs cs ds n).length≤2 * (List.range n).countP (fun k=>decide (k∈S))
 | 0,_=>Nat.le_refl 0
 | n+1,h=>by
  have ih:=qfc n fun k hk=>h k (by omega);rw [qz3,List.length_append,List.range_succ,List.countP_append,List.countP_singleton];have p2:=qyq bs cs ds n
  by_cases c:n∈S
  ·rw [decide_eq_true c,if_pos rfl]
   omega
  ·rw [h n (by omega) c,List.length_nil]
   omega
theorem qbo {bs cs:Bsx}(u6:U.length=6)(h:Six U bs)(c6:cs.length=6)(hS:∀ k,k∉S→cs[k]?=U[k]?):(piecesOf bs cs).length≤1+2 * S.length:=by
 unfold piecesOf
 split
 ·show 1≤_
  omega
 ·rename_i ds e
  rw [List.length_cons,List.length_map]
  have r:=qfc (bs:=bs) (cs:=cs) (ds:=ds) (S:=S) bs.length fun k hk hn=>by
   have eb:=List.getElem?_eq_getElem hk;have ec:=List.getElem?_eq_getElem (show k<cs.length by rw [c6,← h.six]; exact hk);refine qon eb ec ?_;have eu:=hS k hn;rw [ec] at eu;exact sub_at h.sub (h.six.trans u6.symm) h.full eb eu.symm
  have i:=qxl bs.length S;omega
theorem qeg {b:Bool}{t:TS}{D:Ends}{H:Hp}(p:Bool→L2.St→Hp→Prop)(h2:b=false→p false σ H)(rest:∀ c σ' H',c=b→p c σ' H'→D.nx σ' H')(h1:b=true→∀ N:L2.St→Hp→Prop,(∀ σ' H',p true σ' H'→N σ' H')→t { D with nx:=N } σ H):BrS b (t D) (tNext D) σ H:=by
 cases b with
 | true=>exact h1 rfl D.nx fun σ' H' z=>rest true σ' H' rfl z
 | false=>exact rest false σ H rfl (h2 rfl)
def qjb:Sp:=fun vs H Q _=>∃ m t c:Int,vs=[.int m,.int t,.int c]∧0≤m∧m≤t∧t<2 ^ 33∧∀ (u:Addr) (lo hi:Int) H',Same H H'→H' u=some (.tup [.int lo,.int hi])→0≤lo→lo≤hi→hi≤t→Q (.ref u) H'
theorem qun (F:Fun K "_law_stretch" "_law_stretch" qn3 f fd)(b_min:mg "min"=none)(b_max:mg "max"=none):FnOk P w K mg base CX0 1 f fd ["_law_mark","_law_top_here","_law_cell"] qjb:=by
 refine F.ok qe4 (by walk_at "l") (fun cdv A outer s H vs Q E hr h=>?_);obtain ⟨m,t,c,rfl,m0,mt,t33,q⟩:=h;refine ⟨_,(qc (qi (i:=3) qe4.nd rfl (Or.inl rfl) (qj qu1 (pv 2) qf)) (qc (ql1 (qk qq4 (pv 3) qf (qs0 _)) (qg (qm (qv0 (qa qf (qa (pv 0) qd))))) qn0) (qc (ql1 (qk qq4 (pv 3) qf (qs0 _)) (qg (qm (qv0 (qa (pv 0) (qa (pv 1) qd))))) qn0) (qc (ql1 (qk qq4 (pv 3) qf (qs0 _)) (qg (qm (qv0 (qa (pv 0) (qa (pv 0) qd))))) qn0) (qc (ql1 (qk qq4 (pv 3) qf (qs0 _)) (qg (qm (qv0 (qa (qy (qp7 rfl) rfl b_min qxi (qa (qj qb1 (pv 0) qf) (qa (pv 1) qd))) (qa (pv 1) qd))))) qn0) (qc (ql1 (qk qq4 (pv 3) qf (qs0 _)) (qg (qm (qv0 (qa qf (qa (qy (qq7 rfl) rfl b_max qyi (qa (qj qce (pv 0) qf) (qa qf qd))) qd))))) qn0) (qc (qi (i:=4) qe4.nd rfl (Or.inl rfl) (qj qu1 (qj qv3 (pv 2) qf) (qj qb1 (pv 1) qf))) (qc (ql1 (qk qq4 (pv 3) qf (qs0 _)) (qg (qm (qv0 (qa (qy (qp7 rfl) rfl b_min qxi (qa (pv 4) (qa (pv 0) qd))) (qa (qy (qq7 rfl) rfl b_max qyi (qa (pv 4) (qa (pv 0) qd))) qd))))) qn0) (qc (qi (i:=5) qe4.nd rfl (Or.inl rfl) (qj qu1 (qj qu1 (qj qw6 (qj qu1 (pv 2) qf) qf) qf) (qj qb1 (pv 1) qf))) (qg (qm (qv0 (qa (qy (qp7 rfl) rfl b_min qxi (qa (pv 4) (qa (pv 5) qd))) (qa (qy (qq7 rfl) rfl b_max qyi (qa (pv 4) (qa (pv 5) qd))) qd)))))))))))))),?_⟩;rw [qdb];walk_at "s";refine ⟨by decide,?_⟩;refine BrS.dec (fun z=>?_) (fun z=>?_)
 ·walk_at "s"
  exact qq8 fun l H' s e=>q l _ _ _ s e (by omega) (by omega) (by omega)
 walk_at "s";refine BrS.dec (fun z=>?_) (fun z=>?_)
 ·walk_at "s"
  exact qq8 fun l H' s e=>q l _ _ _ s e (by omega) (by omega) (by omega)
 walk_at "s";refine BrS.dec (fun z=>?_) (fun z=>?_)
 ·walk_at "s"
  exact qq8 fun l H' s e=>q l _ _ _ s e (by omega) (by omega) (by omega)
 walk_at "s";refine BrS.dec (fun z=>?_) (fun z=>?_)
 ·walk_at "s"
  exact qq8 fun l H' s e=>q l _ _ _ s e (by omega) (by omega) (by omega)
 walk_at "s";refine BrS.dec (fun z=>?_) (fun z=>?_)
 ·walk_at "s"
  exact qq8 fun l H' s e=>q l _ _ _ s e (by omega) (by omega) (by omega)
 walk_at "s";refine ⟨⟨by decide,by decide⟩,by omega,?_⟩;have a0:=Int.emod_nonneg (c / 7) (show t+1≠0 by omega);have a1:=Int.emod_lt_of_pos (c / 7) (show 0<t+1 by omega);generalize c / 7 % (t+1)=one at *;refine BrS.dec (fun z=>?_) (fun z=>?_)
 ·walk_at "s"
  exact qq8 fun l H' s e=>q l _ _ _ s e (by omega) (by omega) (by omega)
 walk_at "s";have b0:=Int.emod_nonneg c (show (2147483647:Int)≠0 by decide);have b1:=Int.emod_lt_of_pos c (show (0:Int)<2147483647 by decide);generalize c % 2147483647=d at *;refine ⟨by decide,.inl ⟨by omega,by omega⟩,by decide,by omega,?_⟩;have c0:=Int.emod_nonneg (d * 48271 % 2147483647) (show t+1≠0 by omega);have c1:=Int.emod_lt_of_pos (d * 48271 % 2147483647) (show 0<t+1 by omega);generalize d * 48271 % 2147483647 % (t+1)=two at *;exact qq8 fun l H' s e=>q l _ _ _ s e (by omega) (by omega) (by omega)
def wholeU:Bsx:=topsI.map fun t=>(0,t)
def qng (ms:List Int):Prop:=ms.length=6∧∀ (i:Nat) (m t:Int),ms[i]?=some m→topsI[i]?=some t→0≤m∧m≤t
theorem qew:∀ {n:Nat} {vs:List V},All2 (fun x v=>∃ (i:Nat) (m t:Int),x=V.int (i:Int)∧v=.int m∧topsI[i]?=some t∧0≤m∧m≤t) (rngV 0 n) vs→∃ ms:List Int,vs=ms.map V.int∧ms.length=n∧∀ (i:Nat) (m t:Int),ms[i]?=some m→topsI[i]?=some t→0≤m∧m≤t:=by
 intro n vs al
 have key:∀ (xs vs:List V),All2 (fun x v=>∃ (i:Nat) (m t:Int),x=V.int (i:Int)∧v=.int m∧topsI[i]?=some t∧0≤m∧m≤t) xs vs→∃ ms:List Int,vs=ms.map V.int:=by
  intro xs vs al
  induction al with
  | nil=>exact ⟨[],rfl⟩
  | cons h _ ih =>
   obtain ⟨ms,rfl⟩:=ih;obtain ⟨_,m,_,_,rfl,_⟩:=h;exact ⟨m::ms,rfl⟩
 obtain ⟨ms,rfl⟩:=key _ _ al;have len:=All2.len al;rw [qq6,List.length_map] at len;refine ⟨ms,rfl,len.symm,fun i m t em et=>?_⟩
 have li:i<n:=by
  rw [len];exact (List.getElem?_eq_some_iff.mp em).1
 obtain ⟨v,ev,j,m',t',ej,e1,e2,h0,h1⟩:=All2.at al (qvl (lo:=0) li);rw [List.getElem?_map,em] at ev;cases ev;cases e1
 injection ej with ej
 have:i=j:=by omega
 subst this;rw [et] at e2;cases e2;exact ⟨h0,h1⟩
def qvj (K:W.Frag):Sp:=fun vs H Q _=>∃ (a:Addr) (ns:List Int),vs=[.ref a]∧SqL K H a (ns.map V.int)∧∀ l ms H',H l=none→Same H H'→H' l=some (.lst (ms.map V.int))→qng ms→Q (.ref l) H'
theorem qrv (F:Fun K "_law_marks" "_law_marks" qy3 f fd)(g__law_cell_at:Fn P w K mg base "_law_cell_at" 1 ["_law_script","_law_k"] (spCell K))(g__law_top:Fn P w K mg base "_law_top" 1 ["_law_d"] qen)(b_range:mg "range"=none):FnOk P w K mg base CX0 2 f fd ["_law_script"] (qvj K):=by
 refine F.ok qof (by walk_at "l") (fun cdv A outer s H vs Q E hr h=>?_);obtain ⟨a,ns,rfl,hS,q⟩:=h;refine ⟨_,(qg (qm (qa6 (T:=["_law_d"]) (cap:=[0]) rfl (COk.of (out:=qh qy3) (N:=["_law_script"]) rfl rfl (by decide +kernel)) (qc3 rfl b_range (qa qf qd)) (fun _ _ _=>(qp (i:=0) (show List.Nodup (["_law_d","_law_script"]:List Str) by decide +kernel) rfl (Or.inl rfl))) (fun _ _ _=>ql4) (fun _ _ _=>(qj qu1 (qf1 g__law_cell_at hr (by decide) rfl (qa (pv 1) (qa (qj qb1 qf (pv 0)) qd))) (qj qb1 (qf1 g__law_top hr (by decide) rfl (qa (pv 0) qd)) qf)))))),?_⟩;rw [qye];walk_at "s";refine RngR.go (by decide) (by decide) ?_;refine CmpR.rel (fun D H' x v=>∃ (i:Nat) (m t:Int),x=V.int (i:Int)∧v=.int m∧topsI[i]?=some t∧0≤m∧m≤t) (fun _ _ _ _ _ _ r=>r) itr (by decide) (fun _ _=>trivial) (fun D x H' ys Q' hx nD s2 hD k=>?_) fun D H2 vs nD s2 hD al=>?_
 ·obtain ⟨i,hi,rfl⟩:=List.mem_map.mp hx
  have hi:=List.mem_range.mp hi;simp only [Int.zero_add];walk_at "s";refine spCell.go (s2.seq hS) (by omega) ?_;walk_at "s";refine ⟨i,rfl,hi,fun t H3 et t0 t1 s3=>?_⟩;walk_at "s";refine ⟨by omega,?_⟩;have m0:=Int.emod_nonneg (cell ns (1+(i:Int))) (show t+1≠0 by omega);have m1:=Int.emod_lt_of_pos (cell ns (1+(i:Int))) (show 0<t+1 by omega);exact k _ _ s3 ⟨i,_,t,by rw [Int.zero_add],rfl,et,m0,by omega⟩
 ·obtain ⟨ms,rfl,ml,mk⟩:=qew al
  exact q D ms H2 nD s2 hD ⟨ml,mk⟩
theorem qax {H:Hp}{bs:Bsx}{t:Addr}{b:Int×Int}(h:Strs H xs bs)(ht:H t=some (.tup [.int b.1,.int b.2])):Strs H (xs.set i (.ref t)) (bs.set i b):=by
 induction h generalizing i with
 | nil=>exact .nil
 | cons e _ ih =>
  cases i with
  | zero=>exact .cons ht ‹_›
  | succ i=>exact .cons e (ih)
structure Nar (n:Nat)(bs:Bsx):Prop where
 six:bs.length=6
 low:∀ (i:Nat) (b:Int×Int) (t:Int),bs[i]?=some b→topsI[i]?=some t→0≤b.1∧b.1≤b.2∧b.2≤t
 few:∃ S:List Nat,S.length≤n∧∀ k,k∉S→bs[k]?=wholeU[k]?
theorem qx6 {t:Int}(e:topsI[i]?=some t):wholeU[i]?=some (0,t):=by
 unfold wholeU;rw [List.getElem?_map,e];rfl
theorem Nar.at {n:Nat}{bs:Bsx}(h:Nar n bs){b:Int×Int}(e:bs[i]?=some b):∃ t,topsI[i]?=some t∧0≤b.1∧b.1≤b.2∧b.2≤t∧t<2 ^ 33:=by
 have li:=(List.getElem?_eq_some_iff.mp e).1;obtain ⟨t,et,_,_,t1⟩:=que (show i<6 by have:=h.six; omega);obtain ⟨h1,h2,h3⟩:=h.low i b t e et;exact ⟨t,et,h1,h2,h3,t1⟩
theorem Nar.Low {n:Nat}{bs:Bsx}(h:Nar n bs):Low bs:=fun b hb=>by
 obtain ⟨i,ei⟩:=List.getElem?_of_mem hb;obtain ⟨t,_,h1,h2,h3,h4⟩:=h.at ei
 have:(2:Int) ^ 33<2 ^ 40:=by decide
 exact ⟨h1,h2,by omega⟩
theorem Nar.full {n:Nat}{bs:Bsx}(h:Nar n bs):Full bs:=fun b hb=>(h.Low b hb).2.1
theorem Nar.sub {n:Nat}{bs:Bsx}(h:Nar n bs):PSub bs wholeU:=fun ns hn hx=>by
 refine qe2 fun i b m eb em=>?_;have l6:wholeU.length=6:=rfl;have li:=(List.getElem?_eq_some_iff.mp eb).1;have ex:=List.getElem?_eq_getElem (show i<bs.length by have:=h.six; omega);obtain ⟨t,et,h1,h2,h3,_⟩:=h.at ex;rw [qx6 et] at eb;cases eb;have m1:=qn4 hx ex em;unfold qw at m1 ⊢;rw [Bool.and_eq_true,decide_eq_true_eq,decide_eq_true_eq] at m1 ⊢;exact ⟨by omega,by omega⟩
theorem Nar.sixU {n:Nat}{bs:Bsx}(h:Nar n bs):Six wholeU bs:=⟨h.six,h.full,h.sub⟩
theorem Nar.pieces {n:Nat}{bs xs:Bsx}(h:Nar n bs)(hx:Six wholeU xs):(piecesOf xs bs).length≤1+2 * n:=by
 obtain ⟨S,hS,hk⟩:=h.few;have:=qbo (U:=wholeU) rfl hx h.six hk;omega
theorem nar_whole:Nar 0 wholeU:=⟨rfl,fun i b t eb et=>by
 rw [qx6 et] at eb;cases eb;obtain ⟨t',e',_,t0,_⟩:=que (show i<6 from (List.getElem?_eq_some_iff.mp et).1);rw [et] at e';cases e'
 exact ⟨Int.le_refl _,t0,Int.le_refl _⟩,[],Nat.le_refl _,fun _ _=>rfl⟩
theorem Nar.set {n:Nat}{bs:Bsx}{b:Int×Int}{t:Int}(h:Nar n bs)(et:topsI[i]?=some t)(hb:0≤b.1∧b.1≤b.2∧b.2≤t):Nar (n+1) (bs.set i b):=by
 refine ⟨by rw [List.length_set]; exact h.six,fun j c u ec eu=>?_,?_⟩
 ·rw [List.getElem?_set] at ec
  split at ec
  ·rename_i e
   subst e
   split at ec
   ·cases ec
    rw [et] at eu;cases eu;exact hb
   ·cases ec
  ·exact h.low j c u ec eu
 ·obtain ⟨S,hS,hk⟩:=h.few
  refine ⟨i::S,by rw [List.length_cons]; omega,fun k hn=>?_⟩;rw [List.getElem?_set_ne (fun e=>hn (by rw [e]; exact List.mem_cons_self))];exact hk k fun m=>hn (List.mem_cons_of_mem _ m)
theorem qkp {H:Hp}{vs:List V}(h:All2 (fun x v=>∃ (i:Nat) (t:Int) (u:Addr),x=V.int (i:Int)∧v=.ref u∧u≠D∧topsI[i]?=some t∧H u=some (.tup [.int 0,.int t])) (rngV 0 6) vs):Strs H vs wholeU:=by
 have key:∀ (n j:Nat) (vs:List V),n+j=6→All2 (fun x v=>∃ (i:Nat) (t:Int) (u:Addr),x=V.int (i:Int)∧v=.ref u∧u≠D∧topsI[i]?=some t∧H u=some (.tup [.int 0,.int t])) (rngV (j:Int) n) vs→Strs H vs (wholeU.drop j):=by
  intro n
  induction n with
  | zero =>
   intro j vs e al;cases al;rw [show j=6 by omega];exact .nil
  | succ n ih =>
   intro j vs e al
   have er:rngV (j:Int) (n+1)=V.int (j:Int)::rngV ((j+1:Nat):Int) n:=by
    unfold rngV;rw [List.range_succ_eq_map,List.map_cons,List.map_map]
    have e2:(List.range n).map ((fun (i:Nat)=>V.int ((j:Int)+(i:Int))) ∘ Nat.succ)=(List.range n).map fun (i:Nat)=>V.int (((j+1:Nat):Int)+(i:Int)):=List.map_congr_left fun k _=>by
     show V.int ((j:Int)+((k+1:Nat):Int))=V.int (((j+1:Nat):Int)+(k:Int))
     congr 1
     omega
    rw [e2];simp
   rw [er] at al
   cases al with
   | cons h al =>
    obtain ⟨i,t,u,e1,rfl,_,et,hu⟩:=h
    injection e1 with e1
    have:j=i:=by omega
    subst this;have ew:=qx6 et;obtain ⟨lt,e2⟩:=List.getElem?_eq_some_iff.mp ew;rw [List.drop_eq_getElem_cons lt,e2];exact .cons hu (ih (j+1) _ (by omega) al)
 exact key 6 0 vs rfl h
theorem qnl {g:TE}{H:Hp}{Q:VK}{σ:L2.St}{cap:List Nat}(hs:∀ (i:Nat) (H':Hp) (Q':VK),i<6→Same H H'→(∀ (u:Addr) (t:Int) H2,H' u=none→Same H' H2→topsI[i]?=some t→H2 u=some (.tup [.int 0,.int t])→Q' (.ref u) H2)→g (some (.int (i:Int))::cap.map fun i=>σ.getD i none) H' Q')
  (q:∀ D vs H',H D=none→Same H H'→H' D=some (.lst vs)→Strs H' vs wholeU→Q (.ref D) H'):CmpR 1 cap (qb4 0) tYes g (Itr 0 6) σ H Q:=by
 refine CmpR.rel (fun D H' x v=>∃ (i:Nat) (t:Int) (u:Addr),x=V.int (i:Int)∧v=.ref u∧u≠D∧topsI[i]?=some t∧H' u=some (.tup [.int 0,.int t])) (fun D H' H'' x v kp r=>?_) itr (by decide) (fun _ _=>trivial) (fun D x H' ys Q' hx nD s2 hD k=>?_) fun D H2 vs nD s2 hD al=>?_
 ·obtain ⟨i,t,u,e1,e2,ne,et,hu⟩:=r
  exact ⟨i,t,u,e1,e2,ne,et,kp _ _ ne hu⟩
 ·obtain ⟨i,hi,rfl⟩:=List.mem_map.mp hx
  have hi:=List.mem_range.mp hi;simp only [Int.zero_add];refine hs i H' Q' hi s2 fun u t H3 nu s3 et hu=>k _ _ s3 ⟨i,t,u,by rw [Int.zero_add],rfl,fun e=>?_,et,hu⟩;rw [e,hD] at nu;cases nu
 ·exact q D vs H2 nD s2 hD (qkp al)
def spBox:Sp:=fun vs H Q _=>∃ (ml:Addr) (ms:List Int) (c:Int) (n:Nat),vs=[.ref ml,.int c,.int (n:Int)]∧H ml=some (.lst (ms.map V.int))∧qng ms∧n≤2∧∀ p bs H',H p=none→Same H H'→IsBox H' p bs→Nar n bs→Q (.ref p) H'
theorem ok_box (F:Fun K "_law_box" "_law_box" qi5 f fd)(g__law_top:Fn P w K mg base "_law_top" 1 ["_law_d"] qen)(g__law_stretch:Fn P w K mg base "_law_stretch" 1 ["_law_mark","_law_top_here","_law_cell"] qjb)(b_range:mg "range"=none)(b_tuple:mg "tuple"=none):FnOk P w K mg base CX0 2 f fd ["_law_marks_here","_law_cell","_law_wish"] spBox:=by
 refine F.ok ql5 (by walk_at "l") (fun cdv A outer s H vs Q E hr h=>?_);obtain ⟨ml,ms,c,n,rfl,hm,mok,n2,q⟩:=h;refine ⟨_,(qc (qo9 (T:=["_law_d"]) (cap:=[]) (i:=3) rfl (COk.of (out:=qh qi5) (N:=["_law_marks_here","_law_cell","_law_wish","_law_box_here","_law_at","_law_k"]) rfl rfl (by decide +kernel)) ql5.nd rfl (Or.inl rfl) (qc3 rfl b_range (qa qf qd)) (fun _ _ _=>(qp (i:=0) (show List.Nodup (["_law_d"]:List Str) by decide +kernel) rfl (Or.inl rfl))) (fun _ _ _=>ql4) (fun _ _ _=>(qv0 (qa qf (qa (qf1 g__law_top hr (by decide) rfl (qa (pv 0) qd)) qd))))) (qc (qi (i:=4) ql5.nd rfl (Or.inl rfl) (qj qu1 (pv 1) qf)) (qc (qb3 PassesOwn.never rfl (qc3 rfl b_range (qa (pv 2) qd)) (qp (i:=5) ql5.nd rfl (Or.inl rfl)) (qc (ps_asg (qf1 g__law_stretch hr (by decide) rfl (qa (qq qb2 (pv 0) (pv 4) (fun _ _=>rfl)) (qa (qf1 g__law_top hr (by decide) rfl (qa (pv 4) qd)) (qa (qj qv3 (qj qu1 (qj qv3 (pv 1) qf) (qj op_pow qf qf)) (qj qb1 qf (qj qw6 qf (pv 5)))) qd)))) (pg_sub (pv 3) (pv 4) qtl)) (qg (qi (i:=4) ql5.nd rfl (Or.inl rfl) (qj qu1 (qj qb1 (qj qb1 (pv 4) qf) (qj qu1 (qj qv3 (pv 1) qf) qf)) qf))))) (qg (qm (qm4 qw4 rfl b_tuple qv6 (qa (pv 3) qd))))))),?_⟩;rw [qmj];walk_at "s";refine RngR.go (by decide) (by decide) ?_;refine qnl (fun i H' Q' hi s' k=>?_) fun D vs H1 nD s1 hD st=>?_
 ·walk_at "s"
  refine ⟨i,rfl,hi,fun t H2 et t0 t1 s2=>?_⟩;walk_at "s";refine TupR.go (by simp) fun u nu=>?_;exact k u t _ (s2.free nu) (s2.trans (qe nu _)) et qb0
 walk_at "s";refine ⟨by decide,?_⟩;have a0:=Int.emod_nonneg c (show (6:Int)≠0 by decide);have a1:=Int.emod_lt_of_pos c (show (0:Int)<6 by decide);obtain ⟨a,ea⟩:=Int.eq_ofNat_of_zero_le a0;have ea:c % 6=(a:Int):=ea;rw [ea];walk_at "s";refine RngR.go (by omega) (by omega) ?_;refine ForR.range (n:=n) (fun i σ H'=>Same H H'∧∃ (a:Nat) (xs:List V) (bs:Bsx) (y:Option V),a<6∧H' D=some (.lst xs)∧Strs H' xs bs∧Nar i bs∧σ=[some (.ref ml),some (.int c),some (.int (n:Int)),some (.ref D),some (.int (a:Int)),y]) ⟨s1,a,vs,wholeU,none,by omega,hD,st,nar_whole,rfl⟩ (fun i σ H2 hi pv=>?_) (fun σ H2 pv=>?_)
 ·obtain ⟨sm,a,xs,bs,y,a6,hD2,st2,nar,rfl⟩:=pv
  obtain ⟨m,em,em'⟩:=qhs (show a<ms.length by have:=mok.1; omega);walk_at "s";refine qw2 (SqL.of (sm _ _ hm)) em' ?_;refine ⟨a,rfl,a6,fun t H3 et t0 t1 s3=>?_⟩
  have p30:(0:Int)<10 ^ Int.toNat 30:=by decide
  refine ⟨⟨by decide,by decide⟩,⟨by decide,by decide,by decide⟩,p30,.inl ⟨by decide,by decide⟩,⟨by omega,by omega⟩,?_⟩;obtain ⟨m0,m1⟩:=mok.2 a m t em et;refine ⟨m,t,_,rfl,m0,m1,t1,fun u lo hi H4 s4 hu l0 lh ht=>?_⟩;have s34:=s3.trans s4;have hD4:=s34 _ _ hD2;refine qzp hD4 (by rw [st2.len,nar.six]; exact a6) ?_;refine ⟨⟨by decide,by decide⟩,by decide,by decide,(sm.trans s34).put nD,?_⟩;have b0:=Int.emod_nonneg ((a:Int)+1+c / 6 % 5) (show (6:Int)≠0 by decide);have b1:=Int.emod_lt_of_pos ((a:Int)+1+c / 6 % 5) (show (0:Int)<6 by decide);obtain ⟨a',ea'⟩:=Int.eq_ofNat_of_zero_le b0;have ea':((a:Int)+1+c / 6 % 5) % 6=(a':Int):=ea';exact ⟨a',_,bs.set a (lo,hi),_,by omega,qb0,(qax (st2.same s34) hu).upd hD4,nar.set et ⟨l0,lh,ht⟩,by rw [ea']⟩
 ·obtain ⟨sm,a,xs,bs,y,a6,hD2,st2,nar,rfl⟩:=pv
  walk_at "s";refine TupOf.lst (SqL.of hD2) fun t nt=>?_;have s4:=qe nt (.tup xs);exact q t bs _ (sm.free nt) (sm.trans s4) ⟨xs,qb0,st2.same s4⟩ nar
abbrev Bxn:=Addr×Bsx×Nat
def bnV:Option Bxn→V
 | none=>.non
 | some e=>.ref e.1
def BnAt (H:Hp):Option Bxn→Prop
 | none=>True
 | some e=>IsBox H e.1 e.2.1∧Nar e.2.2 e.2.1
def wtB:Option Bxn→Nat
 | none=>1
 | some e=>1+2 * e.2.2
def qi7 (es:List (Option Bxn)):Nat:=es.foldr (fun e n=>wtB e * n) 1
theorem qrh:∀ {es:List (Option Bxn)} {i:Nat} (e:Option Bxn),es[i]?=some none→qi7 (es.set i e)=wtB e * qi7 es
 | [],_,_,h=>by cases h
 | x::es,0,e,h=>by
  cases h;show wtB e * qi7 es=wtB e * (1 * qi7 es);rw [Nat.one_mul]
 | x::es,i+1,e,h=>by
  show wtB x * qi7 (es.set i e)=wtB e * (wtB x * qi7 es);rw [qrh e (show es[i]?=some none from h),Nat.mul_left_comm]
theorem qp9:∀ n:Nat,qi7 (List.replicate n none)=1
 | 0=>rfl
 | n+1=>by
  show 1 * qi7 (List.replicate n none)=1;rw [qp9 n]
theorem BnAt.mono {H H':Hp}{e:Option Bxn}(h:BnAt H e)(k:∀ a xs,H a=some (.tup xs)→H' a=some (.tup xs)):BnAt H' e:=by
 cases e with
 | none=>trivial
 | some e=>exact ⟨h.1.mono k,h.2⟩
theorem mod_ne {n j:Nat}(hi:i<n)(hj:j<n)(ne:i≠j):(q0+(i:Int)) % (n:Int)≠(q0+(j:Int)) % (n:Int):=fun e=>by
 have h:=Int.emod_eq_emod_iff_emod_sub_eq_zero.mp e;obtain ⟨k,hk⟩:=Int.dvd_of_emod_eq_zero h
 rcases Int.lt_trichotomy k 0 with l | l | l
 ·have:=Int.mul_le_mul_of_nonneg_left (show k≤-1 by omega) (show (0:Int)≤(n:Int) by omega)
  omega
 ·rw [l] at hk
  omega
 ·have:=Int.mul_le_mul_of_nonneg_left (show 1≤k by omega) (show (0:Int)≤(n:Int) by omega)
  omega
theorem mod_hit {n x:Nat}(hx:x<n):∃ j,j<n∧(q0+(j:Int)) % (n:Int)=(x:Int):=by
 have a0:=Int.emod_nonneg ((x:Int) - q0) (show (n:Int)≠0 by omega);have a1:=Int.emod_lt_of_pos ((x:Int) - q0) (show (0:Int)<(n:Int) by omega);refine ⟨(((x:Int) - q0) % (n:Int)).toNat,by omega,?_⟩;rw [Int.toNat_of_nonneg a0,Int.add_emod,Int.emod_emod,← Int.add_emod,show q0+((x:Int) - q0)=(x:Int) by omega];exact Int.emod_eq_of_lt (by omega) (by omega)
theorem qym:∀ {es:List (Option Bxn)},(∀ x,x<es.length→∃ e,es[x]?=some (some e))→∃ fs:List Bxn,es=fs.map some
 | [],_=>⟨[],rfl⟩
 | e::es,h=>by
  obtain ⟨e0,h0⟩:=h 0 (by simp);obtain ⟨fs,rfl⟩:=qym (es:=es) fun x hx=>h (x+1) (by simp; omega);have h0:some e=some (some e0):=h0;cases h0;exact ⟨e0::fs,rfl⟩
theorem qae:∀ fs:List Bxn,qi7 (fs.map some)=fs.foldr (fun e n=>(1+2 * e.2.2) * n) 1
 | []=>rfl
 | e::fs=>by
  show (1+2 * e.2.2) * qi7 (fs.map some)=(1+2 * e.2.2) * _;rw [qae fs]
def qbk (K:W.Frag):Sp:=fun vs H Q _=>∃ (a ml:Addr) (ns ms:List Int) (n:Nat),vs=[.ref a,.ref ml,.int (n:Int)]∧SqL K H a (ns.map V.int)∧H ml=some (.lst (ms.map V.int))∧qng ms∧n≤12 ∧
 ∀ (l:Addr) (es:List Bxn) (H':Hp),H l=none→Same H H'→H' l=some (.lst (es.map fun e=>V.ref e.1))→es.length=n→(∀ e∈es,IsBox H' e.1 e.2.1∧Nar e.2.2 e.2.1)→es.foldr (fun e n=>(1+2 * e.2.2) * n) 1≤45→Q (.ref l) H'
theorem qwv (F:Fun K "_law_boxes" "_law_boxes" qz4 f fd)(g__law_cell_at:Fn P w K mg base "_law_cell_at" 1 ["_law_script","_law_k"] (spCell K))(g__law_box:Fn P w K mg base "_law_box" 2 ["_law_marks_here","_law_cell","_law_wish"] spBox)(b_range:mg "range"=none):FnOk P w K mg base CX0 3 f fd ["_law_script","_law_marks_here","_law_many"] (qbk K):=by
 refine F.ok qs1 (by walk_at "l") (fun _ _ _ _ H _ Q E hr h=>?_);obtain ⟨a,ml,ns,ms,n,rfl,hS,hm,mok,n8,q⟩:=h;refine ⟨_,(qc (qi (i:=3) qs1.nd rfl (Or.inl rfl) (qj op_rep (qe1 (qa qw5 qd)) (pv 2))) (qc (qi (i:=4) qs1.nd rfl (Or.inl rfl) qf) (qc (qb3 PassesOwn.never rfl (qc3 rfl b_range (qa (pv 2) qd)) (qp (i:=5) qs1.nd rfl (Or.inl rfl)) (qc (qi (i:=6) qs1.nd rfl (Or.inl rfl) (qj qu1 (qj qb1 (qj qv3 (qf1 g__law_cell_at hr (by decide) rfl (qa (pv 0) (qa qf qd))) qf) (pv 5)) (pv 2))) (qc (qi (i:=7) qs1.nd rfl (Or.inl rfl) (qf1 g__law_cell_at hr (by decide) rfl (qa (pv 0) (qa (qj qb1 qf (qj qw6 qf (pv 6))) qd)))) (qc (qi (i:=8) qs1.nd rfl (Or.inl rfl) (qq qb2 (qe1 (qa qf (qa qf (qa qf (qa qf qd))))) (qj qu1 (pv 7) qf) (fun _ _=>rfl))) (qc (ql1 (qk qrn (qj qw6 (pv 4) (qj qb1 qf (qj qw6 qf (pv 8)))) qf (qs0 _)) (qg (qi (i:=8) qs1.nd rfl (Or.inl rfl) qf)) qn0) (qc (qi (i:=4) qs1.nd rfl (Or.inl rfl) (qj qw6 (pv 4) (qj qb1 qf (qj qw6 qf (pv 8))))) (qg (ps_asg (qf1 g__law_box hr (by decide) rfl (qa (pv 1) (qa (qj qv3 (pv 7) qf) (qa (pv 8) qd)))) (pg_sub (pv 3) (pv 6) qtl))))))))) (qg (qm (pv 3)))))),?_⟩;rw [qze];walk_at "s";refine LstR.go (by simp) fun l0 n0=>?_;have s0:=qe n0 (.lst [.non]);refine rep_go qb0 (by omega) fun L nL=>?_;have s1:=qe nL (.lst (List.replicate n .non));have hL:=qb0 (H:=upd H l0 (.lst [.non])) (a:=L) (o:=.lst (List.replicate n .non));have s01:=s0.trans s1;have nL0:H L=none:=s0.free nL;generalize upd (upd H l0 (.lst [.non])) L (.lst (List.replicate n .non))=H1 at *;walk_at "s";refine RngR.go (by omega) (by omega) ?_;generalize eq0:cell ns 0 / 30=q0;refine ForR.range (n:=n) (fun i σ H'=>Same H H'∧∃ (es:List (Option Bxn)) (y5 y6 y7 y8:Option V),σ=[some (.ref a),some (.ref ml),some (.int (n:Int)),some (.ref L),some (.int (qi7 es:Int)),y5,y6,y7,y8]∧H' L=some (.lst (es.map bnV))∧es.length=n∧(∀ e∈es,BnAt H' e)∧qi7 es≤45∧(∀ j,i≤j→j<n→es[((q0+(j:Int)) % (n:Int)).toNat]?=some none)∧∀ j,j<i→∃ e,es[((q0+(j:Int)) % (n:Int)).toNat]?=some (some e))
  ⟨s01,List.replicate n none,none,none,none,none,by rw [qp9]; rfl,by rw [List.map_replicate]; exact hL,List.length_replicate,fun e he=>by rw [(List.mem_replicate.mp he).2]; trivial,by rw [qp9]; decide,fun j _ lj=>?_,fun j lj=>by omega⟩ (fun i σ H2 hi pv=>?_) (fun σ H2 pv=>?_)
 ·have b0:=Int.emod_nonneg (q0+(j:Int)) (show (n:Int)≠0 by omega)
  have b1:=Int.emod_lt_of_pos (q0+(j:Int)) (show (0:Int)<(n:Int) by omega);rw [List.getElem?_replicate,if_pos (by omega)]
 ·obtain ⟨sm,es,y5,y6,y7,y8,rfl,hL2,el,eok,p45,unset,isset⟩:=pv
  have b0:=Int.emod_nonneg (q0+(i:Int)) (show (n:Int)≠0 by omega);have b1:=Int.emod_lt_of_pos (q0+(i:Int)) (show (0:Int)<(n:Int) by omega);obtain ⟨b,eb⟩:=Int.eq_ofNat_of_zero_le b0;have eb:(q0+(i:Int)) % (n:Int)=(b:Int):=eb;have un:=unset i (Nat.le_refl _) hi;rw [eb,Int.toNat_natCast] at un;simp only [Int.zero_add];walk_at "s";refine spCell.go (sm.seq hS) (by decide) ?_;walk_at "s";rw [eq0];refine ⟨⟨by decide,by decide⟩,by omega,?_⟩;rw [eb];refine ⟨.inl ⟨by decide,by decide⟩,?_⟩;refine spCell.go (sm.seq hS) (by omega) ?_;walk_at "s";generalize cell ns (8+2 * (b:Int))=cc;refine LstR.go (by simp) fun l3 n3=>?_;have s3:=qe n3 (.lst [.int 0,.int 1,.int 1,.int 2]);have h3:=qb0 (H:=H2) (a:=l3) (o:=.lst [.int 0,.int 1,.int 1,.int 2]);have hL3:=s3 _ _ hL2;have sm3:=sm.trans s3;have eok3:∀ e∈es,BnAt (upd H2 l3 (.lst [.int 0,.int 1,.int 1,.int 2])) e:=fun e he=>(eok e he).mono fun _ _ z=>s3 _ _ z;generalize upd H2 l3 (.lst [.int 0,.int 1,.int 1,.int 2])=H3 at *;have w0:=Int.emod_nonneg cc (show (4:Int)≠0 by decide);have w1:=Int.emod_lt_of_pos cc (show (0:Int)<4 by decide);obtain ⟨m,em⟩:=Int.eq_ofNat_of_zero_le w0;have em:cc % 4=(m:Int):=em
  obtain ⟨w',ew,w2⟩:∃ w':Nat,([.int 0,.int 1,.int 1,.int 2]:List V)[m]?=some (.int (w':Int))∧w'≤2:=by
   have:m=0∨m=1∨m=2∨m=3:=by omega
   rcases this with rfl | rfl | rfl | rfl
   ·exact ⟨0,rfl,by decide⟩
   ·exact ⟨1,rfl,by decide⟩
   ·exact ⟨1,rfl,by decide⟩
   ·exact ⟨2,rfl,by decide⟩
  refine ⟨by decide,?_⟩;rw [em];refine qw2 (SqL.of h3) ew ?_;walk_at "s";refine ⟨.inl ⟨by decide,by decide⟩,.inl ⟨by omega,by omega⟩,?_⟩;refine qeg (fun c' σ' H'=>H'=H3∧∃ w':Nat,w'≤2∧(qi7 es:Int) * (1+2 * (w':Int))≤45∧σ'=[some (.ref a),some (.ref ml),some (.int (n:Int)),some (.ref L),some (.int (qi7 es:Int)),some (.int (i:Int)),some (.int (b:Int)),some (.int cc),some (.int (w':Int))]) (fun z=>⟨rfl,w',w2,by have:=of_decide_eq_false z; omega,rfl⟩) (fun c' σ' H4 ec' st=>?_) fun _ N go=>?_
  ·obtain ⟨rfl,w',w2,w45,rfl⟩:=st
   walk_at "s";refine ⟨.inl ⟨by decide,by decide⟩,.inl ⟨by omega,by omega⟩,⟨by decide,by decide⟩,?_⟩;refine ⟨ml,ms,_,w',rfl,sm3 _ _ hm,mok,w2,fun p bs H5 np s5 hp nar=>?_⟩;have hL5:=s5 _ _ hL3;refine qzp hL5 (by rw [List.length_map,el]; omega) ?_;have ep:qi7 (es.set b (some (p,bs,w')))=(1+2 * w') * qi7 es:=qrh _ un;have kp:∀ a xs,H5 a=some (.tup xs)→upd H5 L (.lst ((es.map bnV).set b (.ref p))) a=some (.tup xs):=qu2 hL5;refine ⟨(sm3.trans s5).put nL0,es.set b (some (p,bs,w')),some (.int (i:Int)),some (.int (b:Int)),some (.int cc),some (.int (w':Int)),?_,?_,by rw [List.length_set,el],fun e he=>?_,?_,fun j lj hj=>?_,fun j lj=>?_⟩
   ·rw [ep,Int.mul_comm]
    rfl
   ·rw [qb0,List.map_set]
    rfl
   ·rcases List.mem_or_eq_of_mem_set he with h | rfl
    ·exact ((eok3 e h).mono fun _ _ z=>s5 _ _ z).mono kp
    ·exact ⟨hp.mono kp,nar⟩
   ·rw [ep]
    have:((1+2 * w':Nat):Int) * (qi7 es:Int)≤45:=by rw [Int.mul_comm]; exact w45
    omega
   ·have ne:=mod_ne (q0:=q0) hi hj (by omega)
    rw [eb] at ne;have b2:=Int.emod_nonneg (q0+(j:Int)) (show (n:Int)≠0 by omega);rw [List.getElem?_set_ne (by omega)];exact unset j (by omega) hj
   ·by_cases c:j=i
    ·subst c
     rw [eb,Int.toNat_natCast,List.getElem?_set_self (by omega)];exact ⟨_,rfl⟩
    ·have ne:=mod_ne (q0:=q0) hi (show j<n by omega) (by omega)
     rw [eb] at ne;have b2:=Int.emod_nonneg (q0+(j:Int)) (show (n:Int)≠0 by omega);rw [List.getElem?_set_ne (by omega)];exact isset j (by omega)
  ·walk_at "s"
   exact go _ _ ⟨rfl,0,by decide,by omega,rfl⟩
 ·obtain ⟨sm,es,y5,y6,y7,y8,rfl,hL2,el,eok,p45,unset,isset⟩:=pv
  walk_at "s"
  obtain ⟨fs,rfl⟩:=qym (es:=es) fun x hx=>by
   obtain ⟨j,lj,ej⟩:=mod_hit (q0:=q0) (show x<n by omega);obtain ⟨e,ee⟩:=isset j lj;rw [ej,Int.toNat_natCast] at ee;exact ⟨e,ee⟩
  rw [List.length_map] at el;refine q L fs H2 nL0 sm ?_ el (fun e he=>eok (some e) (List.mem_map_of_mem he)) ?_
  ·rw [hL2,List.map_map]
   rfl
  ·rw [← qae]
   exact p45
structure Txt (K:W.Frag)(cRu cWo cBa cCa:Addr):Prop where
 pg_Rule:PySem.W.plainGet K cRu Str.empty=true
 hd_Rule:PySem.W.hasDictIn K cRu=true
 po_Rule:PySem.W.plainOver K cRu=true
 sa_Rule:PySem.W.findIn K (.ref cRu) "__setattr__"=some (some (.builtin "object.__setattr__"))
 cl_Rule:PySem.W.findIn K (.ref cRu) "__class__"=some (some (.builtin "object.__class__"))
 ob_Rule:PySem.W.mroIn K cRu (.type "object")=some true
 nb_Rule:PySem.W.findIn K (.ref cRu) "box"=some none
 mk_Rule:PySem.W.makesIn K cRu=true
 kp_Rule:PySem.W.keepIn K (.ref cRu)=true
 pg_Word:PySem.W.plainGet K cWo Str.empty=true
 hd_Word:PySem.W.hasDictIn K cWo=true
 po_Word:PySem.W.plainOver K cWo=true
 sa_Word:PySem.W.findIn K (.ref cWo) "__setattr__"=some (some (.builtin "object.__setattr__"))
 cl_Word:PySem.W.findIn K (.ref cWo) "__class__"=some (some (.builtin "object.__class__"))
 ob_Word:PySem.W.mroIn K cWo (.type "object")=some true
 nb_Word:PySem.W.findIn K (.ref cWo) "box"=some none
 mk_Word:PySem.W.makesIn K cWo=true
 kp_Word:PySem.W.keepIn K (.ref cWo)=true
 pg_Back:PySem.W.plainGet K cBa Str.empty=true
 hd_Back:PySem.W.hasDictIn K cBa=true
 po_Back:PySem.W.plainOver K cBa=true
 sa_Back:PySem.W.findIn K (.ref cBa) "__setattr__"=some (some (.builtin "object.__setattr__"))
 cl_Back:PySem.W.findIn K (.ref cBa) "__class__"=some (some (.builtin "object.__class__"))
 ob_Back:PySem.W.mroIn K cBa (.type "object")=some true
 nb_Back:PySem.W.findIn K (.ref cBa) "box"=some none
 mk_Back:PySem.W.makesIn K cBa=true
 kp_Back:PySem.W.keepIn K (.ref cBa)=true
 pg_Call:PySem.W.plainGet K cCa Str.empty=true
 hd_Call:PySem.W.hasDictIn K cCa=true
 po_Call:PySem.W.plainOver K cCa=true
 sa_Call:PySem.W.findIn K (.ref cCa) "__setattr__"=some (some (.builtin "object.__setattr__"))
 cl_Call:PySem.W.findIn K (.ref cCa) "__class__"=some (some (.builtin "object.__class__"))
 ob_Call:PySem.W.mroIn K cCa (.type "object")=some true
 nb_Call:PySem.W.findIn K (.ref cCa) "box"=some none
 mk_Call:PySem.W.makesIn K cCa=true
 kp_Call:PySem.W.keepIn K (.ref cCa)=true
 nw:PySem.W.findIn K (.ref cWo) "word"=some none
 nn:PySem.W.findIn K (.ref cCa) "name"=some none
 gs:PySem.W.specialIn K (.builtin "object.__class__") "__get__"=some (some (.builtin "getset_descriptor.__get__"))
 tk:PySem.W.takesIn K (.builtin "object.__class__")=some true
 i_Word_Rule:PySem.W.kitOne K (.ref cWo) (.ref cRu)=some true
 i_Word_Word:PySem.W.kitOne K (.ref cWo) (.ref cWo)=some true
 i_Word_Back:PySem.W.kitOne K (.ref cWo) (.ref cBa)=some false
 i_Word_Call:PySem.W.kitOne K (.ref cWo) (.ref cCa)=some false
 i_Back_Rule:PySem.W.kitOne K (.ref cBa) (.ref cRu)=some true
 i_Back_Word:PySem.W.kitOne K (.ref cBa) (.ref cWo)=some false
 i_Back_Back:PySem.W.kitOne K (.ref cBa) (.ref cBa)=some true
 i_Back_Call:PySem.W.kitOne K (.ref cBa) (.ref cCa)=some false
 i_Call_Rule:PySem.W.kitOne K (.ref cCa) (.ref cRu)=some true
 i_Call_Word:PySem.W.kitOne K (.ref cCa) (.ref cWo)=some false
 i_Call_Back:PySem.W.kitOne K (.ref cCa) (.ref cBa)=some false
 i_Call_Call:PySem.W.kitOne K (.ref cCa) (.ref cCa)=some true
section
variable {cRu cWo cBa cCa:Addr}
theorem Txt.cls_Word (T:Txt K cRu cWo cBa cCa):Cls K cWo:=⟨T.pg_Word,T.hd_Word,T.po_Word,T.sa_Word⟩
theorem Txt.cls_Back (T:Txt K cRu cWo cBa cCa):Cls K cBa:=⟨T.pg_Back,T.hd_Back,T.po_Back,T.sa_Back⟩
theorem Txt.cls_Call (T:Txt K cRu cWo cBa cCa):Cls K cCa:=⟨T.pg_Call,T.hd_Call,T.po_Call,T.sa_Call⟩
end
inductive Rl where
 | word (w:Str)
 | back
 | call (n:Str)
def Rl.fs (p:Addr):Rl→List (Str×V)
 | .word w=>[("box",.ref p),("word",.str w)]
 | .back=>[("box",.ref p)]
 | .call n=>[("box",.ref p),("name",.str n)]
def Rl.told (p:Addr):Rl→List V
 | .word w=>[.str w,.ref p]
 | .back=>[.str "back",.ref p]
 | .call n=>[.str "call",.ref p,.str n]
def Rl.cls (cWo cBa cCa:Addr):Rl→Addr
 | .word _=>cWo
 | .back=>cBa
 | .call _=>cCa
def Rl.ok:Rl→Prop
 | .word w=>w≠"back"∧w≠"call"∧w.length≤1000∧PyData.strOk w=true
 | .back=>True
 | .call n=>n.length≤1000∧PyData.strOk n=true
theorem qvd:("box":Str)≠"word":=by decide
theorem qd6:("box":Str)≠"name":=by decide
theorem put_new (f:Str)(v:V):putF f v []=[(f,v)]:=rfl
theorem qgk {f g:Str}(h:g≠f)(v x:V):putF f v [(g,x)]=[(g,x),(f,v)]:=by
 simp only [putF,if_neg h]
theorem qb8 (f:Str)(v:V)(r:List (Str×V)):((f,v)::r).lookup f=some v:=by
 rw [List.lookup_cons,beq_self_eq_true]
theorem qg9 {f g:Str}(h:f≠g)(v x:V):[(g,x),(f,v)].lookup f=some v:=by
 rw [List.lookup_cons,beq_eq_false_iff_ne.mpr h];exact qb8 f v []
theorem Rl.box (p:Addr):∀ r:Rl,(r.fs p).lookup ("box":Str)=some (.ref p)
 | .word _=>qb8 _ _ _
 | .back=>qb8 _ _ _
 | .call _=>qb8 _ _ _
theorem Rl.none {m:Str}(h1:m≠"box")(h2:m≠"word")(h3:m≠"name")(p:Addr):∀ r:Rl,(r.fs p).lookup m=none:=fun r=>by
 have e:∀ (g:Str) (v:V) (l:List (Str×V)),m≠g→((g,v)::l).lookup m=l.lookup m:=fun g v l h=>by rw [List.lookup_cons,beq_eq_false_iff_ne.mpr h]
 cases r with
 | word w=>rw [Rl.fs,e _ _ _ h1,e _ _ _ h2]; rfl
 | back=>rw [Rl.fs,e _ _ _ h1]; rfl
 | call n=>rw [Rl.fs,e _ _ _ h1,e _ _ _ h3]; rfl
def IsRule (cWo cBa cCa:Addr)(H:Hp)(a:Addr)(r:Rl)(p:Addr):Prop:=∃ dx,H a=some (.ins (r.cls cWo cBa cCa) dx (r.fs p))
theorem IsRule.same {cWo cBa cCa:Addr}{r:Rl}{H H':Hp}(h:IsRule cWo cBa cCa H a r p)(s:Same H H'):IsRule cWo cBa cCa H' a r p:=by
 obtain ⟨dx,h⟩:=h;exact ⟨dx,s _ _ h⟩
def qnb (K:W.Frag):Sp:=fun vs H Q _=>∃ (a p C dx:Addr),vs=[.ref a,.ref p]∧H a=some (.ins C dx [])∧Cls K C∧NoAttr K C "box"∧Q .non (upd H a (.ins C dx [("box",.ref p)]))
theorem qm7 (F:Fun K "__init__" "Rule.__init__" qx1 f fd):FnOk P w K mg base CX0 1 f fd ["self","box"] (qnb K):=by
 refine F.ok qpa (by walk_at "l") (fun cdv A outer s H vs Q E hr h=>?_);obtain ⟨a,p,C,dx,rfl,ha,cl,na,q⟩:=h;refine ⟨_,(qg (qzd (pv 0) (pv 1) rfl)),?_⟩;rw [qka];walk_at "s";exact SFldR.go ha cl na (by simp) q
def qm9 (K:W.Frag)(C:Addr)(f:Str):Sp:=fun vs H Q _=>∃ (a p dx:Addr) (w:Str),vs=[.ref a,.ref p,.str w]∧H a=some (.ins C dx [])∧Q .non (upd H a (.ins C dx [("box",.ref p),(f,.str w)]))
section
variable {cRu cWo cBa cCa:Addr}
theorem qci (F:Fun K "__init__" "Word.__init__" qy2 f fd)(gc_Rule___init__:FnC P w K mg base cRu "__init__" 1 ["self","box"] (qnb K))(m_Rule:mg "Rule"=some (.ref cRu))(T:Txt K cRu cWo cBa cCa):FnOk P w K mg base CX0 2 f fd ["self","box","word"] (qm9 K cWo "word"):=by
 refine F.ok qoa (by walk_at "l") (fun _ _ _ _ H _ Q E hr h=>?_);obtain ⟨a,p,dx,w,rfl,ha,q⟩:=h;refine ⟨_,(qc (qn2 (pe_cm (qu3 (v:=.ref cRu) rfl m_Rule rfl) gc_Rule___init__ hr (by decide) (qa (pv 0) (qa (pv 1) qd)))) (qg (qzd (pv 0) (pv 2) rfl))),?_⟩;rw [qja];walk_at "s";refine ⟨a,p,cWo,dx,rfl,ha,T.cls_Word,T.nb_Word,?_⟩;walk_at "s";refine SFldR.go qb0 T.cls_Word T.nw (by simp) ?_;rw [qz6,qgk qvd];exact q
theorem qdi (F:Fun K "__init__" "Call.__init__" qz2 f fd)(gc_Rule___init__:FnC P w K mg base cRu "__init__" 1 ["self","box"] (qnb K))(m_Rule:mg "Rule"=some (.ref cRu))(T:Txt K cRu cWo cBa cCa):FnOk P w K mg base CX0 2 f fd ["self","box","name"] (qm9 K cCa "name"):=by
 refine F.ok qqa (by walk_at "l") (fun _ _ _ _ H _ Q E hr h=>?_);obtain ⟨a,p,dx,w,rfl,ha,q⟩:=h;refine ⟨_,(qc (qn2 (pe_cm (qu3 (v:=.ref cRu) rfl m_Rule rfl) gc_Rule___init__ hr (by decide) (qa (pv 0) (qa (pv 1) qd)))) (qg (qzd (pv 0) (pv 2) rfl))),?_⟩;rw [qla];walk_at "s";refine ⟨a,p,cCa,dx,rfl,ha,T.cls_Call,T.nb_Call,?_⟩;walk_at "s";refine SFldR.go qb0 T.cls_Call T.nn (by simp) ?_;rw [qz6,qgk qd6];exact q
theorem qw7 {H:Hp}{x dx:Addr}{o o':HO}(nx:H x=none)(nd:H dx=none)(ne:dx≠x):Same H (upd (upd H dx o) x o'):=(qe nd o).trans (qe (by rw [qt ne.symm]; exact nx) o')
def qcf (cWo cBa cCa:Addr):Sp:=fun vs H Q _=>∃ (t p:Addr) (r:Rl),vs=[.ref t]∧H t=some (.tup (r.told p))∧r.ok∧∀ a H',H a=none→Same H H'→IsRule cWo cBa cCa H' a r p→Q (.ref a) H'
theorem qvn (F:Fun K "rule_of" "rule_of" qd7 f fd)(gi_Back:FnI P w K mg base cBa 1 ["self","box"] (qnb K))(gi_Word:FnI P w K mg base cWo 2 ["self","box","word"] (qm9 K cWo "word"))(gi_Call:FnI P w K mg base cCa 2 ["self","box","name"] (qm9 K cCa "name"))
  (m_Back:mg "Back"=some (.ref cBa)) (m_Word:mg "Word"=some (.ref cWo)) (m_Call:mg "Call"=some (.ref cCa)) (T:Txt K cRu cWo cBa cCa):FnOk P w K mg base CX0 4 f fd ["told"] (qcf cWo cBa cCa):=by
 refine F.ok qgn (by walk_at "l") (fun _ _ _ _ H _ Q E hr h=>?_);obtain ⟨t,p,r,rfl,ht,ok,q⟩:=h;refine ⟨_,(qc (ql1 (qk qq4 (qq ql0 (pv 0) qf (fun _ _=>rfl)) qq1 (qs0 _)) (qg (qm (qbe gi_Back hr (by decide) rfl m_Back (qa (qq ql0 (pv 0) qf (fun _ _=>rfl)) qd)))) qn0) (qc (ql1 (qk qq4 (qq ql0 (pv 0) qf (fun _ _=>rfl)) qq1 (qs0 _)) (qg (qm (qbe gi_Call hr (by decide) rfl m_Call (qa (qq ql0 (pv 0) qf (fun _ _=>rfl)) (qa (qq ql0 (pv 0) qf (fun _ _=>rfl)) qd))))) qn0) (qg (qm (qbe gi_Word hr (by decide) rfl m_Word (qa (qq ql0 (pv 0) qf (fun _ _=>rfl)) (qa (qq ql0 (pv 0) qf (fun _ _=>rfl)) qd))))))),?_⟩;rw [qbn]
 cases r with
 | word w =>
  obtain ⟨n1,n2,_⟩:=ok;simp only [Rl.told] at ht;walk_at "ix";rw [decide_eq_false n1];walk_at "ix";rw [decide_eq_false n2];walk_at "ix";intro x dx nx nd ne;refine ⟨x,p,dx,w,rfl,qb0,rfl,?_⟩;rw [qz6];exact q x _ nx (qw7 nx nd ne) ⟨dx,qb0⟩
 | back =>
  simp only [Rl.told] at ht;walk_at "ix";intro x dx nx nd ne;refine ⟨x,p,cBa,dx,rfl,qb0,T.cls_Back,T.nb_Back,rfl,?_⟩;rw [qz6];exact q x _ nx (qw7 nx nd ne) ⟨dx,qb0⟩
 | call n =>
  simp only [Rl.told] at ht;walk_at "ix";rw [decide_eq_false (show ¬ ("call":Str)="back" by decide)];walk_at "ix";refine ixT_go (i:=2) (SqT.of ht) rfl ?_;intro x dx nx nd ne;refine ⟨x,p,dx,n,rfl,qb0,rfl,?_⟩;rw [qz6];exact q x _ nx (qw7 nx nd ne) ⟨dx,qb0⟩
end
abbrev Ru:=Rl×Addr
def qx2:Ru→Option Str
 | (.call n,_)=>some n
 | _=>none
def qu (us:List Ru):List Str:=us.filterMap qx2
section
variable {cRu cWo cBa cCa:Addr}
def RuAt (cWo cBa cCa:Addr)(H:Hp)(v:V)(u:Ru):Prop:=∃ a,v=.ref a∧IsRule cWo cBa cCa H a u.1 u.2
theorem RuAt.same {H H':Hp}{v:V}{u:Ru}(h:RuAt cWo cBa cCa H v u)(s:Same H H'):RuAt cWo cBa cCa H' v u:=by
 obtain ⟨a,e,h⟩:=h;exact ⟨a,e,h.same s⟩
def RusAt (cWo cBa cCa:Addr)(H:Hp)(vs:List V)(us:List Ru):Prop:=All2 (RuAt cWo cBa cCa H) vs us
theorem RusAt.same {H H':Hp}{vs:List V}{us:List Ru}(h:RusAt cWo cBa cCa H vs us)(s:Same H H'):RusAt cWo cBa cCa H' vs us:=All2.imp h fun _ _ r=>r.same s
def qfi (H:Hp):V→Option V
 | .ref a=>match H a with
  | some (.ins _ _ fs)=>fs.lookup ("name":Str)
  | _=>none
 | _=>none
theorem qyf {H:Hp}{v:V}{u:Ru}(h:RuAt cWo cBa cCa H v u):qfi H v=(qx2 u).map V.str:=by
 obtain ⟨a,rfl,dx,h⟩:=h;obtain ⟨r,p⟩:=u;simp only [qfi,h]
 cases r with
 | word w=>rfl
 | back=>rfl
 | call n=>exact qg9 qd6.symm _ _
theorem qok {H:Hp}{vs:List V}{us:List Ru}(h:RusAt cWo cBa cCa H vs us):(vs.filter fun v=>(qfi H v).isSome).map (fun v=>(qfi H v).getD .non)=(qu us).map V.str:=by
 induction h with
 | nil=>rfl
 | @cons v u vs us h _ ih =>
  have e:=qyf h;unfold qu at ih ⊢;rw [List.filter_cons,List.filterMap_cons]
  cases c:qx2 u with
  | none =>
   rw [c] at e;rw [e];exact ih
  | some n =>
   rw [c] at e;rw [e];show (qfi H v).getD .non::_=V.str n::_;rw [e,ih];rfl
theorem Txt.tyOf (T:Txt K cRu cWo cBa cCa){H:Hp}{r:Rl}(h:IsRule cWo cBa cCa H a r p):∃ t,TyOf K H (.ref a) t∧W.kitOne K t (.ref cCa)=some (qx2 (r,p)).isSome:=by
 obtain ⟨dx,h⟩:=h
 cases r with
 | word w=>exact ⟨_,.ins h T.cls_Word T.cl_Word T.gs T.tk T.ob_Word,T.i_Word_Call⟩
 | back=>exact ⟨_,.ins h T.cls_Back T.cl_Back T.gs T.tk T.ob_Back,T.i_Back_Call⟩
 | call n=>exact ⟨_,.ins h T.cls_Call T.cl_Call T.gs T.tk T.ob_Call,T.i_Call_Call⟩
def qy8 (cWo cBa cCa:Addr):Sp:=fun vs H Q _=>∃ (l:Addr) (rs:List V) (us:List Ru),vs=[.ref l]∧H l=some (.lst rs)∧RusAt cWo cBa cCa H rs us∧us.length≤1000∧∀ D H',H D=none→Same H H'→H' D=some (.lst ((qu us).map V.str))→Q (.ref D) H'
theorem qnc (F:Fun K "called_names" "called_names" qr2 f fd)(b_isinstance:mg "isinstance"=none)(m_Call:mg "Call"=some (.ref cCa))(T:Txt K cRu cWo cBa cCa):FnOk P w K mg base CX0 1 f fd ["rules"] (qy8 cWo cBa cCa):=by
 refine F.ok qob (by walk_at "l") (fun cdv A outer s H vs Q E hr h=>?_);obtain ⟨l,rs,us,rfl,hl,ru,len,q⟩:=h;refine ⟨_,(qg (qm (qa6 (T:=["rule"]) (cap:=[]) rfl (COk.of (out:=qh qr2) (N:=["rules"]) rfl rfl (by decide +kernel)) (ql3 (pv 0)) (fun _ _ _=>(qp (i:=0) (show List.Nodup (["rule"]:List Str) by decide +kernel) rfl (Or.inl rfl))) (fun _ _ _=>(qzl (qh6 (qy (qmo (K:=K) rfl) rfl b_isinstance qo2 (qa (pv 0) (qa (qu3 (v:=.ref cCa) rfl m_Call rfl) qd)))))) (fun _ _ _=>(pe_fldK (K:=K) rfl (pv 0) rfl))))),?_⟩;rw [qcb];walk_at "s";refine IlR.go (SqL.of hl) ?_;refine CmpR.filt (fun v=>(qfi H v).isSome) (fun v=>(qfi H v).getD .non) itl (by rw [ru.len]; exact len) (fun H' s=>SqL.of (s _ _ hl)) (fun x H' Q' hx sm k=>?_) (fun x H' Q' hx hp sm k=>?_) fun D H' nD sm hD=>?_
 ·obtain ⟨i,hi⟩:=List.getElem?_of_mem hx
  obtain ⟨u,_,r⟩:=All2.at ru hi;have e:=qyf r;obtain ⟨a,rfl,r⟩:=r;obtain ⟨t,ty,kt⟩:=T.tyOf (r.same sm);walk_at "s";refine ⟨_,_,t,_,rfl,ty,kt,?_⟩
  have e2:(qx2 (u.1,u.2)).isSome=(qfi H (.ref a)).isSome:=by rw [e,Option.isSome_map]
  rw [e2];exact ⟨_,rfl,k H' (Same.refl _)⟩
 ·obtain ⟨i,hi⟩:=List.getElem?_of_mem hx
  obtain ⟨u,_,r⟩:=All2.at ru hi;have e:=qyf r;obtain ⟨a,rfl,dx,r⟩:=r;obtain ⟨r',p⟩:=u;have ha:=sm _ _ r;walk_at "s"
  cases r' with
  | word w=>rw [e] at hp; cases hp
  | back=>rw [e] at hp; cases hp
  | call n =>
   refine FldR.go ha T.cls_Call T.nn (qg9 qd6.symm _ _) ?_;have:=k H' (Same.refl _);rw [e] at this;exact this
 ·rw [qok ru] at hD
  exact q D H' nD sm hD
theorem qxr {p:Str×V}(nd:(ps.map (·.1)).Nodup)(h:p∈ps):ps.lookup p.1=some p.2:=by
 induction ps with
 | nil=>cases h
 | cons q r ih =>
  rw [List.map_cons,List.nodup_cons] at nd;rw [List.lookup_cons]
  rcases List.mem_cons.mp h with rfl | h
  ·rw [beq_self_eq_true]
  ·have ne:p.1≠q.1:=fun e=>nd.1 (e▸List.mem_map_of_mem h)
   rw [beq_eq_false_iff_ne.mpr ne];exact ih nd.2 h
theorem qtk {z:Str}(h:z∉ps.map (·.1)):ps.lookup z=none:=by
 induction ps with
 | nil=>rfl
 | cons q r ih =>
  rw [List.map_cons,List.mem_cons,not_or] at h;rw [List.lookup_cons,beq_eq_false_iff_ne.mpr h.1];exact ih h.2
theorem qem {z:Str}(nd:(ps.map (·.1)).Nodup)(h:z∈ps.map (·.1)):∃ v,(z,v)∈ps∧ps.lookup z=some v:=by
 obtain ⟨p,hp,rfl⟩:=List.mem_map.mp h;exact ⟨p.2,hp,qxr nd hp⟩
theorem quk (nd:(ps.map (·.1)).Nodup)(z:Str):(ps.lookup z).isSome=decide (z∈ps.map (·.1)):=by
 by_cases h:z∈ps.map (·.1)
 ·obtain ⟨v,_,e⟩:=qem nd h
  rw [e,decide_eq_true h];rfl
 ·rw [qtk h,decide_eq_false h]
  rfl
theorem qs9 (nd:zs.Nodup){z:Str}(h:zs[i]?=some z):z∉zs.take i:=fun hm=>by
 obtain ⟨j,hj⟩:=List.getElem?_of_mem hm;rw [List.getElem?_take] at hj
 split at hj
 ·have lt:=(List.getElem?_eq_some_iff.mp h).1
  have e:=(List.getElem?_inj lt nd).mp (h.trans hj.symm);omega
 ·cases hj
def spTwo:Sp:=fun vs H Q _=>∃ (l:Addr) (zs:List Str),vs=[.ref l]∧H l=some (.lst (zs.map V.str))∧zs.Nodup∧∀ H',Same H H'→Q .non H'
theorem ok_two (F:Fun K "refuse_two_chains" "refuse_two_chains" qw1 f fd)(b_enumerate:mg "enumerate"=none):FnOk P w K mg base CX0 1 f fd ["names"] spTwo:=by
 refine F.ok qi3 (by walk_at "l") (fun _ _ _ _ H _ Q E hr h=>?_);obtain ⟨l,zs,rfl,hl,nd,q⟩:=h;refine ⟨_,(qg (qb3 PassesOwn.never rfl (qik false rfl b_enumerate (qa (pv 0) qd)) (qj7 rfl (qx (qp (i:=1) qi3.nd rfl (Or.inl rfl)) (qx (qp (i:=2) qi3.nd rfl (Or.inl rfl)) qc5))) (qg (ql1 (qk (qfr (K:=K) rfl) (pv 2) (qj1 qs3 (pv 0) qa2 (qz1 (pv 1))) (by with_unfolding_all rfl)) (qg qta) qn0)))),?_⟩;rw [qc8];walk_at "s";refine EnuR.go (t:=false) (SqL.of hl) ?_;refine ForR.pairs ite (fun i σ H'=>Same H H'∧∃ y z,σ=[some (.ref l),y,z]) ⟨Same.refl _,_,_,rfl⟩ (fun i σ H' pv=>SqL.of (pv.1 _ _ hl)) (fun i y t σ H3 hy pv nt=>?_) (fun σ H3 pv=>?_)
 ·obtain ⟨sm,y1,z1,rfl⟩:=pv
  obtain ⟨v,ev,rfl⟩:=qbd hy;rw [List.getElem?_map] at ev;obtain ⟨z,ez,rfl⟩:=Option.map_eq_some_iff.mp ev;have st:=qe nt (.tup [.int (i:Int),.str z]);have lt:=(List.getElem?_eq_some_iff.mp ez).1;walk_at "s";refine PartR.go ?_;refine qwp (SqL.of (st _ _ (sm _ _ hl))) (by rw [List.length_map]; omega) fun m nm=>?_;rw [← List.map_take];have s5:=qe nm (.lst ((zs.take i).map V.str));refine inR_go (SqL.of qb0) ?_;rw [if_neg Bool.false_ne_true,decide_eq_false (qs9 nd ez)];walk_at "s";exact ⟨(sm.trans st).trans s5,_,_,rfl⟩
 ·exact q _ pv.1
abbrev Chs:=List (Str×List Ru)
def ChAt (cWo cBa cCa:Addr)(H:Hp)(p:Str×V)(c:Str×List Ru):Prop:=p.1=c.1∧c.2.length≤1000∧∃ l rs,p.2=.ref l∧H l=some (.lst rs)∧RusAt cWo cBa cCa H rs c.2
theorem ChAt.same {H H':Hp}{p:Str×V}{c:Str×List Ru}(h:ChAt cWo cBa cCa H p c)(s:Same H H'):ChAt cWo cBa cCa H' p c:=by
 obtain ⟨e,n,l,rs,e2,hl,r⟩:=h;exact ⟨e,n,l,rs,e2,s _ _ hl,r.same s⟩
def ChsAt (cWo cBa cCa:Addr)(H:Hp)(ps:List (Str×V))(cs:Chs):Prop:=All2 (ChAt cWo cBa cCa H) ps cs
theorem ChsAt.same {H H':Hp}{cs:Chs}(h:ChsAt cWo cBa cCa H ps cs)(s:Same H H'):ChsAt cWo cBa cCa H' ps cs:=All2.imp h fun _ _ r=>r.same s
theorem ChsAt.keys {H:Hp}{cs:Chs}(h:ChsAt cWo cBa cCa H ps cs):ps.map (·.1)=cs.map (·.1):=by
 induction h with
 | nil=>rfl
 | cons h _ ih=>rw [List.map_cons,List.map_cons,h.1,ih]
theorem ChsAt.look {H:Hp}{cs:Chs}{c:Str×List Ru}(h:ChsAt cWo cBa cCa H ps cs)(nd:(cs.map (·.1)).Nodup)(hc:c∈cs):∃ l rs,ps.lookup c.1=some (.ref l)∧H l=some (.lst rs)∧RusAt cWo cBa cCa H rs c.2∧c.2.length≤1000:=by
 obtain ⟨i,hi⟩:=List.getElem?_of_mem hc;obtain ⟨p,hp,e,n,l,rs,e2,hl,r⟩:=All2.ix h hi;refine ⟨l,rs,?_,hl,r,n⟩;rw [← e,← e2];exact qxr (h.keys▸nd) (List.mem_of_getElem? hp)
def qha (cs:Chs):Prop:=∀ c∈cs,∀ n∈qu c.2,n∈cs.map (·.1)
theorem ChAt.upd {H:Hp}{d:Addr}{o:HO}{p:Str×V}{c:Str×List Ru}(h:ChAt cWo cBa cCa H p c)(hd:H d=some (.dK kvs)):ChAt cWo cBa cCa (L2.upd H d o) p c:=by
 obtain ⟨e,n,l,rs,e2,hl,r⟩:=h;refine ⟨e,n,l,rs,e2,?_,All2.imp r fun v u ru=>?_⟩
 ·rw [qt (qmk hl hd (by intro z; cases z))]
  exact hl
 ·obtain ⟨a,ea,dx,ha⟩:=ru
  refine ⟨a,ea,dx,?_⟩;rw [qt (qmk ha hd (by intro z; cases z))];exact ha
def qlb (cWo cBa cCa:Addr):Sp:=fun vs H Q _=>∃ (d:Addr) (ps:List (Str×V)) (cs:Chs),vs=[.ref d]∧H d=some (.dK (Dk ps))∧ChsAt cWo cBa cCa H ps cs∧(cs.map (·.1)).Nodup∧qha cs∧∀ o H',Same (upd H d (.frz o (.dK (Dk ps)))) H'→Q .non H'
theorem qyn (F:Fun K "refuse_missing_chains" "refuse_missing_chains" qi1 f fd)(g_called_names:Fn P w K mg base "called_names" 1 ["rules"] (qy8 cWo cBa cCa)):FnOk P w K mg base CX0 2 f fd ["chains"] (qlb cWo cBa cCa):=by
 refine F.ok qk2 (by walk_at "l") (fun _ _ _ _ H _ Q E hr h=>?_);obtain ⟨d,ps,cs,rfl,hd,hc,nd,cl,q⟩:=h;refine ⟨_,(qg (qb3 PassesOwn.never rfl (qtq (pv 0)) (qp (i:=1) qk2.nd rfl (Or.inl rfl)) (qg (qb3 PassesOwn.never rfl (ql3 (qf1 g_called_names hr (by decide) rfl (qa (qk7 (qu9 hr) (pv 0) (pv 1) (fun _ _=>rfl)) qd))) (qp (i:=2) qk2.nd rfl (Or.inl rfl)) (qg (ql1 (qlq (qkc (qu9 hr) (pv 2) (pv 0))) (qg qta) qn0)))))),?_⟩;rw [qb6];walk_at "s";refine ⟨d,_,rfl,.inr ⟨hd,fun o=>?_⟩⟩;have hc0:ChsAt cWo cBa cCa (upd H d (.frz o (.dK (Dk ps)))) ps cs:=All2.imp hc fun _ _ r=>r.upd hd;have hd0:upd H d (.frz o (.dK (Dk ps))) d=some (.frz o (.dK (Dk ps))):=qb0;have q0:=q o;generalize upd H d (.frz o (.dK (Dk ps)))=H0 at *;refine ForR.items itd (fun i σ H'=>Same H0 H'∧∃ y z,σ=[some (.ref d),y,z]) ⟨Same.refl _,_,_,rfl⟩ (fun i σ H' pv=>pv.1 _ _ hd0) (fun i x σ H3 hx pv=>?_) (fun σ H3 pv=>?_)
 ·obtain ⟨sm,y1,z1,rfl⟩:=pv
  rw [qwt,hc0.keys,List.map_map,List.getElem?_map] at hx;obtain ⟨c,ec,rfl⟩:=Option.map_eq_some_iff.mp hx;have mem:=List.mem_of_getElem? ec;have hc3:=hc0.same sm;have hd3:DicS H3 d ps:=.inr ⟨o,sm _ _ hd0⟩;obtain ⟨l,rs,lk,hl,ru,n⟩:=hc3.look nd mem;show qb4 _ _ _ _ _;walk_at "s";refine qx5 hd3 lk ?_;refine ⟨l,rs,c.2,rfl,hl,ru,n,fun D H4 nD s4 hD=>?_⟩;refine IlR.go (SqL.of hD) ?_;refine ForR.items itl (fun i σ H'=>Same H4 H'∧∃ y,σ=[some (.ref d),some (.str c.1),y]) ⟨Same.refl _,_,rfl⟩ (fun i σ H' pv=>SqL.of (pv.1 _ _ hD)) (fun j x σ H5 hx pv=>?_) (fun σ H5 pv=>?_)
  ·obtain ⟨s5,y2,rfl⟩:=pv
   rw [List.getElem?_map] at hx;obtain ⟨m,em,rfl⟩:=Option.map_eq_some_iff.mp hx;have hm:=cl c mem m (List.mem_of_getElem? em);show qb4 _ _ _ _ _;walk_at "s";refine qal ((hd3.same s4).same s5) ?_;rw [if_pos rfl,quk (hc0.keys▸nd),hc0.keys,decide_eq_true hm];walk_at "s";exact ⟨s5,_,rfl⟩
  ·obtain ⟨s5,y2,rfl⟩:=pv
   exact ⟨(sm.trans s4).trans s5,_,_,rfl⟩
 ·exact q0 _ pv.1
def rdy (ks:List Str)(c:Str×List Ru):Bool:=!decide (c.1∈ks) && decide (∀ n∈qu c.2,n∈ks)
def qa3 (cs:Chs)(ks:List Str):List Str:=(cs.filter (rdy ks)).map (·.1)
theorem qea {cs:Chs}{c:Str×List Ru}(h:cs[i]?=some c):qa3 (cs.take (i+1)) ks=qa3 (cs.take i) ks++if rdy ks c=true then [c.1] else []:=by
 unfold qa3;rw [List.take_add_one,h,List.filter_append,List.map_append,Option.toList_some]
 congr 1
 cases hp:rdy ks c <;> simp [List.filter,hp]
theorem qjn (cs:Chs)(ks:List Str):(qa3 cs ks).length≤cs.length:=by
 unfold qa3;rw [List.length_map];exact List.length_filter_le _ _
def qw9 (cs:Chs):Prop:=(cs.map (·.1)).Nodup∧qha cs∧cs.length≤900∧∀ c∈cs,PyData.strOk c.1=true
def notIn (ks:List Str):V→Bool
 | .str z=>!decide (z∈ks)
 | _=>true
theorem qde (ks:List Str):∀ zs:List Str,((zs.map V.str).filter (notIn ks)).map (fun v=>v)=(zs.filter fun z=>!decide (z∈ks)).map V.str
 | []=>rfl
 | z::zs=>by
  have ih:=qde ks zs;rw [List.map_cons,List.filter_cons,List.filter_cons];show List.map _ (if (!decide (z∈ks))=true then _ else _)=_
  split
  ·rw [List.map_cons,List.map_cons,ih]
  ·exact ih
def qrj (cWo cBa cCa:Addr):Sp:=fun vs H Q _=>∃ (d ld:Addr) (o:Obj) (ps ls:List (Str×V)) (cs:Chs),vs=[.ref d,.ref ld]∧H d=some (.frz o (.dK (Dk ps)))∧ChsAt cWo cBa cCa H ps cs∧qw9 cs∧DicS H ld ls∧(ls.map (·.1)).Nodup ∧
 ∀ D H',H D=none→Same H H'→H' D=some (.lst ((qa3 cs (ls.map (·.1))).map V.str))→Q (.ref D) H'
theorem qmv (F:Fun K "ready_names" "ready_names" qf3 f fd)(g_called_names:Fn P w K mg base "called_names" 1 ["rules"] (qy8 cWo cBa cCa)):FnOk P w K mg base CX0 2 f fd ["chains","lengths"] (qrj cWo cBa cCa):=by
 refine F.ok qx4 (by walk_at "l") (fun cdv A outer s H vs Q E hr h=>?_);obtain ⟨d,ld,o,ps,ls,cs,rfl,hd,hc,⟨nd,cl,le,oks⟩,hld,lnd,q⟩:=h
 have mem_ok:∀ c∈cs,∀ n∈qu c.2,PyData.strOk n=true:=fun c hc n hn=>by
  obtain ⟨c',hc',e⟩:=List.mem_map.mp (cl c hc n hn);exact e▸oks c' hc'
 refine ⟨_,(qc (qi (i:=2) qx4.nd rfl (Or.inl rfl) (qe1 qd)) (qc (qb3 PassesOwn.never rfl (qtq (pv 0)) (qp (i:=3) qx4.nd rfl (Or.inl rfl)) (qc (qo9 (T:=["called"]) (cap:=[1]) (i:=4) rfl (COk.of (out:=qh qf3) (N:=["chains","lengths","ready","name","lacking"]) rfl rfl (by decide +kernel)) qx4.nd rfl (Or.inl rfl) (ql3 (qf1 g_called_names hr (by decide) rfl (qa (qk7 (qu9 hr) (pv 0) (pv 3) (fun _ _=>rfl)) qd))) (fun _ _ _=>(qp (i:=0) (show List.Nodup (["called","lengths"]:List Str) by decide +kernel) rfl (Or.inl rfl))) (fun _ _ _=>(qzl (qlq (qkc (qu9 hr) (pv 0) (pv 1))))) (fun _ _ _=>(pv 0))) (qg (ql1 (PW.pt (qfa (qlq (qkc (qu9 hr) (pv 3) (pv 1))) (qm8 (qk (qgr hr.units) (pv 4) (qe1 qd) (qs0 _))))) (qg (qn2 (qp8 PySem.F.plainAttrs_list PySem.F.slot_list_append PySem.F.type_list_append qr1 (pv 2) (qa (pv 3) qd)))) qn0)))) (qg (qm (pv 2))))),?_⟩;rw [qgd];walk_at "s";refine LstR.go (by simp) fun r nr=>?_;have s1:=qe nr (.lst []);walk_at "s";refine ⟨d,_,rfl,.inl ⟨o,s1 _ _ hd,?_⟩⟩;refine ForR.items itd (fun i σ H'=>Same H H'∧H' r=some (.lst ((qa3 (cs.take i) (ls.map (·.1))).map V.str))∧∃ y z,σ=[some (.ref d),some (.ref ld),some (.ref r),y,z]) ⟨s1,qb0,_,_,rfl⟩ (fun i σ H' pv=>pv.1 _ _ hd) (fun i x σ H3 hx pv=>?_) (fun σ H3 pv=>?_)
 ·obtain ⟨sm,hr3,y1,z1,rfl⟩:=pv
  rw [qwt,hc.keys,List.map_map,List.getElem?_map] at hx;obtain ⟨c,ec,rfl⟩:=Option.map_eq_some_iff.mp hx;have mem:=List.mem_of_getElem? ec;obtain ⟨l,rs,lk,hl,ru,n⟩:=(hc.same sm).look nd mem;show qb4 _ _ _ _ _;walk_at "s";refine qx5 (.inr ⟨o,sm _ _ hd⟩) lk ?_;refine ⟨l,rs,c.2,rfl,hl,ru,n,fun D H4 nD s4 hD=>?_⟩;refine IlR.go (SqL.of hD) ?_;have cle:(qu c.2).length≤1000:=Nat.le_trans (List.length_filterMap_le _ _) n;refine CmpR.filt (notIn (ls.map (·.1))) (fun v=>v) itl (by rw [List.length_map]; exact cle) (fun H' s=>SqL.of (s _ _ hD)) (fun x H' Q' hx s5 k=>?_) (fun x H' Q' hx hp s5 k=>?_) fun D2 H' nD2 s5 hD2=>?_
  ·obtain ⟨z,hz,rfl⟩:=List.mem_map.mp hx
   walk_at "s";refine qal (((hld.same sm).same s4).same s5) ?_;rw [if_pos rfl,quk lnd];walk_at "s";exact k H' (Same.refl _)
  ·obtain ⟨z,hz,rfl⟩:=List.mem_map.mp hx
   walk_at "s";exact k H' (Same.refl _)
  ·rw [qde] at hD2
   have sf:=(sm.trans s4).trans s5;have hr5:=s5 _ _ (s4 _ _ hr3);walk_at "s";refine qal (hld.same sf) ?_;rw [if_pos rfl,quk lnd]
   have fin:∀ (H6:Hp) (y z:Option V),Same H' H6→(rdy (ls.map (·.1)) c=false)→Same H H6∧H6 r=some (.lst ((qa3 (cs.take (i+1)) (ls.map (·.1))).map V.str))∧∃ y z,[some (V.ref d),some (.ref ld),some (.ref r),some (.str c.1),some (.ref D2)]=[some (V.ref d),some (.ref ld),some (.ref r),y,z]:=fun H6 y z s6 hf=>by
    refine ⟨sf.trans s6,?_,_,_,rfl⟩;rw [qea ec,hf,if_neg Bool.false_ne_true,List.append_nil];exact s6 _ _ hr5
   by_cases hm:c.1∈ls.map (·.1)
   ·rw [decide_eq_true hm]
    walk_at "s";refine fin H' none none (Same.refl _) ?_;unfold rdy;rw [decide_eq_true hm];rfl
   ·rw [decide_eq_false hm]
    walk_at "s";refine LstR.go (by simp) fun e ne=>?_;have s6:=qe ne (.lst []);have oke:∀ z∈(qu c.2).filter fun z=>!decide (z∈ls.map (·.1)),PyData.strOk z=true:=fun z hz=>mem_ok c mem z (List.mem_filter.mp hz).1;refine qpm (s6 _ _ hD2) qb0 oke ?_;rw [if_neg Bool.false_ne_true]
    have iff:((qu c.2).filter fun z=>!decide (z∈ls.map (·.1)))=[]↔∀ n∈qu c.2,n∈ls.map (·.1):=by
     rw [List.filter_eq_nil_iff];refine ⟨fun h n hn=>?_,fun h n hn=>?_⟩
     ·have:=h n hn
      simpa using this
     ·have:=h n hn
      simpa using this
    by_cases he:((qu c.2).filter fun z=>!decide (z∈ls.map (·.1)))=[]
    ·rw [decide_eq_true he]
     walk_at "s";have hr6:=s6 _ _ hr5;refine ⟨.inl ⟨rfl,_,SqL.of hr6⟩,?_⟩;have lr:=qjn (cs.take i) (ls.map (·.1));rw [List.length_take] at lr;refine qm6 hr6 (by rw [List.length_map]; omega) ?_;walk_at "s"
     have rd:rdy (ls.map (·.1)) c=true:=by
      unfold rdy;rw [decide_eq_false hm,decide_eq_true (iff.mp he)];rfl
     refine ⟨(sf.trans s6).put nr,?_,_,_,rfl⟩;rw [qb0,qea ec,rd,if_pos rfl,List.map_append];rfl
    ·rw [decide_eq_false he]
     walk_at "s";refine fin _ none none s6 ?_;unfold rdy;rw [decide_eq_false fun h=>he (iff.mpr h),Bool.and_false]
 ·obtain ⟨sm,hr3,y1,z1,rfl⟩:=pv
  rw [List.length_map] at hr3
  have e:(Dk ps).length=cs.length:=by
   unfold Dk;rw [List.length_map];exact All2.len hc
  rw [e,List.take_length] at hr3;walk_at "s";exact q r H3 nr sm hr3
structure Lens (cs:Chs)(len:Str→Int)(rank:Str→Nat):Prop where
 eq:∀ c∈cs,len c.1=(c.2.length:Int)+((qu c.2).map len).sum
 dn:∀ c∈cs,∀ n∈qu c.2,rank n<rank c.1
theorem all_in {cs:Chs}{rank:Str→Nat}(dn:∀ c∈cs,∀ n∈qu c.2,rank n<rank c.1)(cl:qha cs)(h:qa3 cs ks=[]):∀ m,∀ c∈cs,rank c.1<m→c.1∈ks:=by
 intro m
 induction m with
 | zero=>intro c _ lt; omega
 | succ m ih =>
  intro c hc lt;refine Classical.byContradiction fun no=>?_
  have all:∀ n∈qu c.2,n∈ks:=fun n hn=>by
   obtain ⟨c',hc',e⟩:=List.mem_map.mp (cl c hc n hn);have:=dn c hc n hn;rw [← e];exact ih c' hc' (by rw [e]; omega)
  have rd:rdy ks c=true:=by
   unfold rdy;rw [decide_eq_false no,decide_eq_true all];rfl
  have:c.1∈qa3 cs ks:=List.mem_map_of_mem (List.mem_filter.mpr ⟨hc,rd⟩);rw [h] at this;cases this
def LsOk (cs:Chs)(len:Str→Int)(ls:List (Str×V)):Prop:=(ls.map (·.1)).Nodup∧∀ p∈ls,p.1∈cs.map (·.1)∧p.2=.int (len p.1)
theorem LsOk.le {cs:Chs}{len:Str→Int}(h:LsOk cs len ls):ls.length≤cs.length:=by
 have:=List.Nodup.length_le_of_subset h.1 (l₂:=cs.map (·.1)) fun z hz=>by
  obtain ⟨p,hp,rfl⟩:=List.mem_map.mp hz;exact (h.2 p hp).1
 rw [List.length_map,List.length_map] at this;exact this
theorem LsOk.look {cs:Chs}{len:Str→Int}{z:Str}(h:LsOk cs len ls)(hz:z∈ls.map (·.1)):ls.lookup z=some (.int (len z)):=by
 obtain ⟨v,hv,e⟩:=qem h.1 hz;rw [e];exact congrArg some (h.2 _ hv).2
theorem LsOk.snoc {cs:Chs}{len:Str→Int}{z:Str}(h:LsOk cs len ls)(hz:z∈cs.map (·.1))(no:z∉ls.map (·.1)):LsOk cs len (ls++[(z,.int (len z))]):=by
 refine ⟨?_,fun p hp=>?_⟩
 ·rw [List.map_append]
  exact qnk h.1 no
 ·rcases List.mem_append.mp hp with hp | hp
  ·exact h.2 p hp
  ·obtain rfl:=List.mem_singleton.mp hp
   exact ⟨hz,rfl⟩
def lenV (len:Str→Int):V→V
 | .str z=>.int (len z)
 | v=>v
theorem qas (len:Str→Int)(zs:List Str):(zs.map V.str).map (lenV len)=(zs.map len).map V.int:=by
 rw [List.map_map,List.map_map];rfl
def qtw (H:Hp)(ld:Addr):Nat:=match H ld with
 | some (.dK kvs)=>kvs.length
 | _=>0
theorem qqm {H:Hp}{ld:Addr}(h:H ld=some (.dK (Dk ls))):qtw H ld=ls.length:=by
 unfold qtw;rw [h];unfold Dk;exact List.length_map _
theorem qqf {cs:Chs}(nd:(cs.map (·.1)).Nodup)(ks:List Str):(qa3 cs ks).Nodup:=nd.sublist (List.filter_sublist.map _)
theorem qic {cs:Chs}{z:Str}(h:z∈qa3 cs ks):∃ c∈cs,c.1=z∧z∉ks∧∀ n∈qu c.2,n∈ks:=by
 obtain ⟨c,hc,rfl⟩:=List.mem_map.mp h;obtain ⟨hc,hr⟩:=List.mem_filter.mp hc;unfold rdy at hr;rw [Bool.and_eq_true,Bool.not_eq_true',decide_eq_false_iff_not,decide_eq_true_eq] at hr;exact ⟨c,hc,rfl,hr.1,hr.2⟩
def qmb (cWo cBa cCa:Addr):Sp:=fun vs H Q _=>∃ (d:Addr) (o:Obj) (ps:List (Str×V)) (cs:Chs) (len:Str→Int) (rank:Str→Nat),vs=[.ref d]∧H d=some (.frz o (.dK (Dk ps)))∧ChsAt cWo cBa cCa H ps cs∧qw9 cs∧Lens cs len rank ∧
 ∀ ld ls H',H ld=none→Same H H'→H' ld=some (.dK (Dk ls))→LsOk cs len ls→(∀ c∈cs,c.1∈ls.map (·.1))→Q (.ref ld) H'
theorem qzn (F:Fun K "chain_lengths" "chain_lengths" ql2 f fd)(g_called_names:Fn P w K mg base "called_names" 1 ["rules"] (qy8 cWo cBa cCa))(g_ready_names:Fn P w K mg base "ready_names" 2 ["chains","lengths"] (qrj cWo cBa cCa))(b_len:mg "len"=none)(b_sum:mg "sum"=none) :
  FnOk P w K mg base CX0 3 f fd ["chains"] (qmb cWo cBa cCa):=by
 refine F.ok qd2 (by walk_at "l") (fun cdv A outer s H vs Q E hr h=>?_);obtain ⟨d,o,ps,cs,len,rank,rfl,hd,hc,nok,lens,q⟩:=h;obtain ⟨nd,cl,le,oks⟩:=id nok;refine ⟨_,(qc (qi (i:=1) qd2.nd rfl (Or.inr rfl) qbm) (qc (qi (i:=2) qd2.nd rfl (Or.inl rfl) (qf1 g_ready_names hr (by decide) rfl (qa (pv 0) (qa (pv 1) qd)))) (qc (qsf PassesOwn.never (qk (qzh hr.units) (pv 2) (qe1 qd) (qs0 _)) (qc (qb3 PassesOwn.never rfl (ql3 (pv 2)) (qp (i:=3) qd2.nd rfl (Or.inl rfl)) (qc (qi (i:=4) qd2.nd rfl (Or.inl rfl) (qk7 (qu9 hr) (pv 0) (pv 3) (fun _ _=>rfl))) (qg (qnq (qu9 hr) (pv 1) (pv 3) (qj qb1 (qy qb5 rfl b_len qg8 (qa (pv 4) qd)) (qy (qui (K:=K) rfl rfl) rfl b_sum bo_sum (qa (qa6 (T:=["called"]) (cap:=[1]) rfl (COk.of (out:=qh ql2) (N:=["chains","lengths","ready","name","rules"]) rfl rfl (by decide +kernel)) (ql3 (qf1 g_called_names hr (by decide) rfl (qa (pv 4) qd))) (fun _ _ _=>(qp (i:=0) (show List.Nodup (["called","lengths"]:List Str) by decide +kernel) rfl (Or.inl rfl))) (fun _ _ _=>ql4) (fun _ _ _=>(qk7 (qu9 hr) (pv 1) (pv 0) (fun _ _=>rfl)))) qd))) rfl)))) (qg (qi (i:=2) qd2.nd rfl (Or.inl rfl) (qf1 g_ready_names hr (by decide) rfl (qa (pv 0) (qa (pv 1) qd))))))) (qg (qm (pv 1)))))),?_⟩;rw [qia];walk_at "s";intro ld nld;have s1:=qe nld (.dK []);walk_at "s";refine ⟨d,ld,o,ps,[],cs,rfl,s1 _ _ hd,hc.same s1,nok,.inl qb0,List.nodup_nil,fun r H2 nr s2 hr2=>?_⟩;walk_at "s";refine qyt (fun σ H'=>Same H H'∧∃ (ls:List (Str×V)) (r:Addr) (y z:Option V),σ=[some (.ref d),some (.ref ld),some (.ref r),y,z]∧H' ld=some (.dK (Dk ls))∧LsOk cs len ls∧H' r=some (.lst ((qa3 cs (ls.map (·.1))).map V.str))) (fun _ H'=>cs.length - qtw H' ld)
  ⟨s1.trans s2,[],r,none,none,rfl,s2 _ _ qb0,⟨List.nodup_nil,fun _ h=>by cases h⟩,hr2⟩ fun σ H3 pv=>?_
 obtain ⟨sm,ls,r,y,z,rfl,hld,lok,hr3⟩:=pv
 have okr:∀ z∈qa3 cs (ls.map (·.1)),PyData.strOk z=true:=fun z hz=>by
  obtain ⟨c,hc,rfl,_⟩:=qic hz;exact oks c hc
 walk_at "s";refine LstR.go (by simp) fun e ne=>?_;have s4:=qe ne (.lst []);refine qpm (s4 _ _ hr3) qb0 okr ?_;rw [if_pos rfl];have hld4:=s4 _ _ hld;have sm4:=sm.trans s4;have hr4:=s4 _ _ hr3;have ds:qtw H3 ld=ls.length:=qqm hld;rw [ds];generalize upd H3 e (.lst [])=H4 at *
 by_cases emp:qa3 cs (ls.map (·.1))=[]
 ·rw [decide_eq_true emp]
  refine ⟨_,rfl,WhR.on (fun c=>by cases c) fun _=>?_⟩;walk_at "s";exact q ld ls H4 nld sm4 hld4 lok fun c hc=>all_in lens.dn cl emp _ c hc (Nat.lt_succ_self _)
 ·rw [decide_eq_false emp]
  refine ⟨_,rfl,WhR.on (fun _=>?_) fun c=>by cases c⟩;have lle:=lok.le;generalize hrs:qa3 cs (ls.map (·.1))=zs at *;have znd:zs.Nodup:=hrs▸qqf nd _;walk_at "s";refine IlR.go (SqL.of hr4) ?_;refine ForR.items itl (fun i σ H'=>Same H H'∧∃ (ls':List (Str×V)) (y z:Option V),σ=[some (.ref d),some (.ref ld),some (.ref r),y,z]∧H' ld=some (.dK (Dk ls'))∧LsOk cs len ls'∧ls'.map (·.1)=ls.map (·.1)++zs.take i∧H' r=some (.lst (zs.map V.str)))
   ⟨sm4,ls,y,z,rfl,hld4,lok,by rw [List.take_zero,List.append_nil],hr4⟩ (fun i σ H' pv=>SqL.of (by obtain ⟨_,_,_,_,_,_,_,_,h⟩:=pv; exact h)) (fun i x σ H5 hx pv=>?_) (fun σ H5 pv=>?_)
  ·obtain ⟨sm5,ls',y5,z5,rfl,hld5,lok5,keys,hr5⟩:=pv
   rw [List.getElem?_map] at hx;obtain ⟨n,en,rfl⟩:=Option.map_eq_some_iff.mp hx;obtain ⟨c,hcm,rfl,nin,call⟩:=qic (show n∈qa3 cs (ls.map (·.1)) from hrs▸List.mem_of_getElem? en);obtain ⟨l,rs,lk,hl,ru,nl⟩:=(hc.same sm5).look nd hcm
   have sub:∀ m∈qu c.2,m∈ls'.map (·.1):=fun m hm=>by
    rw [keys];exact List.mem_append_left _ (call m hm)
   have new:c.1∉ls'.map (·.1):=by
    rw [keys,List.mem_append,not_or];exact ⟨nin,qs9 znd en⟩
   show qb4 _ _ _ _ _;walk_at "s";refine qx5 (.inr ⟨o,sm5 _ _ hd⟩) lk ?_;walk_at "s";refine LenR.lst (SqL.of hl) ?_;walk_at "s";refine ⟨l,rs,c.2,rfl,hl,ru,nl,fun D H6 nD s6 hD=>?_⟩;refine IlR.go (SqL.of hD) ?_;have cle:(qu c.2).length≤1000:=Nat.le_trans (List.length_filterMap_le _ _) nl;refine CmpR.mapS (lenV len) itl (by rw [List.length_map]; exact cle) (fun H' s=>SqL.of (s _ _ hD)) (fun x H' Q' hx s7 k=>?_) fun D2 H7 nD2 s7 hD2=>?_
   ·obtain ⟨m,hm,rfl⟩:=List.mem_map.mp hx
    walk_at "s";refine qx5 (.inl (s7 _ _ (s6 _ _ hld5))) (lok5.look (sub m hm)) ?_;exact k H' (Same.refl _)
   ·rw [qas] at hD2
    refine sumR_go (SqL.of hD2) ?_;walk_at "s";have hld7:=s7 _ _ (s6 _ _ hld5);have le5:=lok5.le;refine qrm hld7 (qtk new) (by omega) ?_
    have ev:(rs.length:Int)+((qu c.2).map len).sum=len c.1:=by
     rw [lens.eq c hcm,ru.len]
    rw [ev];have hr7:=s7 _ _ (s6 _ _ hr5);refine ⟨((sm5.trans s6).trans s7).put nld,_,_,_,rfl,qb0,lok5.snoc (List.mem_map_of_mem hcm) new,?_,?_⟩
    ·rw [List.map_append,keys,List.take_add_one,en,List.append_assoc]
     rfl
    ·rw [qt (qmk hr7 hld7 (by intro z; cases z))]
     exact hr7
  ·obtain ⟨sm5,ls',y5,z5,rfl,hld5,lok5,keys,hr5⟩:=pv
   rw [List.length_map,List.take_length] at keys;walk_at "s";refine ⟨d,ld,o,ps,ls',cs,rfl,sm5 _ _ hd,hc.same sm5,nok,.inl hld5,lok5.1,fun r' H6 nr' s6 hr6=>?_⟩;walk_at "s";refine ⟨⟨sm5.trans s6,ls',r',_,_,rfl,s6 _ _ hld5,lok5,hr6⟩,?_⟩;rw [qqm (s6 _ _ hld5)];have le5:=lok5.le;have l1:=congrArg List.length keys;rw [List.length_map,List.length_append,List.length_map] at l1;have pos:0<zs.length:=List.length_pos_iff.mpr emp;omega
theorem qkq {f g h:Str}(n1:g≠f)(n2:h≠f)(v x y:V):putF f v [(g,x),(h,y)]=[(g,x),(h,y),(f,v)]:=by
 simp only [putF,if_neg n1,if_neg n2]
theorem Rl.fs_ne (p:Addr):∀ r:Rl,r.fs p≠[]
 | .word _=>by intro c; cases c
 | .back=>by intro c; cases c
 | .call _=>by intro c; cases c
theorem qeu {r r':Rl}{p':Addr}(h:r.told p=r'.told p')(o:r.ok)(o':r'.ok):r=r'∧p=p':=by
 cases r with
 | word w =>
  cases r' with
  | word w' =>
   simp only [Rl.told,List.cons.injEq,V.str.injEq,V.ref.injEq,and_true] at h;exact ⟨by rw [h.1],h.2⟩
  | back =>
   simp only [Rl.told,List.cons.injEq,V.str.injEq,V.ref.injEq,and_true] at h;exact absurd h.1 o.1
  | call n=>simp [Rl.told] at h
 | back =>
  cases r' with
  | word w' =>
   simp only [Rl.told,List.cons.injEq,V.str.injEq,V.ref.injEq,and_true] at h;exact absurd h.1.symm o'.1
  | back =>
   simp only [Rl.told,List.cons.injEq,V.ref.injEq,and_true,true_and] at h;exact ⟨rfl,h⟩
  | call n=>simp [Rl.told] at h
 | call n =>
  cases r' with
  | word w'=>simp [Rl.told] at h
  | back=>simp [Rl.told] at h
  | call n' =>
   simp only [Rl.told,List.cons.injEq,V.str.injEq,V.ref.injEq,and_true,true_and] at h;exact ⟨by rw [h.2],h.1⟩
def RtAt (H:Hp)(v:V)(u:Ru):Prop:=∃ t,v=.ref t∧H t=some (.tup (u.1.told u.2))∧u.1.ok
theorem RtAt.same {H H':Hp}{v:V}{u:Ru}(h:RtAt H v u)(s:Same H H'):RtAt H' v u:=by
 obtain ⟨t,e,h,o⟩:=h;exact ⟨t,e,s _ _ h,o⟩
def HaAt (H:Hp)(v:V)(c:Str×List Ru):Prop:=∃ t l ts,v=.ref t∧H t=some (.tup [.str c.1,.ref l])∧H l=some (.lst ts)∧All2 (RtAt H) ts c.2∧c.2.length≤1000
theorem HaAt.same {H H':Hp}{v:V}{c:Str×List Ru}(h:HaAt H v c)(s:Same H H'):HaAt H' v c:=by
 obtain ⟨t,l,ts,e,h1,h2,h3,n⟩:=h;exact ⟨t,l,ts,e,s _ _ h1,s _ _ h2,All2.imp h3 fun _ _ r=>r.same s,n⟩
theorem qos {H:Hp}{hs:List V}{cs:Chs}(h:All2 (HaAt H) hs cs):∃ ps:List (V×V),All2 (fun x (p:V×V)=>∃ t,x=.ref t∧H t=some (.tup [p.1,p.2])) hs ps∧ps.map (·.1)=(cs.map (·.1)).map V.str:=by
 induction h with
 | nil=>exact ⟨[],.nil,rfl⟩
 | @cons v c vs cs h _ ih =>
  obtain ⟨ps,a,e⟩:=ih;obtain ⟨t,l,ts,e1,h1,_⟩:=h;exact ⟨(.str c.1,.ref l)::ps,.cons ⟨t,e1,h1⟩ a,by rw [List.map_cons,List.map_cons,List.map_cons,e]⟩
theorem qhn {H H':Hp}{vs:List V}{us:List Ru}(h:All2 (RtAt H) ts us)(k:All2 (fun x v=>∃ a u,v=.ref a∧a≠D∧RtAt H x u∧IsRule cWo cBa cCa H' a u.1 u.2) ts vs):RusAt cWo cBa cCa H' vs us:=by
 induction h generalizing vs with
 | nil =>
  cases k;exact .nil
 | cons h _ ih =>
  cases k with
  | cons k1 k2 =>
   obtain ⟨a,u',rfl,_,⟨t,e1,h1,o1⟩,r⟩:=k1;obtain ⟨t',e2,h2,o2⟩:=h;rw [e1] at e2;cases e2;rw [h1] at h2
   injection h2 with h2
   injection h2 with h2
   obtain ⟨e3,e4⟩:=qeu h2 o1 o2;exact .cons ⟨a,rfl,e3▸e4▸r⟩ (ih k2)
variable {cBo:Addr}
def fresh (H H':Hp):Hp:=fun a=>if (H a).isNone=true then H' a else none
theorem qoi {H H':Hp}(n:H a=none):fresh H H' a=H' a:=by
 unfold fresh;rw [n];rfl
theorem qyc {H H':Hp}:Same (fresh H H') H':=fun a o e=>by
 unfold fresh at e
 split at e
 ·exact e
 ·cases e
theorem fr_kp {H H1 H2:Hp}(kp:∀ a o,a≠D→H1 a=some o→H2 a=some o):∀ a o,a≠D→fresh H H1 a=some o→fresh H H2 a=some o:=fun a o ne e=>by
 unfold fresh at e ⊢
 split at e
 ·rename_i c
  rw [if_pos c];exact kp a o ne e
 ·cases e
theorem qyk {H H1 H2:Hp}(s:Same H1 H2):Same (fresh H H1) (fresh H H2):=fun a o e=>by
 unfold fresh at e ⊢
 split at e
 ·rename_i c
  rw [if_pos c];exact s a o e
 ·cases e
theorem qrs {H H':Hp}{o:HO}(n:H a=none):fresh H (upd H' a o)=upd (fresh H H') a o:=by
 funext x
 by_cases c:x=a
 ·subst c
  rw [qoi n,qb0,qb0]
 ·rw [qt c]
  unfold fresh;rw [qt c]
theorem qj9 {H:Hp}{b:Addr}(n:H a=none):del H b a=none:=by
 by_cases c:a=b
 ·rw [c]
  exact qig
 ·rw [del_ne c]
  exact n
def IsBook (cWo cBa cCa cBo:Addr)(H:Hp)(b:Addr)(df:Str)(cs:Chs)(len:Str→Int):Prop:=∃ dx kd o ps ld ls,H b=some (.ins cBo dx [("default",.str df),("chains",.ref kd),("lengths",.ref ld)])∧H kd=some (.frz o (.dK (Dk ps)))∧ChsAt cWo cBa cCa H ps cs∧H ld=some (.dK (Dk ls))∧∀ c∈cs,ls.lookup c.1=some (.int (len c.1))
theorem IsBook.same {H H':Hp}{b:Addr}{df:Str}{cs:Chs}{len:Str→Int}(h:IsBook cWo cBa cCa cBo H b df cs len)(s:Same H H'):IsBook cWo cBa cCa cBo H' b df cs len:=by
 obtain ⟨dx,kd,o,ps,ld,ls,h1,h2,h3,h4,h5⟩:=h;exact ⟨dx,kd,o,ps,ld,ls,s _ _ h1,s _ _ h2,h3.same s,s _ _ h4,h5⟩
structure TxB (K:W.Frag)(cRu cWo cBa cCa cBo:Addr):Prop extends Txt K cRu cWo cBa cCa where
 pg_Book:PySem.W.plainGet K cBo Str.empty=true
 hd_Book:PySem.W.hasDictIn K cBo=true
 po_Book:PySem.W.plainOver K cBo=true
 sa_Book:PySem.W.findIn K (.ref cBo) "__setattr__"=some (some (.builtin "object.__setattr__"))
 mk_Book:PySem.W.makesIn K cBo=true
 kp_Book:PySem.W.keepIn K (.ref cBo)=true
 n_default:PySem.W.findIn K (.ref cBo) "default"=some none
 n_chains:PySem.W.findIn K (.ref cBo) "chains"=some none
 n_lengths:PySem.W.findIn K (.ref cBo) "lengths"=some none
theorem TxB.cls (T:TxB K cRu cWo cBa cCa cBo):Cls K cBo:=⟨T.pg_Book,T.hd_Book,T.po_Book,T.sa_Book⟩
def qvp (cWo cBa cCa cBo:Addr):Sp:=fun vs H Q _=>∃ (b dx hl:Addr) (df:Str) (hs:List V) (cs:Chs) (len:Str→Int) (rank:Str→Nat),vs=[.ref b,.str df,.ref hl]∧H b=some (.ins cBo dx [])∧H hl=some (.lst hs)∧All2 (HaAt H) hs cs∧qw9 cs∧Lens cs len rank ∧
 ("main":Str)∈cs.map (·.1)∧len "main"≤120∧∀ H',(∀ a o,a≠b→H a=some o→H' a=some o)→IsBook cWo cBa cCa cBo (fresh (del H b) H') b df cs len→Q .non H'
theorem qei (F:Fun K "__init__" "Book.__init__" qy1 f fd)(g_refuse_two_chains:Fn P w K mg base "refuse_two_chains" 1 ["names"] spTwo)(g_refuse_missing_chains:Fn P w K mg base "refuse_missing_chains" 2 ["chains"] (qlb cWo cBa cCa))(g_chain_lengths:Fn P w K mg base "chain_lengths" 3 ["chains"] (qmb cWo cBa cCa))(g_rule_of:Fn P w K mg base "rule_of" 4 ["told"] (qcf cWo cBa cCa))
  (c_MAIN:∃ u,mg "MAIN"=some u∧RelV (.str "main") u) (c_MOST_LENGTH:∃ u,mg "MOST_LENGTH"=some u∧RelV (.int 120) u) (b_len:mg "len"=none) (T:TxB K cRu cWo cBa cCa cBo):FnOk P w K mg base CX0 5 f fd ["self","default","chains"] (qvp cWo cBa cCa cBo):=by
 refine F.ok qp2 (by walk_at "l") (fun cdv A outer s H vs Q E hr h=>?_);obtain ⟨b,dx,hl,df,hs,cs,len,rank,rfl,hb,hhl,hh,nok,lens,hmain,top,q⟩:=h;obtain ⟨_,m_MAIN,r_MAIN⟩:=c_MAIN;obtain ⟨_,m_MOST_LENGTH,r_MOST_LENGTH⟩:=c_MOST_LENGTH;obtain ⟨nd,cl,le,oks⟩:=id nok;have hlen:=All2.len hh;refine ⟨_,(qc (qn2 (qf1 g_refuse_two_chains hr (by decide) rfl (qa (qa6 (T:=["name","rules"]) (cap:=[]) rfl (COk.of (out:=qh qy1) (N:=["self","default","chains","kept","name","rules","lengths"]) rfl rfl (by decide +kernel)) (ql3 (pv 2)) (fun _ _ _=>(quq (K:=K) (n:=2) rfl rfl (qx (qp (i:=0) (show List.Nodup (["name","rules"]:List Str) by decide +kernel) rfl (Or.inl rfl)) (qx (qp (i:=1) (show List.Nodup (["name","rules"]:List Str) by decide +kernel) rfl (Or.inl rfl)) qc5)))) (fun _ _ _=>ql4) (fun _ _ _=>(pv 0))) qd))) (qc (qi (i:=3) qp2.nd rfl (Or.inl rfl) qbm) (qc (qb3 PassesOwn.never rfl (ql3 (pv 2)) (qj7 rfl (qx (qp (i:=4) qp2.nd rfl (Or.inl rfl)) (qx (qp (i:=5) qp2.nd rfl (Or.inl rfl)) qc5))) (qg (qnq (qu9 hr) (pv 3) (pv 4) (qa6 (T:=["told"]) (cap:=[]) rfl (COk.of (out:=qh qy1) (N:=["self","default","chains","kept","name","rules","lengths"]) rfl rfl (by decide +kernel)) (ql3 (pv 5)) (fun _ _ _=>(qp (i:=0) (show List.Nodup (["told"]:List Str) by decide +kernel) rfl (Or.inl rfl))) (fun _ _ _=>ql4) (fun _ _ _=>(qf1 g_rule_of hr (by decide) rfl (qa (pv 0) qd)))) rfl))) (qc (qn2 (qf1 g_refuse_missing_chains hr (by decide) rfl (qa (pv 3) qd))) (qc (qi (i:=6) qp2.nd rfl (Or.inl rfl) (qf1 g_chain_lengths hr (by decide) rfl (qa (pv 3) qd))) (qc (ql1 (qk qod (qy qle rfl b_len qg8 (qa (pv 6) qd)) (qy qle rfl b_len qg8 (qa (pv 3) qd)) (qs0 _)) (qg qta) qn0) (qc (ql1 (qk qrn (qk7 (qu9 hr) (pv 6) (qu3 rfl m_MAIN r_MAIN) (fun _ _=>rfl)) (qu3 rfl m_MOST_LENGTH r_MOST_LENGTH) (qs0 _)) (qg qta) qn0) (qc (qzd (pv 0) (pv 1) rfl) (qc (qzd (pv 0) (pv 3) rfl) (qg (qzd (pv 0) (pv 6) rfl))))))))))),?_⟩;rw [qma];walk_at "s";refine IlR.go (SqL.of hhl) ?_;obtain ⟨pps,tt,pe⟩:=qos hh;refine CmpR.tups (·.1) itl tt (by omega) (fun H' s=>SqL.of (s _ _ hhl)) (fun p H' Q' hp sm k=>?_) fun D H1 nD s1 hD=>?_
 ·walk_at "s"
  exact k H' (Same.refl _)
 rw [pe] at hD;refine ⟨D,_,rfl,hD,nd,fun H2 s2=>?_⟩;walk_at "s";intro kd nkd;have s12:=s1.trans s2;have s3:=qe nkd (.dK []);walk_at "s";refine IlR.go (SqL.of (s3 _ _ (s12 _ _ hhl))) ?_;refine ForR.items itl (fun i σ H'=>Same H H'∧∃ (ps:List (Str×V)) (y z:Option V),σ=[some (.ref b),some (.str df),some (.ref hl),some (.ref kd),y,z,none]∧H' kd=some (.dK (Dk ps))∧ChsAt cWo cBa cCa (fresh (del H b) H') ps (cs.take i))
  ⟨s12.trans s3,[],_,_,rfl,qb0,.nil⟩ (fun i σ H' pv=>SqL.of (pv.1 _ _ hhl)) (fun i x σ H4 hx pv=>?_) (fun σ H4 pv=>?_)
 ·obtain ⟨sm,ps,y4,z4,rfl,hkd,hc4⟩:=pv
  obtain ⟨c,ec,t,l,ts,rfl,ht,hl4,hts,nts⟩:=hh.at hx;have lt:i<cs.length:=(List.getElem?_eq_some_iff.mp ec).1;refine qio (SqT.of (sm _ _ ht)) ?_;walk_at "s";refine IlR.go (SqL.of (sm _ _ hl4)) ?_;refine CmpR.rel (fun D H' x v=>∃ a u,v=.ref a∧a≠D∧RtAt H x u∧IsRule cWo cBa cCa (fresh (del H b) H') a u.1 u.2) (fun D H' H'' x v kp r=>?_) itl (by rw [All2.len hts]; exact nts) (fun H' s=>SqL.of (s _ _ (sm _ _ hl4))) (fun D x H' ys Q' hx nD s5 hD k=>?_) fun D H5 vs nD s5 hD al=>?_
  ·obtain ⟨a,u,e,ne,rt,dx',ir⟩:=r
   exact ⟨a,u,e,ne,rt,dx',fr_kp kp _ _ ne ir⟩
  ·obtain ⟨j,hj⟩:=List.getElem?_of_mem hx
   obtain ⟨u,_,rt⟩:=hts.at hj;obtain ⟨t',rfl,ht',ok'⟩:=id rt;walk_at "s";refine ⟨t',u.2,u.1,rfl,s5 _ _ (sm _ _ ht'),ok',fun a H6 na s6 ir=>k _ H6 s6 ⟨a,u,rfl,fun e=>?_,rt,?_⟩⟩
   ·rw [e,hD] at na
    cases na
   ·obtain ⟨dx',ir⟩:=ir
    exact ⟨dx',by rw [qoi (qj9 (sm.free (s5.free na)))]; exact ir⟩
  ·have ru:=qhn hts al
   have hkd5:=s5 _ _ hkd;have hc5:=hc4.same (qyk s5);have nd5:del H b kd=none:=qj9 (s12.free nkd)
   have hkf:fresh (del H b) H5 kd=some (.dK (Dk ps)):=by rw [qoi nd5]; exact hkd5
   have ek:ps.map (·.1)=(cs.take i).map (·.1):=hc4.keys
   have new:c.1∉ps.map (·.1):=by
    rw [ek,List.map_take];exact qs9 nd (by rw [List.getElem?_map,ec]; rfl)
   have pl:ps.length≤i:=by
    have:=congrArg List.length ek;rw [List.length_map,List.length_map,List.length_take] at this;omega
   walk_at "s";refine qrm hkd5 (qtk new) (by omega) ?_;refine ⟨(sm.trans s5).put (s12.free nkd),_,_,_,rfl,qb0,?_⟩;rw [List.take_add_one,ec];rw [qrs nd5];refine (All2.imp hc5 fun _ _ r=>r.upd hkf).snoc ?_;exact ChAt.upd ⟨rfl,nts,D,vs,rfl,by rw [qoi (qj9 (sm.free nD))]; exact hD,ru⟩ hkf
 ·obtain ⟨sm,ps,y4,z4,rfl,hkd,hc4⟩:=pv
  have hc4':ChsAt cWo cBa cCa (fresh (del H b) H4) ps cs:=by
   rw [hlen,List.take_length] at hc4;exact hc4
  walk_at "s";have nd5:del H b kd=none:=qj9 (s12.free nkd)
  have hkf:fresh (del H b) H4 kd=some (.dK (Dk ps)):=by rw [qoi nd5]; exact hkd
  refine ⟨kd,ps,cs,rfl,hkd,hc4'.same qyc,nd,cl,fun o H5 s5=>?_⟩;have sm5:Same H H5:=(sm.put (s12.free nkd)).trans s5;have hkd5:H5 kd=some (.frz o (.dK (Dk ps))):=s5 _ _ qb0
  have hc5':ChsAt cWo cBa cCa (fresh (del H b) (upd H4 kd (.frz o (.dK (Dk ps))))) ps cs:=by
   rw [qrs nd5];exact All2.imp hc4' fun _ _ r=>r.upd hkf
  have hc5:=hc5'.same (qyk s5);walk_at "s";refine ⟨kd,o,ps,cs,len,rank,rfl,hkd5,hc5.same qyc,nok,lens,fun ld ls H6 nld s6 hld lok al=>?_⟩
  have e1:ls.length=cs.length:=by
   refine Nat.le_antisymm lok.le ?_
   have:=List.Nodup.length_le_of_subset nd (l₂:=ls.map (·.1)) fun z hz=>by
    obtain ⟨c,hc,rfl⟩:=List.mem_map.mp hz;exact al c hc
   rw [List.length_map,List.length_map] at this;exact this
  have e2:ps.length=cs.length:=All2.len hc5
  have lkm:ls.lookup ("main":Str)=some (.int (len "main")):=by
   obtain ⟨c,hc,e⟩:=List.mem_map.mp hmain;exact lok.look (e▸al c hc)
  walk_at "s";refine qhm (.inl hld) ?_;walk_at "s";refine qhm (.inr ⟨o,s6 _ _ hkd5⟩) ?_;walk_at "s";rw [decide_eq_false (by omega)];walk_at "s";refine qx5 (.inl hld) lkm ?_;walk_at "s";rw [decide_eq_false (by omega)];walk_at "s";have hb6:=s6 _ _ (sm5 _ _ hb);have hkd6:=s6 _ _ hkd5
  have nek:kd≠b:=fun e=>by
   rw [e,hb6] at hkd6;cases hkd6
  refine SFldR.go hb6 T.cls T.n_default (by simp) ?_;rw [put_new];walk_at "s";refine SFldR.go qb0 T.cls T.n_chains (by simp) ?_;rw [qgk (by decide),qz6];walk_at "s"
  have hld8:ld≠b:=fun e=>by
   rw [e,hb6] at hld;cases hld
  refine SFldR.go qb0 T.cls T.n_lengths (by simp) ?_;rw [qkq (by decide) (by decide),qz6]
  have kp0:∀ o',∀ a x,a≠b→H6 a=some x→upd H6 b o' a=some x:=fun o' a x ne e=>by
   rw [qt ne];exact e
  refine q _ (fun a x ne e=>kp0 _ a x ne (s6 _ _ (sm5 _ _ e))) ?_;rw [qrs qig]
  have hbf:fresh (del H b) H6 b=some (.ins cBo dx []):=by rw [qoi qig]; exact hb6
  have hcf:=hc5.same (qyk s6)
  have hkf6:fresh (del H b) H6 kd=some (.frz o (.dK (Dk ps))):=by rw [qoi nd5]; exact hkd6
  have hlf6:fresh (del H b) H6 ld=some (.dK (Dk ls)):=by rw [qoi (qj9 (sm5.free nld))]; exact hld
  generalize fresh (del H b) H6=Hf at *
  have kp:∀ o',∀ a x,a≠b→Hf a=some x→upd Hf b o' a=some x:=fun o' a x ne e=>by
   rw [qt ne];exact e
  refine ⟨dx,kd,o,ps,ld,ls,qb0,kp _ _ _ nek hkf6,All2.imp hcf fun p c h=>?_,kp _ _ _ hld8 hlf6,fun c hc=>lok.look (al c hc)⟩;obtain ⟨e,n,l,rs,e2,hl,r⟩:=h;refine ⟨e,n,l,rs,e2,kp _ _ _ (qmk hl hbf (by intro z; cases z)) hl,All2.imp r fun v u ru=>?_⟩;obtain ⟨a,ea,dx',ha⟩:=ru;refine ⟨a,ea,dx',kp _ _ _ (fun e=>?_) ha⟩;rw [e,hbf] at ha
  injection ha with ha
  injection ha with h1 h2 h3
  exact Rl.fs_ne u.2 u.1 h3.symm
section
variable {H:Hp}{b ld:Addr}{df:Str}{cs:Chs}
theorem qne (kd:Addr):[(("default":Str),V.str df),("chains",V.ref kd),("lengths",V.ref ld)].lookup ("default":Str)=some (.str df):=rfl
theorem qqt (kd:Addr):[(("default":Str),V.str df),("chains",V.ref kd),("lengths",V.ref ld)].lookup ("chains":Str)=some (.ref kd):=by
 rw [List.lookup_cons,beq_eq_false_iff_ne.mpr (by decide)];exact qb8 _ _ _
theorem qme (kd:Addr):[(("default":Str),V.str df),("chains",V.ref kd),("lengths",V.ref ld)].lookup ("lengths":Str)=some (.ref ld):=by
 rw [List.lookup_cons,beq_eq_false_iff_ne.mpr (by decide),List.lookup_cons,beq_eq_false_iff_ne.mpr (by decide)];exact qb8 _ _ _
end
theorem bk_no {df:Str}{kd ld:Addr}{m:Str}(h1:m≠"default")(h2:m≠"chains")(h3:m≠"lengths"):[(("default":Str),V.str df),("chains",V.ref kd),("lengths",V.ref ld)].lookup m=none:=by
 rw [List.lookup_cons,beq_eq_false_iff_ne.mpr h1,List.lookup_cons,beq_eq_false_iff_ne.mpr h2,List.lookup_cons,beq_eq_false_iff_ne.mpr h3];rfl
end
section
variable {cRu cWo cBa cCa cBo:Addr}
def qdf (cWo cBa cCa cBo:Addr):Sp:=fun vs H Q _=>∃ (b:Addr) (df:Str) (cs:Chs) (len:Str→Int) (c:Str×List Ru) (i:Nat),vs=[.ref b,.str c.1,.int (i:Int)]∧IsBook cWo cBa cCa cBo H b df cs len∧(cs.map (·.1)).Nodup∧c∈cs∧(c.2[i]?=none→Q .non H)∧∀ u a,c.2[i]?=some u→IsRule cWo cBa cCa H a u.1 u.2→Q (.ref a) H
theorem qoc (F:Fun K "rule_at" "Book.rule_at" qp3 f fd)(b_len:mg "len"=none)(T:TxB K cRu cWo cBa cCa cBo):FnOk P w K mg base CX0 1 f fd ["self","name","index"] (qdf cWo cBa cCa cBo):=by
 refine F.ok qc7 (by walk_at "l") (fun _ _ _ _ H _ Q E hr h=>?_);obtain ⟨b,df,cs,len,c,i,rfl,⟨dx,kd,o,ps,ld,ls,hb,hkd,hc,hld,lks⟩,nd,mem,q1,q2⟩:=h;obtain ⟨l,rs,lk,hl,ru,n⟩:=hc.look nd mem;refine ⟨_,(qc (qi (i:=3) qc7.nd rfl (Or.inl rfl) (qk7 (qu9 hr) (qe8 (pv 0) rfl) (pv 1) (fun _ _=>rfl))) (qg (qm (qvf (qk qod (pv 2) (qy qb5 rfl b_len qg8 (qa (pv 3) qd)) (qs0 _)) (qq qb2 (pv 3) (pv 2) (fun _ _=>rfl)) qw5)))),?_⟩;rw [qhb];walk_at "s";refine FldR.go hb T.cls T.n_chains (qqt kd) ?_;refine qx5 (.inr ⟨o,hkd⟩) lk ?_;walk_at "s";refine LenR.lst (SqL.of hl) ?_;walk_at "s";have e:=All2.len ru;refine IfR.dec (fun lt=>?_) (fun ge=>?_)
 ·have li:i<c.2.length:=by omega
  obtain ⟨v,hv,a,rfl,ir⟩:=All2.ix ru (List.getElem?_eq_getElem li);walk_at "s";exact qw2 (SqL.of hl) hv (q2 _ a (List.getElem?_eq_getElem li) ir)
 ·walk_at "s"
  exact q1 (List.getElem?_eq_none (by omega))
def chOf (cs:Chs)(z:Str):List Ru:=(cs.lookup z).getD []
theorem qo7 {cs:Chs}{c:Str×List Ru}(nd:(cs.map (·.1)).Nodup)(h:c∈cs):chOf cs c.1=c.2:=by
 unfold chOf
 induction cs with
 | nil=>cases h
 | cons q r ih =>
  rw [List.map_cons,List.nodup_cons] at nd;rw [List.lookup_cons]
  rcases List.mem_cons.mp h with rfl | h
  ·rw [beq_self_eq_true]
   rfl
  ·have ne:c.1≠q.1:=fun e=>nd.1 (e▸List.mem_map_of_mem h)
   rw [beq_eq_false_iff_ne.mpr ne];exact ih nd.2 h
def wt (ln:Str→Nat)(us:List Ru):Nat:=us.length+((qu us).map ln).sum
theorem qej (ln:Str→Nat)(u:Ru)(us:List Ru):wt ln (u::us)=1+((qx2 u).map ln).getD 0+wt ln us:=by
 unfold wt qu;rw [List.filterMap_cons,List.length_cons]
 cases qx2 u with
 | none=>simp only [Option.map_none,Option.getD_none]; omega
 | some n=>simp only [Option.map_some,Option.getD_some,List.map_cons,List.sum_cons]; omega
theorem qwe {f:α→Int}:∀ {l:List α},(∀ x∈l,0≤f x)→(l.map f).sum=(((l.map fun x=>(f x).toNat).sum:Nat):Int)
 | [],_=>rfl
 | x::l,h=>by
  have a:=h x List.mem_cons_self;have b:=qwe (f:=f) fun y hy=>h y (List.mem_cons_of_mem _ hy);rw [List.map_cons,List.sum_cons,List.map_cons,List.sum_cons,b];omega
theorem qgm {cs:Chs}{len:Str→Int}{rank:Str→Nat}(cl:qha cs)(h:Lens cs len rank):∀ m,∀ c∈cs,rank c.1<m→0≤len c.1:=by
 intro m
 induction m with
 | zero=>intro c _ lt; omega
 | succ m ih =>
  intro c hc lt;rw [h.eq c hc,qwe fun n hn=>?_]
  ·omega
  ·obtain ⟨c',hc',e⟩:=List.mem_map.mp (cl c hc n hn)
   have:=h.dn c hc n hn;rw [← e];exact ih c' hc' (by rw [e]; omega)
theorem ln_wt {cs:Chs}{len:Str→Int}{rank:Str→Nat}(cl:qha cs)(h:Lens cs len rank){c:Str×List Ru}(hc:c∈cs):(len c.1).toNat=wt (fun n=>(len n).toNat) c.2:=by
 rw [h.eq c hc,qwe fun n hn=>?_]
 ·unfold wt
  omega
 ·obtain ⟨c',hc',e⟩:=List.mem_map.mp (cl c hc n hn)
  rw [← e];exact qgm cl h _ c' hc' (Nat.lt_succ_self _)
end
section
variable {cRu cWo cBa cCa cBo:Addr}
def qff (cWo cBa cCa cBo:Addr):Sp:=fun vs H Q _=>∃ (b:Addr) (df:Str) (cs:Chs) (len:Str→Int),vs=[.ref b]∧IsBook cWo cBa cCa cBo H b df cs len∧("main":Str)∈cs.map (·.1)∧Q (.int (len "main")) H
theorem qpd (F:Fun K "length" "Book.length" qk4 f fd)(c_MAIN:∃ u,mg "MAIN"=some u∧RelV (.str "main") u)(T:TxB K cRu cWo cBa cCa cBo):FnOk P w K mg base CX0 1 f fd ["self"] (qff cWo cBa cCa cBo):=by
 refine F.ok qnd (by walk_at "l") (fun cdv A outer s H vs Q E hr h=>?_);obtain ⟨b,df,cs,len,rfl,⟨dx,kd,o,ps,ld,ls,hb,hkd,hc,hld,lks⟩,hm,q⟩:=h;obtain ⟨_,m_MAIN,r_MAIN⟩:=c_MAIN;refine ⟨_,(qg (qm (qk7 (qu9 hr) (qe8 (pv 0) rfl) (qu3 rfl m_MAIN r_MAIN) (fun _ _=>rfl)))),?_⟩;rw [qld];walk_at "s";refine FldR.go hb T.cls T.n_lengths (qme kd) ?_;obtain ⟨c,hc',e⟩:=List.mem_map.mp hm;have lk:=lks c hc';rw [e] at lk;exact qx5 (.inl hld) lk q
end
def allBox:Bsx:=[(0,3),(0,255),(0,4294967295),(0,65535),(0,4294967295),(0,65535)]
def qyj:Sp:=fun vs H Q _=>vs=[]∧∀ t H',Same H H'→IsBox H' t allBox→Q (.ref t) H'
theorem qtv (F:Fun K "every" "every" qub f fd)(c_ADDRESS:∃ u,mg "GREATEST_ADDRESS"=some u∧RelV (.int 4294967295) u)(c_DOOR:∃ u,mg "GREATEST_DOOR"=some u∧RelV (.int 65535) u)(c_TURN:∃ u,mg "GREATEST_TURN"=some u∧RelV (.int 3) u)(c_KIND:∃ u,mg "GREATEST_KIND"=some u∧RelV (.int 255) u):FnOk P w K mg base CX0 1 f fd [] qyj:=by
 refine F.ok qmf (by walk_at "l") (fun cdv A outer s H vs Q E hr h=>?_);obtain ⟨rfl,q⟩:=h;obtain ⟨_,m_GREATEST_ADDRESS,r_GREATEST_ADDRESS⟩:=c_ADDRESS;obtain ⟨_,m_GREATEST_DOOR,r_GREATEST_DOOR⟩:=c_DOOR;obtain ⟨_,m_GREATEST_TURN,r_GREATEST_TURN⟩:=c_TURN;obtain ⟨_,m_GREATEST_KIND,r_GREATEST_KIND⟩:=c_KIND;refine ⟨_,(qc (qi (i:=0) qmf.nd rfl (Or.inl rfl) (qv0 (qa qf (qa (qu3 rfl m_GREATEST_ADDRESS r_GREATEST_ADDRESS) qd)))) (qc (qi (i:=1) qmf.nd rfl (Or.inl rfl) (qv0 (qa qf (qa (qu3 rfl m_GREATEST_DOOR r_GREATEST_DOOR) qd)))) (qg (qm (qv0 (qa (qv0 (qa qf (qa (qu3 rfl m_GREATEST_TURN r_GREATEST_TURN) qd))) (qa (qv0 (qa qf (qa (qu3 rfl m_GREATEST_KIND r_GREATEST_KIND) qd))) (qa (pv 0) (qa (pv 1) (qa (pv 0) (qa (pv 1) qd))))))))))),?_⟩;rw [qpu];walk_at "s";refine TupR.go (by simp) fun a na=>?_;have s1:=qe na (.tup [.int 0,.int 4294967295]);walk_at "s";refine TupR.go (by simp) fun d nd=>?_;have s2:=qe nd (.tup [.int 0,.int 65535]);walk_at "s";refine TupR.go (by simp) fun b nb=>?_;have s3:=qe nb (.tup [.int 0,.int 3]);walk_at "s";refine TupR.go (by simp) fun c nc=>?_;have s4:=qe nc (.tup [.int 0,.int 255]);walk_at "s";refine TupR.go (by simp) fun t nt=>?_;have s5:=qe nt (.tup [.ref b,.ref c,.ref a,.ref d,.ref a,.ref d]);have ha:=s5 _ _ (s4 _ _ (s3 _ _ (s2 _ _ (qb0 (H:=H) (a:=a) (o:=.tup [.int 0,.int 4294967295])))));have hd:=s5 _ _ (s4 _ _ (s3 _ _ (qb0 (H:=upd H a (.tup [.int 0,.int 4294967295])) (a:=d) (o:=.tup [.int 0,.int 65535]))));refine q t _ ((((s1.trans s2).trans s3).trans s4).trans s5) ⟨_,qb0,.cons (s5 _ _ (s4 _ _ qb0)) (.cons (s5 _ _ qb0) (.cons ha (.cons hd (.cons ha (.cons hd .nil)))))⟩
def qhf:Sp:=fun vs H Q _=>∃ (p:Addr) (bs:Bsx),vs=[.ref p]∧IsBox H p bs∧Fair bs∧∀ r H',Same H H'→IsPt H' r (bs.map (·.1))→Q (.ref r) H'
theorem qnr (F:Fun K "corner" "corner" qy7 f fd)(b_tuple:mg "tuple"=none):FnOk P w K mg base CX0 1 f fd ["box"] qhf:=by
 refine F.ok qcq (by walk_at "l") (fun cdv A outer s H vs Q E hr h=>?_);obtain ⟨p,bs,rfl,⟨vs,hp,hb⟩,fair,q⟩:=h;refine ⟨_,(qg (qm (qm4 qw4 rfl b_tuple qv6 (qa (qa6 (T:=["stretch"]) (cap:=[]) rfl (COk.of (out:=qh qy7) (N:=["box"]) rfl rfl (by decide +kernel)) (pi_tup (pv 0)) (fun _ _ _=>(qp (i:=0) (show List.Nodup (["stretch"]:List Str) by decide +kernel) rfl (Or.inl rfl))) (fun _ _ _=>ql4) (fun _ _ _=>(qq (qds (K:=K) rfl) (pv 0) qf (fun _ _=>rfl)))) qd)))),?_⟩;rw [qqp];walk_at "s";refine ItR.go (SqT.of hp) ?_;refine CmpR.mapS (lowV H) itt (by rw [hb.len]; have:=fair.1; omega) (fun H' sm=>sm.seqT (SqT.of hp)) (fun x H' Q' hx sm q'=>?_) (fun D H1 hD s1 hl1=>?_)
 ·obtain ⟨a,lo,hi,rfl,_,ha⟩:=hb.mem hx
  have ha1:=sm _ _ ha;walk_at "ix";rw [← qvr ha];exact q' _ (Same.refl _)
 rw [hb.lows] at hl1;refine TupOf.lst (SqL.of hl1) fun r hr=>?_;exact q r _ (s1.trans (qe hr _)) qb0
def lenC (cs:Chs):Nat→Str→Nat
 | 0,_=>0
 | d+1,z=>wt (lenC cs d) (chOf cs z)
def qn1 (sub:Str→Nat→List Row)(u:Ru)(a:Nat):List Row:=match qx2 u with
 | some n=>sub n (a+1)
 | none=>[]
def qza (en a:Nat):Rl→Yes
 | .word z=>.word z
 | .back=>.goto en
 | .call _=>.goto (a+1)
def qq3 (sub:Str→Nat→List Row)(z:Str)(en:Nat):List Ru→Nat→Nat→List Row
 | [],_,_=>[]
 | u::us,i,a=>⟨z,i,u.2,qza en a u.1,a+1+(qn1 sub u a).length⟩::(qn1 sub u a++qq3 sub z en us (i+1) (a+1+(qn1 sub u a).length))
def qd1 (cs:Chs):Nat→Str→Nat→List Row
 | 0,_,_=>[]
 | d+1,z,s=>qq3 (qd1 cs d) z (s+lenC cs (d+1) z) (chOf cs z) 0 s
theorem qwd {sub:Str→Nat→List Row}{z:Str}{en:Nat}(h:∀ n a,(sub n a).length=ln n):∀ (us:List Ru) (i a:Nat),(qq3 sub z en us i a).length=wt ln us
 | [],_,_=>rfl
 | u::us,i,a=>by
  have ih:=qwd h (z:=z) (en:=en) us (i+1) (a+1+(qn1 sub u a).length)
  have m:(qn1 sub u a).length=((qx2 u).map ln).getD 0:=by
   unfold qn1
   cases qx2 u with
   | none=>rfl
   | some n=>exact h n (a+1)
  unfold qq3;rw [List.length_cons,List.length_append,ih,qej,m];omega
theorem qd9 {cs:Chs}:∀ (d:Nat) (z:Str) (s:Nat),(qd1 cs d z s).length=lenC cs d z
 | 0,_,_=>rfl
 | d+1,z,s=>qwd (fun n a=>qd9 d n a) _ _ _
def LatC (s e:Nat)(rs:List Row):Prop:=∀ (j:Nat) (r:Row),rs[j]?=some r→s+j<r.no∧r.no≤e∧∀ m,r.yes=.goto m→s+j<m∧m≤e
theorem LatC.le {e e':Nat}{rs:List Row}(h:LatC s e rs)(l:e≤e'):LatC s e' rs:=fun j r hj=>by
 obtain ⟨a,b,c⟩:=h j r hj;exact ⟨a,by omega,fun m hm=>⟨(c m hm).1,by have:=(c m hm).2; omega⟩⟩
theorem LatC.app {e:Nat}{rs qs:List Row}(h:LatC s e rs)(k:LatC (s+rs.length) e qs):LatC s e (rs++qs):=fun j r hj=>by
 by_cases c:j<rs.length
 ·rw [List.getElem?_append_left c] at hj
  exact h j r hj
 ·rw [List.getElem?_append_right (by omega)] at hj
  have:=k _ r hj;rw [show s+rs.length+(j - rs.length)=s+j by omega] at this;exact this
theorem LatC.one {e:Nat}{r:Row}(h1:s<r.no)(h2:r.no≤e)(h3:∀ m,r.yes=.goto m→s<m∧m≤e):LatC s e [r]:=fun j x hj=>by
 match j,hj with
 | 0,hj =>
  cases hj;exact ⟨h1,h2,h3⟩
 | j+1,hj=>cases hj
theorem qxd {sub:Str→Nat→List Row}{z:Str}{en:Nat}(h:∀ n a,LatC a (a+(sub n a).length) (sub n a)):∀ (us:List Ru) (i a:Nat),a+(qq3 sub z en us i a).length≤en→LatC a en (qq3 sub z en us i a)
 | [],_,_,_=>fun j r hj=>by cases hj
 | u::us,i,a,le=>by
  unfold qq3 at le ⊢;rw [List.length_cons,List.length_append] at le;have ih:=qxd h (z:=z) (en:=en) us (i+1) (a+1+(qn1 sub u a).length) (by omega)
  have lm:LatC (a+1) en (qn1 sub u a):=by
   have key:LatC (a+1) (a+1+(qn1 sub u a).length) (qn1 sub u a):=by
    unfold qn1
    cases qx2 u with
    | none=>exact fun j r hj=>by cases hj
    | some n=>exact h n (a+1)
   exact key.le (by omega)
  have one:LatC a en [(⟨z,i,u.2,qza en a u.1,a+1+(qn1 sub u a).length⟩:Row)]:=LatC.one (by show a<a+1+_; omega) (by show a+1+_≤en; omega) fun m hm=>by
   have hm:qza en a u.1=.goto m:=hm
   cases hu:u.1 with
   | word w=>rw [hu] at hm; cases hm
   | back=>rw [hu] at hm; cases hm; omega
   | call n=>rw [hu] at hm; cases hm; omega
  exact LatC.app (rs:=[_]) one (LatC.app lm ih)
theorem qlh {cs:Chs}:∀ (d:Nat) (z:Str) (s:Nat),LatC s (s+(qd1 cs d z s).length) (qd1 cs d z s)
 | 0,_,_=>fun j r hj=>by cases hj
 | d+1,z,s=>by
  have e:(qd1 cs (d+1) z s).length=lenC cs (d+1) z:=qd9 (d+1) z s;rw [e];have e:(qq3 (qd1 cs d) z (s+lenC cs (d+1) z) (chOf cs z) 0 s).length=lenC cs (d+1) z:=e;exact qxd (sub:=qd1 cs d) (fun n a=>qlh d n a) _ _ _ (by omega)
theorem qp6 {cs:Chs}{z:Str}:qkl (qd1 cs d z 0):=fun i r hi=>by
 have:=qlh d z 0 i r hi;rw [Nat.zero_add,Nat.zero_add] at this;exact this
def RowOf (cs:Chs)(r:Row):Prop:=∃ c∈cs,c.1=r.nm∧∃ u,c.2[r.ix]?=some u∧r.bp=u.2∧∀ z,r.yes=.word z→u.1=.word z
theorem qtm {cs:Chs}{z:Str}{u:Ru}(h:(chOf cs z)[i]?=some u):∃ c∈cs,c.1=z∧c.2=chOf cs z:=by
 unfold chOf at h ⊢
 induction cs with
 | nil=>cases h
 | cons c cs ih =>
  rw [List.lookup_cons] at h ⊢
  by_cases e:z=c.1
  ·rw [beq_iff_eq.mpr e]
   exact ⟨c,List.mem_cons_self,e.symm,rfl⟩
  ·have e':(z == c.1)=false:=beq_eq_false_iff_ne.mpr e
   rw [e'] at h ⊢;obtain ⟨c',hc,h1,h2⟩:=ih h;exact ⟨c',List.mem_cons_of_mem _ hc,h1,h2⟩
theorem qkh {cs:Chs}{sub:Str→Nat→List Row}{z:Str}{en:Nat}(h:∀ n a,∀ r∈sub n a,RowOf cs r):∀ (us:List Ru) (i a:Nat),us=(chOf cs z).drop i→∀ r∈qq3 sub z en us i a,RowOf cs r
 | [],_,_,_,r,hr=>by cases hr
 | u::us,i,a,eu,r,hr=>by
  have e0:(chOf cs z)[i]?=some u:=by
   have:=congrArg (·[0]?) eu
   simpa [List.getElem?_drop] using this.symm
  have e1:us=(chOf cs z).drop (i+1):=by
   have:=congrArg List.tail eu
   simpa [List.tail_drop] using this
  unfold qq3 at hr
  rcases List.mem_cons.mp hr with rfl | hr
  ·obtain ⟨c,hc,c1,c2⟩:=qtm e0
   refine ⟨c,hc,c1,u,by rw [c2]; exact e0,rfl,fun w hw=>?_⟩;have hw:qza en a u.1=.word w:=hw
   cases hu:u.1 with
   | word x=>rw [hu] at hw; cases hw; rfl
   | back=>rw [hu] at hw; cases hw
   | call n=>rw [hu] at hw; cases hw
  ·rcases List.mem_append.mp hr with hr | hr
   ·unfold qn1 at hr
    cases hc:qx2 u with
    | none=>rw [hc] at hr; cases hr
    | some n=>rw [hc] at hr; exact h n (a+1) r hr
   ·exact qkh h us (i+1) _ e1 r hr
theorem qz7 {cs:Chs}:∀ (d:Nat) (z:Str) (s:Nat),∀ r∈qd1 cs d z s,RowOf cs r
 | 0,_,_,r,hr=>by cases hr
 | d+1,z,s,r,hr=>qkh (fun n a=>qz7 d n a) _ 0 s (by rw [List.drop_zero]) r hr
theorem qo6 {sub:Str→Nat→List Row}{z:Str}{en:Nat}(u:Ru)(us:List Ru)(i a:Nat):qq3 sub z en (u::us) i a=⟨z,i,u.2,qza en a u.1,a+1+(qn1 sub u a).length⟩::(qn1 sub u a++qq3 sub z en us (i+1) (a+1+(qn1 sub u a).length)):=rfl
abbrev Pl3:=Str×Nat×Nat
structure Sub (cs:Chs)(sub:Str→Nat→List Row)(ln:Str→Nat):Prop where
 eq:∀ c∈cs,∀ a,sub c.1 a=qq3 sub c.1 (a+ln c.1) (chOf cs c.1) 0 a
 len:∀ c∈cs,∀ a,(sub c.1 a).length=ln c.1
def stk (cs:Chs)(sub:Str→Nat→List Row):List Pl3→Nat→List Row
 | [],_=>[]
 | (z,i,en)::st,a=>qq3 sub z en ((chOf cs z).drop i) i a++stk cs sub st (a+(qq3 sub z en ((chOf cs z).drop i) i a).length)
theorem qku {cs:Chs}{sub:Str→Nat→List Row}{z:Str}{en a:Nat}{st:List Pl3}(h:(chOf cs z)[i]?=none):stk cs sub ((z,i,en)::st) a=stk cs sub st a:=by
 have e:(chOf cs z).drop i=[]:=List.drop_eq_nil_of_le (List.getElem?_eq_none_iff.mp h);rw [stk,e];show []++stk cs sub st (a+0)=_;rw [Nat.add_zero,List.nil_append]
theorem qlp {cs:Chs}{sub:Str→Nat→List Row}{z:Str}{en a:Nat}{st:List Pl3}{u:Ru}(h:(chOf cs z)[i]?=some u):stk cs sub ((z,i,en)::st) a=⟨z,i,u.2,qza en a u.1,a+1+(qn1 sub u a).length⟩::(qn1 sub u a++stk cs sub ((z,i+1,en)::st) (a+1+(qn1 sub u a).length)):=by
 have e:(chOf cs z).drop i=u::(chOf cs z).drop (i+1):=by
  obtain ⟨lt,e⟩:=List.getElem?_eq_some_iff.mp h;rw [← e,← List.drop_eq_getElem_cons lt]
 rw [stk,e,qo6,stk];rw [List.cons_append,List.append_assoc,List.length_cons,List.length_append]
 congr 4
 omega
theorem qwg {cs:Chs}{sub:Str→Nat→List Row}{z:Str}{en a:Nat}{st:List Pl3}{u:Ru}(h:(chOf cs z)[i]?=some u)(n:qx2 u=none):stk cs sub ((z,i,en)::st) a=⟨z,i,u.2,qza en a u.1,a+1⟩::stk cs sub ((z,i+1,en)::st) (a+1):=by
 rw [qlp h];unfold qn1;rw [n];rfl
theorem qlu {cs:Chs}{sub:Str→Nat→List Row}(S:Sub cs sub ln){z n:Str}{en a:Nat}{st:List Pl3}(h:(chOf cs z)[i]?=some (.call n,p)){c:Str×List Ru}(hc:c∈cs)(e:c.1=n) :
  stk cs sub ((z,i,en)::st) a=⟨z,i,p,.goto (a+1),a+1+ln n⟩::stk cs sub ((n,0,a+1+ln n)::(z,i+1,en)::st) (a+1):=by
 subst e;have ml:(qn1 sub (.call c.1,p) a).length=ln c.1:=S.len c hc (a+1);rw [qlp h,ml];show (⟨z,i,p,.goto (a+1),a+1+ln c.1⟩:Row)::(sub c.1 (a+1)++_)=_
 conv=>rhs; rw [stk]
 rw [List.drop_zero,← S.eq c hc,S.len c hc]
theorem qca {sub sub':Str→Nat→List Row}{z:Str}{en:Nat}:∀ {us:List Ru} {i a:Nat},(∀ n∈qu us,∀ a,sub n a=sub' n a)→qq3 sub z en us i a=qq3 sub' z en us i a
 | [],_,_,_=>rfl
 | u::us,i,a,h=>by
  have m:qn1 sub u a=qn1 sub' u a:=by
   unfold qn1
   cases e:qx2 u with
   | none=>rfl
   | some n=>exact h n (List.mem_filterMap.mpr ⟨u,List.mem_cons_self,e⟩) (a+1)
  have ih:=qca (sub:=sub) (sub':=sub') (z:=z) (en:=en) (us:=us) (i:=i+1) (a:=a+1+(qn1 sub' u a).length) fun n hn=>h n (by
   obtain ⟨v,hv,e⟩:=List.mem_filterMap.mp hn
   exact List.mem_filterMap.mpr ⟨v,List.mem_cons_of_mem _ hv,e⟩)
  rw [qo6,qo6,m,ih]
theorem qll {f g:Str→Nat}{us:List Ru}(h:∀ n∈qu us,f n=g n):wt f us=wt g us:=by
 unfold wt;rw [List.map_congr_left h]
section
variable {cs:Chs}{len:Str→Int}{rank:Str→Nat}
theorem quc (nd:(cs.map (·.1)).Nodup)(cl:qha cs)(L:Lens cs len rank):∀ (d:Nat),∀ c∈cs,rank c.1<d→lenC cs d c.1=(len c.1).toNat
 | 0,_,_,h=>absurd h (Nat.not_lt_zero _)
 | d+1,c,hc,h=>by
  rw [ln_wt cl L hc,lenC,qo7 nd hc];refine qll fun n hn=>?_;obtain ⟨c',hc',e⟩:=List.mem_map.mp (cl c hc n hn);have:=L.dn c hc n hn;rw [← e];exact quc nd cl L d c' hc' (by rw [e]; omega)
theorem qul (nd:(cs.map (·.1)).Nodup)(cl:qha cs)(L:Lens cs len rank):∀ (d:Nat),∀ c∈cs,rank c.1<d→∀ s,qd1 cs (d+1) c.1 s=qd1 cs d c.1 s
 | 0,_,_,h,_=>absurd h (Nat.not_lt_zero _)
 | d+1,c,hc,h,s=>by
  rw [qd1,qd1,quc nd cl L (d+1+1) c hc (by omega),quc nd cl L (d+1) c hc h];refine qca fun n hn a=>?_;rw [qo7 nd hc] at hn;obtain ⟨c',hc',e⟩:=List.mem_map.mp (cl c hc n hn);have:=L.dn c hc n hn;rw [← e];exact qul nd cl L d c' hc' (by rw [e]; omega) a
theorem qfq (nd:(cs.map (·.1)).Nodup)(cl:qha cs)(L:Lens cs len rank){D:Nat}(hD:∀ c∈cs,rank c.1<D):Sub cs (qd1 cs D) (fun n=>(len n).toNat) :=
 ⟨fun c hc a=>by
  rw [← qul nd cl L D c hc (hD c hc),qd1,quc nd cl L (D+1) c hc (Nat.lt_succ_of_lt (hD c hc))],fun c hc a=>by
  rw [qd9,quc nd cl L D c hc (hD c hc)]⟩
end
section
variable {cRu cWo cBa cCa cBo:Addr}
theorem box_go (T:Txt K cRu cWo cBa cCa){H:Hp}{r:Rl}(h:IsRule cWo cBa cCa H a r p)(q:Q (.ref p) H):FldR K "box" (.ref a) H Q:=by
 obtain ⟨dx,h⟩:=h
 cases r with
 | word w=>exact FldR.go h T.cls_Word T.nb_Word rfl q
 | back=>exact FldR.go h T.cls_Back T.nb_Back rfl q
 | call n=>exact FldR.go h T.cls_Call T.nb_Call rfl q
def qwj (cWo cBa cCa cBo:Addr):Sp:=fun vs H Q _=>∃ (b:Addr) (df:Str) (cs:Chs) (len:Str→Int) (c:Str×List Ru),vs=[.ref b,.str c.1]∧IsBook cWo cBa cCa cBo H b df cs len∧c∈cs∧Q (.int (len c.1)) H
theorem qr9 (F:Fun K "length_of" "Book.length_of" qq2 f fd)(T:TxB K cRu cWo cBa cCa cBo):FnOk P w K mg base CX0 1 f fd ["self","name"] (qwj cWo cBa cCa cBo):=by
 refine F.ok qn9 (by walk_at "l") (fun cdv A outer s H vs Q E hr h=>?_);obtain ⟨b,df,cs,len,c,rfl,⟨dx,kd,o,ps,ld,ls,hb,hkd,hc,hld,lks⟩,hm,q⟩:=h;refine ⟨_,(qg (qm (qk7 (qu9 hr) (qe8 (pv 0) rfl) (pv 1) (fun _ _=>rfl)))),?_⟩;rw [qk9];walk_at "s";refine FldR.go hb T.cls T.n_lengths (qme kd) ?_;exact qx5 (.inl hld) (lks c hm) q
def qnj (cWo cBa cCa:Addr):Sp:=fun vs H Q _=>∃ (a p:Addr) (r:Rl) (n en:Nat),vs=[.ref a,.int (n:Int),.int (en:Int)]∧n≤1000∧IsRule cWo cBa cCa H a r p∧Q (qza en n r).v H
theorem qir (F:Fun K "yes_of" "yes_of" qa9 f fd)(b_isinstance:mg "isinstance"=none)(m_Word:mg "Word"=some (.ref cWo))(m_Back:mg "Back"=some (.ref cBa))(T:Txt K cRu cWo cBa cCa):FnOk P w K mg base CX0 1 f fd ["rule","number","end"] (qnj cWo cBa cCa):=by
 refine F.ok qbq (by walk_at "l") (fun cdv A outer s H vs Q E hr h=>?_);obtain ⟨a,p,r,n,en,rfl,n1,⟨dx,ha⟩,q⟩:=h;refine ⟨_,(qc (ql1 (qh6 (qy qr7 rfl b_isinstance qo2 (qa (pv 0) (qa (qu3 (v:=.ref cWo) rfl m_Word rfl) qd)))) (qg (qm (qe8 (pv 0) rfl))) qn0) (qc (ql1 (qh6 (qy qr7 rfl b_isinstance qo2 (qa (pv 0) (qa (qu3 (v:=.ref cBa) rfl m_Back rfl) qd)))) (qg (qm (pv 2))) qn0) (qg (qm (qj qb1 (pv 1) qf))))),?_⟩;rw [qnp];walk_at "s"
 cases r with
 | word z =>
  refine ⟨_,_,_,_,rfl,.ins ha T.cls_Word T.cl_Word T.gs T.tk T.ob_Word,T.i_Word_Word,?_⟩;walk_at "s";exact FldR.go ha T.cls_Word T.nw (qg9 qvd.symm _ _) q
 | back =>
  refine ⟨_,_,_,_,rfl,.ins ha T.cls_Back T.cl_Back T.gs T.tk T.ob_Back,T.i_Back_Word,?_⟩;walk_at "s";refine ⟨_,_,_,_,rfl,.ins ha T.cls_Back T.cl_Back T.gs T.tk T.ob_Back,T.i_Back_Back,?_⟩;walk_at "s";exact q
 | call z =>
  refine ⟨_,_,_,_,rfl,.ins ha T.cls_Call T.cl_Call T.gs T.tk T.ob_Call,T.i_Call_Word,?_⟩;walk_at "s";refine ⟨_,_,_,_,rfl,.ins ha T.cls_Call T.cl_Call T.gs T.tk T.ob_Call,T.i_Call_Back,?_⟩;walk_at "s";exact q
def qtp (cWo cBa cCa cBo:Addr):Sp:=fun vs H Q _=>∃ (b a p:Addr) (df:Str) (cs:Chs) (len:Str→Int) (r:Rl) (n:Nat),vs=[.ref b,.ref a,.int (n:Int)]∧IsBook cWo cBa cCa cBo H b df cs len∧IsRule cWo cBa cCa H a r p∧(∀ z,r=.call z→∃ c∈cs,c.1=z)∧Q (.int ((n:Int)+1+((qx2 (r,p)).map len).getD 0)) H
theorem qov (F:Fun K "no_of" "no_of" qsb f fd)(gm_Book_length_of:FnM P w K mg base cBo "length_of" 1 ["self","name"] (qwj cWo cBa cCa cBo))(b_isinstance:mg "isinstance"=none)(m_Call:mg "Call"=some (.ref cCa))(T:TxB K cRu cWo cBa cCa cBo):FnOk P w K mg base CX0 2 f fd ["book","rule","number"] (qtp cWo cBa cCa cBo):=by
 refine F.ok qvu (by walk_at "l") (fun _ _ _ _ H _ Q E hr h=>?_);obtain ⟨b,a,p,df,cs,len,r,n,rfl,bk,⟨dx,ha⟩,hc,q⟩:=h;refine ⟨_,(qc (ql1 (qh6 (qy qr7 rfl b_isinstance qo2 (qa (pv 1) (qa (qu3 (v:=.ref cCa) rfl m_Call rfl) qd)))) (qg (qm (qj qb1 (qj qb1 (pv 2) qf) (qam (pv 0) hr (qa (qe8 (pv 1) rfl) qd))))) qn0) (qg (qm (qj qb1 (pv 2) qf)))),?_⟩;rw [qnu];walk_at "s"
 cases r with
 | word z =>
  refine ⟨_,_,_,_,rfl,.ins ha T.cls_Word T.cl_Word T.gs T.tk T.ob_Word,T.i_Word_Call,?_⟩;walk_at "s";have e:(((n:Int)+1)+((qx2 (.word z,p)).map len).getD 0)=(n:Int)+1:=Int.add_zero _;rw [e] at q;exact q
 | back =>
  refine ⟨_,_,_,_,rfl,.ins ha T.cls_Back T.cl_Back T.gs T.tk T.ob_Back,T.i_Back_Call,?_⟩;walk_at "s";have e:(((n:Int)+1)+((qx2 (.back,p)).map len).getD 0)=(n:Int)+1:=Int.add_zero _;rw [e] at q;exact q
 | call z =>
  refine ⟨_,_,_,_,rfl,.ins ha T.cls_Call T.cl_Call T.gs T.tk T.ob_Call,T.i_Call_Call,?_⟩;obtain ⟨c,hcm,rfl⟩:=hc z rfl;obtain ⟨dx',kd,o,ps,ld,ls0,hb,_⟩:=id bk;walk_at "s";refine MethR.go gm_Book_length_of hb T.cls (bk_no (by decide) (by decide) (by decide)) (by decide) ?_;walk_at "s";refine FldR.go ha T.cls_Call T.nn (qg9 qd6.symm _ _) ?_;walk_at "s";refine ⟨b,df,cs,len,c,rfl,bk,hcm,?_⟩;walk_at "s";exact q
def Pl3At (H:Hp)(v:V)(p:Pl3):Prop:=∃ t,v=.ref t∧H t=some (.tup [.str p.1,.int (p.2.1:Int),.int (p.2.2:Int)])
theorem Pl3At.mono {H H':Hp}{v:V}{p:Pl3}(h:Pl3At H v p)(k:∀ a xs,H a=some (.tup xs)→H' a=some (.tup xs)):Pl3At H' v p:=by
 obtain ⟨t,e,h⟩:=h;exact ⟨t,e,k _ _ h⟩
def pl3D (p:Pl3):PyData:=.tuple [.str p.1,.int (p.2.1:Int),.int (p.2.2:Int)]
theorem pl3_dts {H:Hp}{ws:List V}{st:List Pl3}(h:All2 (Pl3At H) ws st):Dts H ws (st.map pl3D):=by
 induction h with
 | nil=>exact .nil
 | cons h _ ih =>
  obtain ⟨t,rfl,h⟩:=h;exact .cons (.tup (.inl h) (.cons (.str _) (.cons (.int _) (.cons (.int _) .nil)))) ih
theorem qsq:∀ {st:List Pl3},(∀ p∈st,PyData.strOk p.1=true)→PyData.canLayAll0 (st.map pl3D)=true
 | [],_=>by simp [PyData.canLayAll0]
 | p::st,h=>by
  rw [List.map_cons,PyData.canLayAll0.eq_2,qsq fun y hy=>h y (List.mem_cons_of_mem _ hy)];simp [pl3D,PyData.canLay0,PyData.canLayAll0,h p List.mem_cons_self]
theorem qln {st:List Pl3}(h:∀ p∈st,PyData.strOk p.1=true):SeqAt.shaped (.list (st.map pl3D))=true:=by
 have a:=qsq h;have b:=qc2 pl3D (n:=3) (fun z=>by simp [pl3D,PyData.depth,PyData.depthAll]) st;exact qc4 (by simp [PyData.canLay0,a]) (by simp only [PyData.depth]; omega)
theorem qtr {H:Hp}{b:Addr}{ws:List V}{st:List Pl3}(ha:H a=some (.lst ws.reverse))(al:All2 (Pl3At H) ws st)(hb:H b=some (.lst []))(ok:∀ p∈st,PyData.strOk p.1=true)(q:Q (.bl (!decide (st=[]))) H):rEqD true (.ref a) (.ref b) H Q:=by
 have ok':∀ p∈st.reverse,PyData.strOk p.1=true:=fun p hp=>ok p (List.mem_reverse.mp hp);refine ⟨.list (st.reverse.map pl3D),.list [],.lst (.inl ha) (pl3_dts al.rev),.lst (.inl hb) .nil,qln ok',by decide,?_⟩
 have e:PyData.eqv (.list (st.reverse.map pl3D)) (.list [])=decide (st=[]):=by
  cases st with
  | nil=>rfl
  | cons z r =>
   rw [decide_eq_false (by intro c; cases c),List.reverse_cons,List.map_append]
   cases hx:(r.reverse.map pl3D) with
   | nil=>simp [PyData.eqv,PyData.eqvAll]
   | cons _ _=>simp [PyData.eqv,PyData.eqvAll]
 rw [e];exact q
def RwP (H:Hp)(v:V)(r:Row):Prop:=∃ t,v=.ref t∧H t=some (.tup r.vs)
theorem RwP.mono {H H':Hp}{v:V}{r:Row}(h:RwP H v r)(k:∀ a xs,H a=some (.tup xs)→H' a=some (.tup xs)):RwP H' v r:=by
 obtain ⟨t,e,h⟩:=h;exact ⟨t,e,k _ _ h⟩
def qtu (cWo cBa cCa cBo:Addr):Sp:=fun vs H Q _=>∃ (b:Addr) (df:Str) (cs:Chs) (len:Str→Int) (rank:Str→Nat) (D:Nat),vs=[.ref b]∧IsBook cWo cBa cCa cBo H b df cs len∧qw9 cs∧Lens cs len rank∧("main":Str)∈cs.map (·.1)∧len "main"≤120∧(∀ c∈cs,rank c.1<D) ∧
 ∀ rl vr H',H rl=none→Same H H'→H' rl=some (.lst vr)→All2 (RwP H') vr (qd1 cs D "main" 0)→(qd1 cs D "main" 0).length=(len "main").toNat→Q (.ref rl) H'
theorem qlk (F:Fun K "unfolded" "unfolded" qc6 f fd)(gm_Book_length:FnM P w K mg base cBo "length" 1 ["self"] (qff cWo cBa cCa cBo))(gm_Book_rule_at:FnM P w K mg base cBo "rule_at" 1 ["self","name","index"] (qdf cWo cBa cCa cBo))(g_yes_of:Fn P w K mg base "yes_of" 1 ["rule","number","end"] (qnj cWo cBa cCa))(g_no_of:Fn P w K mg base "no_of" 2 ["book","rule","number"] (qtp cWo cBa cCa cBo))
  (c_MAIN:∃ u,mg "MAIN"=some u∧RelV (.str "main") u) (b_isinstance:mg "isinstance"=none) (b_len:mg "len"=none) (m_Call:mg "Call"=some (.ref cCa)) (T:TxB K cRu cWo cBa cCa cBo):FnOk P w K mg base CX0 3 f fd ["book"] (qtu cWo cBa cCa cBo):=by
 refine F.ok qt3 (by walk_at "l") (fun _ _ _ _ H _ Q E hr h=>?_);obtain ⟨b,df,cs,len,rank,D,rfl,bk,nok,lens,hmain,top,hD,k⟩:=h;obtain ⟨nd,cl,_,oks⟩:=id nok;obtain ⟨_,m_MAIN,r_MAIN⟩:=c_MAIN;obtain ⟨cm,hcm,ecm⟩:=List.mem_map.mp hmain;obtain ⟨dx,kd,o,ps,ld,ls0,hb,_⟩:=id bk;have S:=qfq nd cl lens hD
 have fl:(qd1 cs D "main" 0).length=(len "main").toNat:=by
  have:=S.len cm hcm 0;rw [ecm] at this;exact this
 have full:stk cs (qd1 cs D) [("main",0,(len "main").toNat)] 0=qd1 cs D "main" 0:=by
  have:=S.eq cm hcm 0;rw [ecm,Nat.zero_add] at this;rw [stk,stk,List.append_nil,List.drop_zero,← this]
 have pos:∀ c∈cs,0≤len c.1:=fun c hc=>qgm cl lens _ c hc (Nat.lt_succ_self _)
 have pm:len "main"=(((len "main").toNat:Nat):Int):=by
  have:=pos cm hcm;rw [ecm] at this;omega
 generalize hfull:qd1 cs D "main" 0=R at *;refine ⟨_,(qc (qi (i:=1) qt3.nd rfl (Or.inl rfl) (qe1 qd)) (qc (qi (i:=2) qt3.nd rfl (Or.inl rfl) (qe1 (qa (qv0 (qa (qu3 rfl m_MAIN r_MAIN) (qa qf (qa (qvq (pv 0) hr) qd)))) qd))) (qc (qsf PassesOwn.never (qk (qzh hr.units) (pv 2) (qe1 qd) (qs0 _)) (qc (qi (i:=3) qt3.nd rfl (Or.inl rfl) (pe_bm0 PySem.F.plainAttrs_list PySem.F.slot_list_pop PySem.F.type_list_pop mt_pop (pv 2))) (qc (qi (i:=4) qt3.nd rfl (Or.inl rfl) (qam (pv 0) hr (qa (qq ql0 (pv 3) qf (fun _ _=>rfl)) (qa (qq ql0 (pv 3) qf (fun _ _=>rfl)) qd)))) (qc (ql1 (qk qai (pv 4) qw5 (qs0 _)) (qg qn8) qn0) (qc (qi (i:=5) qt3.nd rfl (Or.inl rfl) (qy qb5 rfl b_len qg8 (qa (pv 1) qd))) (qc (qi (i:=6) qt3.nd rfl (Or.inl rfl) (qf1 g_no_of hr (by decide) rfl (qa (pv 0) (qa (pv 4) (qa (pv 5) qd))))) (qc (qn2 (qp8 PySem.F.plainAttrs_list PySem.F.slot_list_append PySem.F.type_list_append qr1 (pv 1) (qa (qv0 (qa (qq ql0 (pv 3) qf (fun _ _=>rfl)) (qa (qq ql0 (pv 3) qf (fun _ _=>rfl)) (qa (qe8 (pv 4) rfl) (qa (qf1 g_yes_of hr (by decide) rfl (qa (pv 4) (qa (pv 5) (qa (qq ql0 (pv 3) qf (fun _ _=>rfl)) qd)))) (qa (pv 6) qd)))))) qd))) (qc (qn2 (qp8 PySem.F.plainAttrs_list PySem.F.slot_list_append PySem.F.type_list_append qr1 (pv 2) (qa (qv0 (qa (qq ql0 (pv 3) qf (fun _ _=>rfl)) (qa (qj qb1 (qq ql0 (pv 3) qf (fun _ _=>rfl)) qf) (qa (qq ql0 (pv 3) qf (fun _ _=>rfl)) qd)))) qd))) (qg (ql1 (qh6 (qy qr7 rfl b_isinstance qo2 (qa (pv 4) (qa (qu3 (v:=.ref cCa) rfl m_Call rfl) qd)))) (qg (qn2 (qp8 PySem.F.plainAttrs_list PySem.F.slot_list_append PySem.F.type_list_append qr1 (pv 2) (qa (qv0 (qa (qe8 (pv 4) rfl) (qa qf (qa (pv 6) qd)))) qd)))) qn0)))))))))) (qg (qm (pv 1)))))),?_⟩;rw [qij];walk_at "s";refine LstR.go (by simp) fun rl nrl=>?_;have s1:=qe nrl (.lst []);have hrl:upd H rl (.lst []) rl=some (.lst []):=qb0;generalize upd H rl (.lst [])=H1 at *;walk_at "s";refine MethR.go gm_Book_length (s1 _ _ hb) T.cls (bk_no (by decide) (by decide) (by decide)) (by decide) ?_;walk_at "s";refine ⟨b,df,cs,len,rfl,bk.same s1,hmain,?_⟩;rw [pm];generalize (len "main").toNat=en0 at *;refine TupR.go (by simp) fun t0 nt0=>?_;have s2:=s1.trans (qe nt0 (.tup [.str "main",.int 0,.int (en0:Int)]));have hrl2:=qe nt0 (.tup [.str "main",.int 0,.int (en0:Int)]) _ _ hrl;have ht0:upd H1 t0 (.tup [.str "main",.int 0,.int (en0:Int)]) t0=some (.tup [.str "main",.int 0,.int (en0:Int)]):=qb0;generalize upd H1 t0 (.tup [.str "main",.int 0,.int (en0:Int)])=H2 at *;refine LstR.go (by simp) fun pl npl=>?_;have s3:=s2.trans (qe npl (.lst [.ref t0]));have hrl3:=qe npl (.lst [.ref t0]) _ _ hrl2;have ht3:=qe npl (.lst [.ref t0]) _ _ ht0;have hpl:upd H2 pl (.lst [.ref t0]) pl=some (.lst [.ref t0]):=qb0;have npl0:H pl=none:=s2.free npl
 have nlp:rl≠pl:=fun e=>by
  rw [e,npl] at hrl2;cases hrl2
 generalize upd H2 pl (.lst [.ref t0])=H3 at *;walk_at "s";refine qpg (fun m σ H'=>Same H H'∧∃ (ws:List V) (st:List Pl3) (vr:List V) (rs:List Row) (y1 y2 y3 y4:Option V),σ=[some (.ref b),some (.ref rl),some (.ref pl),y1,y2,y3,y4]∧H' pl=some (.lst ws.reverse)∧H' rl=some (.lst vr)∧All2 (Pl3At H') ws st∧All2 (RwP H') vr rs∧(∀ p∈st,∃ c∈cs,c.1=p.1)∧rs++stk cs (qd1 cs D) st rs.length=R∧m=2 * (stk cs (qd1 cs D) st rs.length).length+st.length∧st.length≤rs.length+1) _
  ⟨s3,[.ref t0],[("main",0,en0)],[],[],none,none,none,none,rfl,hpl,hrl3,.cons ⟨t0,rfl,ht3⟩ .nil,.nil,(fun p hp=>by obtain rfl:=List.mem_singleton.mp hp; exact ⟨cm,hcm,ecm⟩),full,rfl,by simp⟩ fun m σ H4 pv=>?_
 obtain ⟨sm,ws,st,vr,rs,y1,y2,y3,y4,rfl,hp4,hl4,pa,la,pok,eR,rfl,stl⟩:=pv
 have rl120:rs.length+(stk cs (qd1 cs D) st rs.length).length≤120:=by
  have:=congrArg List.length eR;rw [List.length_append] at this;omega
 walk_at "s";refine LstR.go (by simp) fun e ne=>?_;have s5:=qe ne (.lst []);have he5:upd H4 e (.lst []) e=some (.lst []):=qb0;have sm5:=sm.trans s5;have hp5:=s5 _ _ hp4;have hl5:=s5 _ _ hl4;have pa5:All2 (Pl3At (upd H4 e (.lst []))) ws st:=All2.imp pa fun _ _ r=>r.mono fun _ _ z=>s5 _ _ z;have la5:All2 (RwP (upd H4 e (.lst []))) vr rs:=All2.imp la fun _ _ r=>r.mono fun _ _ z=>s5 _ _ z;generalize upd H4 e (.lst [])=H5 at *;refine qtr hp5 pa5 he5 (fun p hp=>by obtain ⟨c,hc,e⟩:=pok p hp; rw [← e]; exact oks c hc) ?_;refine ⟨_,rfl,WhL.on (fun ht=>?_) fun hf=>?_⟩
 ·cases pa5 with
  | nil=>cases ht
  | @cons w0 p0 ws st hw pa5 =>
   obtain ⟨t1,rfl,ht1⟩:=hw;obtain ⟨c,hc,ec⟩:=pok p0 List.mem_cons_self;obtain ⟨z,i,en⟩:=p0;cases ec;have ht1:H5 t1=some (.tup [.str c.1,.int (i:Int),.int (en:Int)]):=ht1;rw [List.reverse_cons] at hp5;rw [List.length_cons] at stl ⊢;walk_at "s";refine ⟨qy4 hp5,?_⟩;refine pop_go hp5 ?_;have k6:∀ a xs,H5 a=some (.tup xs)→upd H5 pl (.lst ws.reverse) a=some (.tup xs):=qu2 hp5;have sm6:Same H (upd H5 pl (.lst ws.reverse)):=sm5.put npl0;have hp6:upd H5 pl (.lst ws.reverse) pl=some (.lst ws.reverse):=qb0
   have hl6:upd H5 pl (.lst ws.reverse) rl=some (.lst vr):=by rw [qt nlp]; exact hl5
   have ht6:=k6 _ _ ht1;have pa6:All2 (Pl3At (upd H5 pl (.lst ws.reverse))) ws st:=All2.imp pa5 fun _ _ r=>r.mono k6;have la6:All2 (RwP (upd H5 pl (.lst ws.reverse))) vr rs:=All2.imp la5 fun _ _ r=>r.mono k6;generalize upd H5 pl (.lst ws.reverse)=H6 at *;have pok6:∀ p∈st,∃ c∈cs,c.1=p.1:=fun p hp=>pok p (List.mem_cons_of_mem _ hp);walk_at "ix";refine MethR.go gm_Book_rule_at (sm6 _ _ hb) T.cls (bk_no (by decide) (by decide) (by decide)) (by decide) ?_;walk_at "ix";refine ⟨b,df,cs,len,c,i,rfl,bk.same sm6,nd,hc,fun en'=>?_,fun u a eu ir=>?_⟩
   ·walk_at "ix"
    rw [← qo7 nd hc] at en';rw [qku en'] at eR ⊢;exact ⟨_,by omega,sm6,ws,st,vr,rs,_,_,_,_,rfl,hp6,hl6,pa6,la6,pok6,eR,rfl,by omega⟩
   ·rw [← qo7 nd hc] at eu
    obtain ⟨r,p⟩:=u;have vl:=All2.len la6;have wl:=All2.len pa6
    have called:∀ z,r=.call z→∃ c∈cs,c.1=z:=fun z ez=>by
     subst ez;rw [qo7 nd hc] at eu;obtain ⟨c',hc',e⟩:=List.mem_map.mp (cl c hc z (List.mem_filterMap.mpr ⟨_,List.mem_of_getElem? eu,rfl⟩));exact ⟨c',hc',e⟩
    have nn:decide (V.ref a=V.non)=false:=decide_eq_false (by intro c; cases c);walk_at "ix"
    try rw [nn]
    walk_at "ix";refine LenR.lst (SqL.of hl6) ?_;walk_at "ix";refine ⟨b,a,p,df,cs,len,r,vr.length,rfl,bk.same sm6,ir,called,?_⟩
    have mz:∃ n:Nat,((qx2 (r,p)).map len).getD 0=(n:Int)∧n=((qx2 (r,p)).map fun n=>(len n).toNat).getD 0:=by
     cases r with
     | word z=>exact ⟨0,rfl,rfl⟩
     | back=>exact ⟨0,rfl,rfl⟩
     | call z =>
      obtain ⟨c',hc',e⟩:=called z rfl;have:=pos c' hc';rw [e] at this;exact ⟨(len z).toNat,by show len z=_; omega,rfl⟩
    obtain ⟨mo,emo,hmo⟩:=mz;rw [emo,show (vr.length:Int)+1+(mo:Int)=((vr.length+1+mo:Nat):Int) by omega];walk_at "ix";refine ⟨qy4 hl6,?_⟩;walk_at "ix";refine box_go T.toTxt ir ?_;walk_at "ix";refine ixT_go (i:=2) (SqT.of ht6) rfl ?_;walk_at "ix";refine ⟨a,p,r,vr.length,en,rfl,by omega,ir,?_⟩;walk_at "ix";refine TupR.go (by simp) fun t2 nt2=>?_;have rwe:([.str c.1,.int (i:Int),.ref p,(qza en vr.length r).v,.int ((vr.length+1+mo:Nat):Int)]:List V)=Row.vs ⟨c.1,i,p,qza en vr.length r,vr.length+1+mo⟩:=rfl;rw [rwe];clear rwe;generalize hrow:(⟨c.1,i,p,qza en vr.length r,vr.length+1+mo⟩:Row)=row at *;have z7:=qe nt2 (.tup row.vs);have ht2:=qb0 (H:=H6) (a:=t2) (o:=.tup row.vs);generalize upd H6 t2 (.tup row.vs)=H7 at *;have sm7:=sm6.trans z7;refine qm6 (z7 _ _ hl6) (by omega) ?_;have k8:∀ a xs,H7 a=some (.tup xs)→upd H7 rl (.lst (vr++[.ref t2])) a=some (.tup xs):=qu2 (z7 _ _ hl6);have sm8:Same H (upd H7 rl (.lst (vr++[.ref t2]))):=sm7.put nrl
    have hp8:upd H7 rl (.lst (vr++[.ref t2])) pl=some (.lst ws.reverse):=by rw [qt nlp.symm]; exact z7 _ _ hp6
    have hl8:upd H7 rl (.lst (vr++[.ref t2])) rl=some (.lst (vr++[.ref t2])):=qb0;have ht8:=k8 _ _ (z7 _ _ ht6);have pa8:All2 (Pl3At (upd H7 rl (.lst (vr++[.ref t2])))) ws st:=All2.imp pa6 fun _ _ r=>r.mono fun _ _ z=>k8 _ _ (z7 _ _ z);have la8:All2 (RwP (upd H7 rl (.lst (vr++[.ref t2])))) (vr++[.ref t2]) (rs++[row]):=(All2.imp la6 fun _ _ r=>r.mono fun _ _ z=>k8 _ _ (z7 _ _ z)).snoc ⟨t2,rfl,k8 _ _ ht2⟩
    have ir8:IsRule cWo cBa cCa (upd H7 rl (.lst (vr++[.ref t2]))) a r p:=by
     obtain ⟨dxr,ha⟩:=ir;have ha7:=z7 _ _ ha;exact ⟨dxr,by rw [qt (qmk ha7 (z7 _ _ hl6) (by intro z; cases z))]; exact ha7⟩
    generalize upd H7 rl (.lst (vr++[.ref t2]))=H8 at *;walk_at "ix";refine ⟨qy4 hp8,?_⟩;walk_at "ix";refine ixT_go (i:=2) (SqT.of ht8) rfl ?_;walk_at "ix";rw [show (i:Int)+1=((i+1:Nat):Int) by omega];refine TupR.go (by simp) fun t3 nt3=>?_;have z9:=qe nt3 (.tup [.str c.1,.int ((i+1:Nat):Int),.int (en:Int)]);have ht3':=qb0 (H:=H8) (a:=t3) (o:=.tup [.str c.1,.int ((i+1:Nat):Int),.int (en:Int)]);generalize upd H8 t3 (.tup [.str c.1,.int ((i+1:Nat):Int),.int (en:Int)])=H9 at *;refine qm6 (z9 _ _ hp8) (by rw [List.length_reverse]; omega) ?_;have k10:∀ a xs,H9 a=some (.tup xs)→upd H9 pl (.lst (ws.reverse++[.ref t3])) a=some (.tup xs):=qu2 (z9 _ _ hp8);have sm10:Same H (upd H9 pl (.lst (ws.reverse++[.ref t3]))):=(sm8.trans z9).put npl0
    have hp10:upd H9 pl (.lst (ws.reverse++[.ref t3])) pl=some (.lst (V.ref t3::ws).reverse):=by rw [qb0,List.reverse_cons]
    have hl10:upd H9 pl (.lst (ws.reverse++[.ref t3])) rl=some (.lst (vr++[.ref t2])):=by rw [qt nlp]; exact z9 _ _ hl8
    have pa10:All2 (Pl3At (upd H9 pl (.lst (ws.reverse++[.ref t3])))) (V.ref t3::ws) ((c.1,i+1,en)::st):=.cons ⟨t3,rfl,k10 _ _ ht3'⟩ (All2.imp pa8 fun _ _ r=>r.mono fun _ _ z=>k10 _ _ (z9 _ _ z));have la10:All2 (RwP (upd H9 pl (.lst (ws.reverse++[.ref t3])))) (vr++[.ref t2]) (rs++[row]):=All2.imp la8 fun _ _ r=>r.mono fun _ _ z=>k10 _ _ (z9 _ _ z)
    have ir10:IsRule cWo cBa cCa (upd H9 pl (.lst (ws.reverse++[.ref t3]))) a r p:=by
     obtain ⟨dxr,ha⟩:=ir8;have ha9:=z9 _ _ ha;exact ⟨dxr,by rw [qt (qmk ha9 (z9 _ _ hp8) (by intro z; cases z))]; exact ha9⟩
    generalize upd H9 pl (.lst (ws.reverse++[.ref t3]))=H10 at *
    have pok10:∀ p∈(c.1,i+1,en)::st,∃ c∈cs,c.1=p.1:=fun p hp=>by
     rcases List.mem_cons.mp hp with rfl | hp
     ·exact ⟨c,hc,rfl⟩
     ·exact pok6 p hp
    have rsl:(rs++[row]).length=rs.length+1:=by rw [List.length_append,List.length_singleton]
    obtain ⟨dxr,ha⟩:=ir10;walk_at "ix"
    cases r with
    | word z =>
     refine ⟨_,_,_,_,rfl,.ins ha T.cls_Word T.cl_Word T.gs T.tk T.ob_Word,T.i_Word_Call,?_⟩;walk_at "ix";obtain rfl:mo=0:=hmo;rw [qwg eu rfl,← vl,hrow] at eR ⊢;refine ⟨_,?_,sm10,V.ref t3::ws,_,vr++[.ref t2],rs++[row],_,_,_,_,rfl,hp10,hl10,pa10,la10,pok10,?_,rfl,?_⟩
     ·rw [rsl,List.length_cons,List.length_cons,← vl]
      omega
     ·rw [List.append_assoc,rsl,← vl]
      exact eR
     ·rw [rsl,List.length_cons]
      omega
    | back =>
     refine ⟨_,_,_,_,rfl,.ins ha T.cls_Back T.cl_Back T.gs T.tk T.ob_Back,T.i_Back_Call,?_⟩;walk_at "ix";obtain rfl:mo=0:=hmo;rw [qwg eu rfl,← vl,hrow] at eR ⊢;refine ⟨_,?_,sm10,V.ref t3::ws,_,vr++[.ref t2],rs++[row],_,_,_,_,rfl,hp10,hl10,pa10,la10,pok10,?_,rfl,?_⟩
     ·rw [rsl,List.length_cons,List.length_cons,← vl]
      omega
     ·rw [List.append_assoc,rsl,← vl]
      exact eR
     ·rw [rsl,List.length_cons]
      omega
    | call z =>
     refine ⟨_,_,_,_,rfl,.ins ha T.cls_Call T.cl_Call T.gs T.tk T.ob_Call,T.i_Call_Call,?_⟩;walk_at "ix";refine ⟨qy4 hp10,?_⟩;refine FldR.go ha T.cls_Call T.nn (qg9 qd6.symm _ _) ?_;walk_at "ix";obtain ⟨cz,hcz,ecz⟩:=called z rfl;have hmo:mo=(len z).toNat:=hmo;have sc:=qlu S (en:=en) (a:=rs.length) (st:=st) eu hcz ecz;rw [sc,← vl,← hmo,show (⟨c.1,i,p,.goto (vr.length+1),vr.length+1+mo⟩:Row)=row from hrow] at eR ⊢;refine TupR.go (by simp) fun t4 nt4=>?_;have z11:=qe nt4 (.tup [.str z,.int 0,.int ((vr.length+1+mo:Nat):Int)]);refine qm6 (z11 _ _ hp10) (by rw [List.length_reverse,List.length_cons]; omega) ?_;have k12:∀ a xs,upd H10 t4 (.tup [.str z,.int 0,.int ((vr.length+1+mo:Nat):Int)]) a=some (.tup xs)→upd (upd H10 t4 (.tup [.str z,.int 0,.int ((vr.length+1+mo:Nat):Int)])) pl (.lst ((V.ref t3::ws).reverse++[.ref t4])) a=some (.tup xs):=qu2 (z11 _ _ hp10);refine ⟨_,?_,(sm10.trans z11).put npl0,V.ref t4::V.ref t3::ws,(z,0,vr.length+1+mo)::(c.1,i+1,en)::st,vr++[.ref t2],rs++[row],_,_,_,_,rfl,by rw [qb0,List.reverse_cons (a:=V.ref t4)],by rw [qt nlp]; exact z11 _ _ hl10,.cons ⟨t4,rfl,k12 _ _ qb0⟩ (All2.imp pa10 fun _ _ r=>r.mono fun _ _ z=>k12 _ _ (z11 _ _ z)),All2.imp la10 fun _ _ r=>r.mono fun _ _ z=>k12 _ _ (z11 _ _ z),fun p hp=>?_,?_,rfl,?_⟩
     ·rw [rsl,List.length_cons,List.length_cons,List.length_cons,← vl]
      omega
     ·rcases List.mem_cons.mp hp with rfl | hp
      ·exact ⟨cz,hcz,ecz⟩
      ·exact pok10 p hp
     ·rw [List.append_assoc,rsl,← vl]
      exact eR
     ·rw [rsl,List.length_cons,List.length_cons]
      omega
 ·have es:st=[]:=by
   cases st with
   | nil=>rfl
   | cons _ _=>cases hf
  subst es;rw [stk,List.append_nil] at eR;subst eR;walk_at "s";exact k rl vr H5 nrl sm5 hl5 la5 fl
end
def NmOk (z:Str):Prop:=PyData.strOk z=true∧z.length≤40
def nmq (a b c:Nat):Str:=(Txt.mul "q" (a:Int)++⟨#[c]⟩)++Txt.mul "q" (b:Int)
theorem qwf (a b c:Nat):(nmq a b c).cps.toList=(List.replicate a 113++[c])++List.replicate b 113:=by
 unfold nmq;rw [qwm,qwm,mul_q,mul_q]
theorem qaw (a b c:Nat):nmq a b c≠"main":=fun h=>by
 have l:=congrArg (fun x:Str=>x.cps.toList) h;simp only [qwf] at l;have l:(List.replicate a 113++[c])++List.replicate b 113=[109,97,105,110]:=l
 cases a with
 | zero =>
  cases b with
  | zero=>simp at l
  | succ b=>simp [List.replicate_succ] at l
 | succ a=>simp [List.replicate_succ] at l
theorem nmq_ok {a b c:Nat}(hc:c<1114112)(l:a+b≤38):NmOk (nmq a b c):=by
 have e:=qwf a b c;refine ⟨?_,?_⟩
 ·show (nmq a b c).cps.all _=true
  rw [← Array.all_toList,e,List.all_eq_true];intro x hx
  have lx:x<1114112:=by
   rcases List.mem_append.mp hx with hx | hx
   ·rcases List.mem_append.mp hx with hx | hx
    ·rw [(List.mem_replicate.mp hx).2]
     decide
    ·rw [List.mem_singleton.mp hx]
     exact hc
   ·rw [(List.mem_replicate.mp hx).2]
    decide
  simp [lx]
 ·show (nmq a b c).cps.size≤40
  rw [← Array.length_toList,e];simp;omega
def lets16:Str:="abcdefghijklmnop"
theorem lets_at (h:i<16):atI lets16.cps.toList (i:Int)=some (97+i):=by
 have key:∀ i:Fin 16,lets16.cps.toList[i.val]?=some (97+i.val):=by decide +kernel
 exact qhl (key ⟨i,h⟩)
def RtX (H:Hp)(bx:Addr→Bsx)(v:V)(u:Ru):Prop:=∃ t,v=.ref t∧H t=some (.tup (u.1.told u.2))∧u.1.ok∧IsBox H u.2 (bx u.2)∧(bx u.2).length=6∧Fair (bx u.2)
theorem RtX.same {H H':Hp}{bx:Addr→Bsx}{v:V}{u:Ru}(h:RtX H bx v u)(s:Same H H'):RtX H' bx v u:=by
 obtain ⟨t,e,h1,h2,h3,h4⟩:=h;exact ⟨t,e,s _ _ h1,h2,h3.same s,h4⟩
open Classical in
noncomputable def bxOf (H:Hp)(a:Addr):Bsx:=Classical.epsilon fun bs=>IsBox H a bs∧bs.length=6∧Fair bs
theorem bxOf_at {H:Hp}{bs:Bsx}(h:IsBox H a bs)(l:bs.length=6)(f:Fair bs):IsBox H a (bxOf H a)∧(bxOf H a).length=6∧Fair (bxOf H a):=Classical.epsilon_spec (p:=fun bs=>IsBox H a bs∧bs.length=6∧Fair bs) ⟨bs,h,l,f⟩
def RtL (H:Hp)(v:V)(u:Ru):Prop:=∃ t bs,v=.ref t∧H t=some (.tup (u.1.told u.2))∧u.1.ok∧IsBox H u.2 bs∧bs.length=6∧Low bs
theorem RtL.x {H:Hp}{v:V}{u:Ru}(h:RtL H v u):RtX H (bxOf H) v u:=by
 obtain ⟨t,bs,e,h1,h2,h3,h4,h5⟩:=h;exact ⟨t,e,h1,h2,bxOf_at h3 h4 (h5.fair (by omega))⟩
theorem RtX.at {H:Hp}{bx:Addr→Bsx}{v:V}{u:Ru}(h:RtX H bx v u):RtAt H v u:=by
 obtain ⟨t,e,h1,h2,_⟩:=h;exact ⟨t,e,h1,h2⟩
def HaX (H:Hp)(bx:Addr→Bsx)(v:V)(c:Str×List Ru):Prop:=∃ t l ts,v=.ref t∧H t=some (.tup [.str c.1,.ref l])∧H l=some (.lst ts)∧All2 (RtX H bx) ts c.2
theorem HaX.same {H H':Hp}{bx:Addr→Bsx}{v:V}{c:Str×List Ru}(h:HaX H bx v c)(s:Same H H'):HaX H' bx v c:=by
 obtain ⟨t,l,ts,e,h1,h2,h3⟩:=h;exact ⟨t,l,ts,e,s _ _ h1,s _ _ h2,All2.imp h3 fun _ _ r=>r.same s⟩
def Ranked (cs:Chs)(rank:Str→Nat):Prop:=∀ c∈cs,∀ n∈qu c.2,n∈cs.map (·.1)∧rank n<rank c.1
theorem qht {cs:Chs}(nd:(cs.map (·.1)).Nodup){a:Nat}{c:Str×List Ru}(h:cs[a]?=some c):chOf cs c.1=c.2:=by
 unfold chOf;have mc:=List.mem_of_getElem? h;clear h
 induction cs with
 | nil=>cases mc
 | cons x cs ih =>
  rw [List.map_cons,List.nodup_cons] at nd;rw [List.lookup_cons]
  rcases List.mem_cons.mp mc with rfl | mc
  ·rw [beq_self_eq_true]
   rfl
  ·have ne:c.1≠x.1:=fun e=>nd.1 (by rw [← e]; exact List.mem_map_of_mem mc)
   rw [beq_eq_false_iff_ne.mpr ne];exact ih nd.2 mc
theorem qju {H:Hp}{vs:List V}{bs cs:Bsx}(h:Strs H vs bs)(k:Strs H vs cs):bs=cs:=by
 induction h generalizing cs with
 | nil =>
  cases k;rfl
 | cons e _ ih =>
  cases k with
  | cons e' k =>
   rw [e] at e';cases e';rw [ih k]
theorem box_inj {H:Hp}{bs cs:Bsx}(h:IsBox H p bs)(k:IsBox H p cs):bs=cs:=by
 obtain ⟨vs,e,h⟩:=h;obtain ⟨us,e',k⟩:=k;rw [e] at e';cases e';exact qju h k
def lmax:Nat→Nat
 | 0=>1
 | 1=>6
 | _=>7
def GWts (cs:Chs)(bx:Addr→Bsx):Prop:=∃ es:List Bxn,es.foldr (fun e n=>(1+2 * e.2.2) * n) 1≤16708185∧(∀ e∈es,bx e.1=e.2.1∧Nar e.2.2 e.2.1)∧∀ c∈cs,∀ u∈c.2,∃ e∈es,e.1=u.2
structure Gen (H:Hp)(hs:List V)(cs:Chs)(bx:Addr→Bsx)(rank:Str→Nat):Prop where
 al:All2 (HaX H bx) hs cs
 nd:(cs.map (·.1)).Nodup
 nm:∀ c∈cs,NmOk c.1
 main:∃ us:List Ru,cs[0]?=some (("main":Str),us)
 len:cs.length≤4
 rk:Ranked cs rank
 r2:∀ c∈cs,rank c.1≤2
 four:∀ c∈cs,c.2.length≤lmax (rank c.1)
 ws:GWts cs bx
 wd:∀ c∈cs,∀ u∈c.2,∀ z,u.1=.word z→z≠""
def HaC (C:Addr)(H:Hp)(bx:Addr→Bsx)(v:V)(c:Str×List Ru):Prop:=∃ t l ts,v=.ref t∧H t=some (.tup [.str c.1,.ref l])∧l≠C∧H l=some (.lst ts)∧All2 (RtX H bx) ts c.2
theorem RtX.mono {H H':Hp}{bx:Addr→Bsx}{v:V}{u:Ru}(h:RtX H bx v u)(k:∀ a xs,H a=some (.tup xs)→H' a=some (.tup xs)):RtX H' bx v u:=by
 obtain ⟨t,e,h1,h2,h3,h4⟩:=h;exact ⟨t,e,k _ _ h1,h2,h3.mono k,h4⟩
theorem HaC.x {H:Hp}{bx:Addr→Bsx}{v:V}{c:Str×List Ru}(h:HaC C H bx v c):HaX H bx v c:=by
 obtain ⟨t,l,ts,e,h1,_,h2,h3⟩:=h;exact ⟨t,l,ts,e,h1,h2,h3⟩
theorem HaC.same {H H':Hp}{bx:Addr→Bsx}{v:V}{c:Str×List Ru}(h:HaC C H bx v c)(s:Same H H'):HaC C H' bx v c:=by
 obtain ⟨t,l,ts,e,h1,n,h2,h3⟩:=h;exact ⟨t,l,ts,e,s _ _ h1,n,s _ _ h2,All2.imp h3 fun _ _ r=>r.same s⟩
theorem HaC.upd {H:Hp}{bx:Addr→Bsx}{v:V}{c:Str×List Ru}{o:HO}(h:HaC C H bx v c)(hC:H C=some (.lst xs)):HaC C (upd H C o) bx v c:=by
 obtain ⟨t,l,ts,e,h1,n,h2,h3⟩:=h;have k:=qu2 (o:=o) hC;exact ⟨t,l,ts,e,k _ _ h1,n,by rw [qt n]; exact h2,All2.imp h3 fun _ _ r=>r.mono k⟩
theorem qed {us:List Ru}{n:Str}(h:n∈qu us):∃ u∈us,u.1=.call n:=by
 unfold qu at h;obtain ⟨u,hu,e⟩:=List.mem_filterMap.mp h;refine ⟨u,hu,?_⟩;obtain ⟨r,p⟩:=u
 cases r with
 | word w=>cases e
 | back=>cases e
 | call m=>cases e; rfl
theorem qml {ln:Str→Nat}{m:Nat}:∀ {us:List Ru},(∀ n∈qu us,ln n≤m)→wt ln us≤us.length * (1+m)
 | [],_=>Nat.zero_le _
 | u::us,h=>by
  have ih:=qml (ln:=ln) (m:=m) (us:=us) fun n hn=>h n (by
   unfold qu at hn ⊢;rw [List.filterMap_cons]
   cases qx2 u with
   | none=>exact hn
   | some _=>exact List.mem_cons_of_mem _ hn)
  rw [qej,List.length_cons,Nat.succ_mul]
  have:((qx2 u).map ln).getD 0≤m:=by
   cases hc:qx2 u with
   | none=>exact Nat.zero_le _
   | some n=>exact h n (by unfold qu; rw [List.filterMap_cons,hc]; exact List.mem_cons_self)
  omega
theorem qvk (n:Nat):lmax n≤7:=by
 unfold lmax
 split <;> decide
theorem Gen.lens {H:Hp}{hs:List V}{cs:Chs}{bx:Addr→Bsx}{rank:Str→Nat}(g:Gen H hs cs bx rank):∀ (e:Nat) (c:Str×List Ru),c∈cs→(rank c.1=0→lenC cs e c.1≤1)∧(rank c.1≤1→lenC cs e c.1≤12)∧lenC cs e c.1≤91
 | 0,c,_=>⟨fun _=>Nat.zero_le _,fun _=>Nat.zero_le _,Nat.zero_le _⟩
 | e+1,c,hc=>by
  obtain ⟨i,ei⟩:=List.getElem?_of_mem hc;have co:=qht g.nd ei;have l4:=g.four c hc
  have step:∀ m k,lmax (rank c.1)≤k→(∀ n∈qu c.2,lenC cs e n≤m)→lenC cs (e+1) c.1≤k * (1+m):=fun m k hk hm=>by
   show wt (lenC cs e) (chOf cs c.1)≤_;rw [co];exact Nat.le_trans (qml hm) (Nat.mul_le_mul (Nat.le_trans l4 hk) (Nat.le_refl _))
  have call:∀ n∈qu c.2,∃ c'∈cs,c'.1=n∧rank n<rank c.1:=fun n hn=>by
   obtain ⟨h1,h2⟩:=g.rk c hc n hn;obtain ⟨c',hc',rfl⟩:=List.mem_map.mp h1;exact ⟨c',hc',rfl,h2⟩
  have z0:rank c.1=0→lenC cs (e+1) c.1≤1:=fun r0=>by
   refine step 0 1 (by rw [r0]; decide) fun n hn=>?_;obtain ⟨_,_,_,lt⟩:=call n hn;omega
  refine ⟨z0,fun r1=>?_,?_⟩
  ·by_cases r0:rank c.1=0
   ·exact Nat.le_trans (z0 r0) (by decide)
   ·have r1:rank c.1=1:=by omega
    refine step 1 6 (by rw [r1]; decide) fun n hn=>?_;obtain ⟨c',hc',rfl,lt⟩:=call n hn;exact (Gen.lens g e c' hc').1 (by omega)
  ·refine step 12 7 (qvk _) fun n hn=>?_
   obtain ⟨c',hc',rfl,lt⟩:=call n hn;have:=g.r2 c hc;exact (Gen.lens g e c' hc').2.1 (by omega)
theorem qt9 {z:Str}{us:List Ru}:∀ {cs:Chs},cs.lookup z=some us→z∈cs.map (·.1)
 | [],h=>by cases h
 | c::cs,h=>by
  rw [List.lookup_cons] at h
  by_cases e:z=c.1
  ·rw [e]
   exact List.mem_cons_self
  ·rw [beq_eq_false_iff_ne.mpr e] at h
   exact List.mem_cons_of_mem _ (qt9 h)
theorem Gen.lim {H:Hp}{hs:List V}{cs:Chs}{bx:Addr→Bsx}{rank:Str→Nat}(g:Gen H hs cs bx rank)(e:Nat)(z:Str):lenC cs e z≤100:=by
 by_cases h:z∈cs.map (·.1)
 ·obtain ⟨c,hc,rfl⟩:=List.mem_map.mp h
  exact Nat.le_trans (g.lens e c hc).2.2 (by decide)
 ·cases e with
  | zero=>exact Nat.zero_le _
  | succ e =>
   show wt (lenC cs e) (chOf cs z)≤100
   have:chOf cs z=[]:=by
    unfold chOf
    cases hl:cs.lookup z with
    | none=>rfl
    | some us =>
     exact absurd (qt9 hl) h
   rw [this];exact Nat.zero_le _
theorem Gen.rule {H:Hp}{hs:List V}{cs:Chs}{bx:Addr→Bsx}{rank:Str→Nat}(g:Gen H hs cs bx rank){c:Str×List Ru}(hc:c∈cs){u:Ru}(hu:u∈c.2):u.1.ok∧(bx u.2).length=6∧Fair (bx u.2):=by
 obtain ⟨i,ei⟩:=List.getElem?_of_mem hc;obtain ⟨v,_,t,l,ts,_,_,_,tal⟩:=All2.ix g.al ei;obtain ⟨j,ej⟩:=List.getElem?_of_mem hu;obtain ⟨x,_,t2,_,_,ok,_,b6,fr⟩:=All2.ix tal ej;exact ⟨ok,b6,fr⟩
def Gen.rows (cs:Chs):List Row:=qd1 cs 3 "main" 0
theorem Gen.rowOk {H:Hp}{hs:List V}{cs:Chs}{bx:Addr→Bsx}{rank:Str→Nat}(g:Gen H hs cs bx rank){r:Row}(hr:r∈Gen.rows cs):(bx r.bp).length=6∧Full (bx r.bp)∧(∀ z,r.yes=.word z→PyData.strOk z=true)∧NmOk r.nm:=by
 obtain ⟨c,hc,en,u,eu,eb,ew⟩:=qz7 3 "main" 0 r hr;obtain ⟨ok,b6,fr⟩:=g.rule hc (List.mem_of_getElem? eu);rw [eb];refine ⟨b6,fun b hb=>(fr.2 b hb).1,fun z hz=>?_,by rw [← en]; exact g.nm c hc⟩;have:=ew z hz;rw [this] at ok;exact ok.2.2.2
theorem qr8:∀ es:List Bxn,(es.map fun e=>(e.2.1,1+2 * e.2.2)).foldr (fun (c:Bsx×Nat) n=>c.2 * n) 1=es.foldr (fun e n=>(1+2 * e.2.2) * n) 1
 | []=>rfl
 | e::es=>by
  rw [List.map_cons,List.foldr_cons,List.foldr_cons,qr8 es]
theorem Gen.few {H:Hp}{hs:List V}{cs:Chs}{bx:Addr→Bsx}{rank:Str→Nat}(g:Gen H hs cs bx rank){n:Nat}{bs:Bsx}(nb:Nar n bs)(df:Str)(m:Nat)(y:Yes):(qg5 (Gen.rows cs) bx df m bs y).length≤16708185:=by
 obtain ⟨es,e45,eb,ec⟩:=g.ws;have h:=qxa (rs:=Gen.rows cs) (bx:=bx) (df:=df) (U:=wholeU) (ws:=es.map fun e=>(e.2.1,1+2 * e.2.2)) rfl (fun c hc=>?_) (fun r hr=>?_) m y bs nb.sixU (nb.Low.fair (by rw [nb.six]; decide))
 ·refine Nat.le_trans h (Nat.le_trans (qdj _ bs fun c hc=>?_) ?_)
  ·obtain ⟨e,_,rfl⟩:=List.mem_map.mp hc
   show 1≤1+2 * e.2.2;omega
  ·rw [qr8]
   exact e45
 ·obtain ⟨e,he,rfl⟩:=List.mem_map.mp hc
  have ne:=(eb e he).2;exact ⟨by show 1≤1+2 * e.2.2; omega,ne.six,ne.full,fun xs hx=>ne.pieces hx⟩
 ·obtain ⟨c,hc,_,u,eu,eb',_⟩:=qz7 3 "main" 0 r hr
  obtain ⟨e,he,ee⟩:=ec c hc u (List.mem_of_getElem? eu);refine ⟨1+2 * e.2.2,List.mem_map.mpr ⟨e,he,?_⟩⟩;rw [eb',← ee,(eb e he).1]
theorem Nar.le {n:Nat}{bs:Bsx}(h:Nar n bs)(l:n≤m):Nar m bs:=⟨h.six,h.low,by
 obtain ⟨S,hS,hk⟩:=h.few
 exact ⟨S,by omega,hk⟩⟩
inductive WalkN (rs:List Row) (F:Addr→Bool) (df:Str):Yes→List (Nat×Bool)→Str→Prop where
 | word (z:Str):WalkN rs F df (.word z) [] z
 | done {i:Nat} (e:rs[i]?=none):WalkN rs F df (.goto i) [] df
 | yes {i:Nat} {r:Row} {lk:List (Nat×Bool)} {w:Str} (e:rs[i]?=some r) (y:F r.bp=true) (h:WalkN rs F df r.yes lk w):WalkN rs F df (.goto i) ((i,true)::lk) w
 | no {i:Nat} {r:Row} {lk:List (Nat×Bool)} {w:Str} (e:rs[i]?=some r) (n:F r.bp=false) (h:WalkN rs F df (.goto r.no) lk w):WalkN rs F df (.goto i) ((i,false)::lk) w
theorem WalkN.word_inv {rs:List Row}{F:Addr→Bool}{df z:Str}{lk:List (Nat×Bool)}{w:Str}(h:WalkN rs F df (.word z) lk w):lk=[]∧w=z:=by
 cases h;exact ⟨rfl,rfl⟩
theorem WalkN.end_inv {rs:List Row}{F:Addr→Bool}{df:Str}{lk:List (Nat×Bool)}{w:Str}(e:rs[i]?=none)(h:WalkN rs F df (.goto i) lk w):lk=[]∧w=df:=by
 cases h with
 | done _=>exact ⟨rfl,rfl⟩
 | yes e'=>rw [e] at e'; cases e'
 | no e'=>rw [e] at e'; cases e'
theorem WalkN.row_inv {rs:List Row}{F:Addr→Bool}{df:Str}{r:Row}{lk:List (Nat×Bool)}{w:Str}(e:rs[i]?=some r)(h:WalkN rs F df (.goto i) lk w):∃ lk',(F r.bp=true∧lk=(i,true)::lk'∧WalkN rs F df r.yes lk' w)∨(F r.bp=false∧lk=(i,false)::lk'∧WalkN rs F df (.goto r.no) lk' w):=by
 cases h with
 | done e'=>rw [e] at e'; cases e'
 | yes e' y h =>
  rw [e] at e';cases e';exact ⟨_,.inl ⟨y,rfl,h⟩⟩
 | no e' n h =>
  rw [e] at e';cases e';exact ⟨_,.inr ⟨n,rfl,h⟩⟩
abbrev Plc:=Str×Nat
abbrev Rd:=List (Plc×Bool)×Option Str
def rdGo (F:Addr→Bool)(sub:Str→Rd)(z:Str):List Ru→Nat→Rd
 | [],_=>([],none)
 | u::us,i=>if F u.2=true then (match u.1 with
   | .word w=>([((z,i),true)],some w)
   | .back=>([((z,i),true)],none)
   | .call n=>match (sub n).2 with
    | some w=>(((z,i),true)::(sub n).1,some w)
    | none=>(((z,i),true)::((sub n).1++(rdGo F sub z us (i+1)).1),(rdGo F sub z us (i+1)).2))
  else (((z,i),false)::(rdGo F sub z us (i+1)).1,(rdGo F sub z us (i+1)).2)
def rdC (F:Addr→Bool)(cs:Chs):Nat→Str→Rd
 | 0,_=>([],none)
 | d+1,z=>rdGo F (rdC F cs d) z (chOf cs z) 0
def qqq (R:List Row)(x:Nat×Bool):Plc×Bool:=(((R[x.1]?).map fun r=>(r.nm,r.ix)).getD ("",0),x.2)
theorem plc_at {R:List Row}{r:Row}{b:Bool}(e:R[i]?=some r):qqq R (i,b)=((r.nm,r.ix),b):=by
 unfold qqq;show (((R[i]?).map _).getD _,b)=_;rw [e];rfl
def Seg (R:List Row)(s:Nat)(rs:List Row):Prop:=∀ j r,rs[j]?=some r→R[s+j]?=some r
def OutR (R:List Row)(F:Addr→Bool)(df:Str)(S:Rd)(e:Nat)(lk:List (Nat×Bool))(w:Str):Prop:=match S.2 with
 | some w0=>lk.map (qqq R)=S.1∧w=w0
 | none=>∃ lk1 lk2,lk=lk1++lk2∧lk1.map (qqq R)=S.1∧WalkN R F df (.goto e) lk2 w
theorem rd_go {R:List Row}{F:Addr→Bool}{df:Str}{sub:Str→Nat→List Row}{sb:Str→Rd}{z:Str}{en:Nat}(hs:∀ n a lk w,Seg R a (sub n a)→WalkN R F df (.goto a) lk w→OutR R F df (sb n) (a+(sub n a).length) lk w) :
  ∀ (us:List Ru) (i a:Nat) (lk:List (Nat×Bool)) (w:Str),en=a+(qq3 sub z en us i a).length→Seg R a (qq3 sub z en us i a)→WalkN R F df (.goto a) lk w→OutR R F df (rdGo F sb z us i) en lk w
 | [],i,a,lk,w,ee,sg,h=>by
  have:en=a:=ee;subst this;exact ⟨[],lk,rfl,rfl,h⟩
 | u::us,i,a,lk,w,ee,sg,h=>by
  rw [qo6] at sg ee;have r0:=sg 0 _ rfl;rw [Nat.add_zero] at r0
  have sgm:Seg R (a+1) (qn1 sub u a):=fun j r hj=>by
   have:=sg (j+1) r (by rw [List.getElem?_cons_succ,List.getElem?_append_left (List.getElem?_eq_some_iff.mp hj).1]; exact hj);rw [show a+1+j=a+(j+1) by omega];exact this
  have sgr:Seg R (a+1+(qn1 sub u a).length) (qq3 sub z en us (i+1) (a+1+(qn1 sub u a).length)):=fun j r hj=>by
   have:=sg (1+(qn1 sub u a).length+j) r (by
    rw [show 1+(qn1 sub u a).length+j=((qn1 sub u a).length+j)+1 by omega,List.getElem?_cons_succ,List.getElem?_append_right (Nat.le_add_right _ _),Nat.add_sub_cancel_left]
    exact hj)
   rw [show a+1+(qn1 sub u a).length+j=a+(1+(qn1 sub u a).length+j) by omega];exact this
  have ee':en=a+1+(qn1 sub u a).length+(qq3 sub z en us (i+1) (a+1+(qn1 sub u a).length)).length:=by
   rw [List.length_cons,List.length_append] at ee;omega
  have ih:=fun lk w=>rd_go hs us (i+1) (a+1+(qn1 sub u a).length) lk w ee' sgr;obtain ⟨lk',o⟩:=h.row_inv r0
  rcases o with ⟨y,rfl,h'⟩ | ⟨n,rfl,h'⟩
  ·have y:F u.2=true:=y
   have pl:=plc_at (b:=true) r0;obtain ⟨r,p⟩:=u;rw [rdGo,if_pos y]
   cases r with
   | word w0 =>
    obtain ⟨rfl,rfl⟩:=WalkN.word_inv h';exact ⟨by rw [List.map_cons,pl]; rfl,rfl⟩
   | back=>exact ⟨[(a,true)],lk',rfl,by rw [List.map_cons,pl]; rfl,h'⟩
   | call n =>
    have o:=hs n (a+1) lk' w sgm h';show OutR R F df (match (sb n).2 with | some w=>_ | none=>_) en _ w;unfold OutR at o
    cases e:(sb n).2 with
    | some w0 =>
     rw [e] at o;exact ⟨by rw [List.map_cons,pl,o.1],o.2⟩
    | none =>
     rw [e] at o;obtain ⟨l1,l2,rfl,m1,h2⟩:=o;have o2:=ih l2 w h2
     show match (rdGo F sb z us (i+1)).2 with | some w0=>_ | none=>_
     unfold OutR at o2
     cases e2:(rdGo F sb z us (i+1)).2 with
     | some w0 =>
      rw [e2] at o2;exact ⟨by rw [List.map_cons,List.map_append,pl,m1,o2.1],o2.2⟩
     | none =>
      rw [e2] at o2;obtain ⟨l3,l4,rfl,m3,h4⟩:=o2;exact ⟨(a,true)::(l1++l3),l4,by rw [List.cons_append,List.append_assoc],by rw [List.map_cons,List.map_append,pl,m1,m3],h4⟩
  ·have n:F u.2=false:=n
   have pl:=plc_at (b:=false) r0;rw [rdGo,if_neg (by rw [n]; decide)];have o2:=ih lk' w h'
   show match (rdGo F sb z us (i+1)).2 with | some w0=>_ | none=>_
   unfold OutR at o2
   cases e2:(rdGo F sb z us (i+1)).2 with
   | some w0 =>
    rw [e2] at o2;exact ⟨by rw [List.map_cons,pl,o2.1],o2.2⟩
   | none =>
    rw [e2] at o2;obtain ⟨l3,l4,rfl,m3,h4⟩:=o2;exact ⟨(a,false)::l3,l4,rfl,by rw [List.map_cons,pl,m3],h4⟩
theorem rd_C {R:List Row}{F:Addr→Bool}{df:Str}{cs:Chs}:∀ (d:Nat) (z:Str) (s:Nat) (lk:List (Nat×Bool)) (w:Str),Seg R s (qd1 cs d z s)→WalkN R F df (.goto s) lk w→OutR R F df (rdC F cs d z) (s+(qd1 cs d z s).length) lk w
 | 0,z,s,lk,w,_,h=>⟨[],lk,rfl,rfl,h⟩
 | d+1,z,s,lk,w,sg,h=>by
  have e:(qd1 cs (d+1) z s).length=lenC cs (d+1) z:=qd9 _ _ _;rw [e];rw [qd1] at sg e;exact rd_go (fun n a lk w=>rd_C d n a lk w) (chOf cs z) 0 s lk w (by rw [e]) sg h
theorem rd_top {F:Addr→Bool}{df:Str}{cs:Chs}{z:Str}{lk:List (Nat×Bool)}{w:Str}(h:WalkN (qd1 cs d z 0) F df (.goto 0) lk w):lk.map (qqq (qd1 cs d z 0))=(rdC F cs d z).1∧w=(rdC F cs d z).2.getD df:=by
 have o:=rd_C (R:=qd1 cs d z 0) d z 0 lk w (fun j r hj=>by rw [Nat.zero_add]; exact hj) h;unfold OutR at o
 cases e:(rdC F cs d z).2 with
 | some w0 =>
  rw [e] at o;exact o
 | none =>
  rw [e] at o;obtain ⟨l1,l2,rfl,m1,h2⟩:=o;obtain ⟨rfl,rfl⟩:=WalkN.end_inv (by rw [Nat.zero_add]; exact List.getElem?_eq_none (Nat.le_refl _)) h2;exact ⟨by rw [List.append_nil]; exact m1,rfl⟩
theorem qzt {rs:List Row}{bx:Addr→Bsx}{df:Str}{x:Bsx}{y:Yes}{lk:List (Nat×Bool)}{w:Str}(h6:∀ r∈rs,(bx r.bp).length=6)(n6:ns.length=6)(hx:qr0 x ns=true)(h:qqd rs bx df x y lk w):WalkN rs (fun p=>qr0 (bx p) ns) df y lk w:=by
 induction h with
 | word z=>exact .word z
 | done e=>exact .done e
 | yes e y _ ih=>exact .yes e (y ns (n6.trans (h6 _ (List.mem_of_getElem? e)).symm) hx) ih
 | no e y _ ih=>exact .no e (y ns (n6.trans (h6 _ (List.mem_of_getElem? e)).symm) hx) ih
def PcX (H:Hp)(bx:Addr→Bsx)(p:V×V)(c:Str×List Ru):Prop:=∃ l ts,p=(V.str c.1,V.ref l)∧H l=some (.lst ts)∧All2 (RtX H bx) ts c.2
theorem qns {H:Hp}{bx:Addr→Bsx}{hs:List V}{cs:Chs}(h:All2 (HaX H bx) hs cs):∃ pps:List (V×V),All2 (fun x (p:V×V)=>∃ t,x=V.ref t∧H t=some (.tup [p.1,p.2])) hs pps∧All2 (PcX H bx) pps cs:=by
 induction h with
 | nil=>exact ⟨[],.nil,.nil⟩
 | cons h _ ih =>
  obtain ⟨ps,a,b⟩:=ih;obtain ⟨t,l,ts,e1,h1,h2,h3⟩:=h;exact ⟨(_,_)::ps,.cons ⟨t,e1,h1⟩ a,.cons ⟨l,ts,rfl,h2,h3⟩ b⟩
abbrev HdX (J:Hp)(D:Addr)(H':Hp)(p:V×V)(v:V):Prop:=∃ t l',v=.ref t∧t≠D∧l'≠D∧H' t=some (.tup [p.1,.ref l'])∧∀ l ts,p.2=.ref l→J l=some (.lst ts)→H' l'=some (.lst ts)
theorem haat_x {H H':Hp}{bx:Addr→Bsx}{cs:Chs}{vs:List V}(s:Same H H')(pc:All2 (PcX H bx) pps cs)(h:All2 (HdX H D H') pps vs)(le:∀ c∈cs,c.2.length≤1000):All2 (HaAt H') vs cs:=by
 induction pc generalizing vs with
 | nil =>
  cases h;exact .nil
 | cons p _ ih =>
  cases h with
  | cons h1 h2 =>
   obtain ⟨l,ts,rfl,g1,g2⟩:=p;obtain ⟨t,l',rfl,_,_,h3,h4⟩:=h1;refine .cons ⟨t,l',ts,rfl,h3,h4 l ts rfl g1,All2.imp g2 fun v u r=>?_,le _ List.mem_cons_self⟩ (ih h2 fun c hc=>le c (List.mem_cons_of_mem _ hc));obtain ⟨t',e',k1,k2,_⟩:=r;exact ⟨t',e',s _ _ k1,k2⟩
theorem made_go {H:Hp}{Q:VK}{bx:Addr→Bsx}{hs:List V}{cs:Chs}{cap:List Nat}{te:TE}{σ:L2.St}{hl:Addr}(hhl:H hl=some (.lst hs))(al:All2 (HaX H bx) hs cs)(l3:hs.length≤1000)(le:∀ c∈cs,c.2.length≤1000)
  (body:∀ (z:Str) (l:Addr) (ts:List V) (H':Hp) (Q':VK),H' l=some (.lst ts)→(∀ t l',H' l'=none→upd H' l' (.lst ts) t=none→Q' (.ref t) (upd (upd H' l' (.lst ts)) t (.tup [.str z,.ref l'])))→te (some (.str z)::some (.ref l)::cap.map fun i=>σ.getD i none) H' Q')
  (q:∀ ch vs H',H ch=none→Same H H'→H' ch=some (.lst vs)→All2 (HaAt H') vs cs→Q (.ref ch) H'):CmpR 2 cap (gTup K 2 (qu6 (qb4 0) (qu6 (qb4 1) gNil))) tYes te (Itl K hl) σ H Q:=by
 obtain ⟨pps,tt,pc⟩:=qns al;refine CmpR.relT (fun D H' p v=>HdX H D H' p v) (fun D H' H'' x v kp r=>?_) itl tt l3 (fun H' s=>SqL.of (s _ _ hhl)) (fun D p H' ys Q' hp nD s8 hD k=>?_) fun hd J8 hvs nhd s8 hhd al=>?_
 ·obtain ⟨t,l',e,n1,n2,h1,h2⟩:=r
  exact ⟨t,l',e,n1,n2,kp _ _ n1 h1,fun l ts e1 e2=>kp _ _ n2 (h2 l ts e1 e2)⟩
 ·obtain ⟨j,hj⟩:=List.getElem?_of_mem hp
  obtain ⟨c,_,l,ts,rfl,hl,_⟩:=pc.at hj;refine body c.1 l ts H' Q' (s8 _ _ hl) fun t5 l5 nl5 nt5=>?_;have u1:=qe nl5 (.lst ts);have u2:=u1.trans (qe nt5 (.tup [.str c.1,.ref l5]));refine k _ _ u2 ⟨t5,l5,rfl,fun e=>?_,fun e=>?_,qb0,fun l2 ts2 e1 e2=>?_⟩
  ·rw [e,u1 _ _ hD] at nt5
   cases nt5
  ·rw [e,hD] at nl5
   cases nl5
  ·cases e1
   rw [hl] at e2;cases e2;exact qe nt5 _ _ _ qb0
 ·exact q hd hvs J8 nhd s8 hhd (haat_x s8 pc al le)
section
variable {H:Hp}{hs:List V}{cs:Chs}{bx:Addr→Bsx}{rank:Str→Nat}
theorem Gen.same {H':Hp}(g:Gen H hs cs bx rank)(s:Same H H'):Gen H' hs cs bx rank:=⟨All2.imp g.al fun _ _ r=>r.same s,g.nd,g.nm,g.main,g.len,g.rk,g.r2,g.four,g.ws,g.wd⟩
theorem Gen.box (g:Gen H hs cs bx rank){c:Str×List Ru}(hc:c∈cs){u:Ru}(hu:u∈c.2):IsBox H u.2 (bx u.2)∧(bx u.2).length=6∧Fair (bx u.2):=by
 obtain ⟨i,ei⟩:=List.getElem?_of_mem hc;obtain ⟨v,_,t,l,ts,_,_,_,tal⟩:=All2.ix g.al ei;obtain ⟨j,ej⟩:=List.getElem?_of_mem hu;obtain ⟨x,_,t2,_,_,_,hb,b6,fr⟩:=All2.ix tal ej;exact ⟨hb,b6,fr⟩
theorem Gen.names (g:Gen H hs cs bx rank):qw9 cs:=⟨g.nd,fun c hc n hn=>(g.rk c hc n hn).1,Nat.le_trans g.len (by decide),fun c hc=>(g.nm c hc).1⟩
theorem Gen.up (g:Gen H hs cs bx rank):∀ (d:Nat),∀ c∈cs,rank c.1<d→lenC cs (d+1) c.1=lenC cs d c.1
 | 0,_,_,h=>absurd h (Nat.not_lt_zero _)
 | d+1,c,hc,h=>by
  rw [lenC,lenC];refine qll fun n hn=>?_;rw [qo7 g.nd hc] at hn;obtain ⟨m,lt⟩:=g.rk c hc n hn;obtain ⟨c',hc',rfl⟩:=List.mem_map.mp m;exact Gen.up g d c' hc' (by omega)
def Gen.len3 (cs:Chs)(z:Str):Int:=(lenC cs 3 z:Int)
theorem Gen.lensB (g:Gen H hs cs bx rank):Lens cs (Gen.len3 cs) rank:=by
 refine ⟨fun c hc=>?_,fun c hc n hn=>(g.rk c hc n hn).2⟩
 have e:lenC cs 3 c.1=wt (lenC cs 3) c.2:=by
  have:=g.up 3 c hc (Nat.lt_succ_of_le (g.r2 c hc));rw [← this,lenC,qo7 g.nd hc]
 have s:=qwe (f:=Gen.len3 cs) (l:=qu c.2) (fun x _=>Int.natCast_nonneg _);rw [s];show ((lenC cs 3 c.1:Nat):Int)=_;rw [e];unfold wt;have e2:(fun x=>(Gen.len3 cs x).toNat)=lenC cs 3:=funext fun x=>Int.toNat_natCast _;rw [e2];omega
theorem Gen.inMain (g:Gen H hs cs bx rank):("main":Str)∈cs.map (·.1):=by
 obtain ⟨us,e⟩:=g.main;exact List.mem_map.mpr ⟨_,List.mem_of_getElem? e,rfl⟩
theorem Gen.m120 (g:Gen H hs cs bx rank):Gen.len3 cs "main"≤120:=by
 have:=g.lim 3 "main";show ((lenC cs 3 "main":Nat):Int)≤120;omega
end
def nm1 (c:Int):Str:=nmq (c / 12 % (1+c % 12)).toNat (c % 12 - c / 12 % (1+c % 12)).toNat (97+(c / 144 % 16).toNat)
theorem nm1_ok {c:Int}:NmOk (nm1 c):=by
 have m0:=Int.emod_nonneg c (show (12:Int)≠0 by decide);have m1:=Int.emod_lt_of_pos c (show (0:Int)<12 by decide);have a0:=Int.emod_nonneg (c / 12) (show 1+c % 12≠0 by omega);have a1:=Int.emod_lt_of_pos (c / 12) (show 0<1+c % 12 by omega);have l1:=Int.emod_lt_of_pos (c / 144) (show (0:Int)<16 by decide);exact nmq_ok (by omega) (by omega)
theorem qbw {c:Int}:nm1 c≠"main":=qaw _ _ _
def quj:Sp:=fun vs H Q _=>∃ c:Int,vs=[.int c]∧Q (.str (nm1 c)) H
theorem qqv (F:Fun K "_law_name" "_law_name" qp5 f fd):FnOk P w K mg base CX0 1 f fd ["_law_cell"] quj:=by
 refine F.ok qb7 (by walk_at "l") (fun _ _ _ _ H _ Q E hr h=>?_);obtain ⟨c,rfl,q⟩:=h;refine ⟨_,(qc (qi (i:=1) qb7.nd rfl (Or.inl rfl) (qj qb1 qf (qj qu1 (pv 0) qf))) (qc (qi (i:=2) qb7.nd rfl (Or.inl rfl) (qj qu1 (qj qv3 (pv 0) qf) (pv 1))) (qg (qm (qj qhr (qj qhr (qj qkk qq1 (pv 2)) (qq ix_str qq1 (qj qu1 (qj qv3 (pv 0) qf) qf) (fun _ _=>rfl))) (qj qkk qq1 (qj qce (qj qce (pv 1) qf) (pv 2)))))))),?_⟩;rw [qbh];have m0:=Int.emod_nonneg c (show (12:Int)≠0 by decide);have m1:=Int.emod_lt_of_pos c (show (0:Int)<12 by decide);have a0:=Int.emod_nonneg (c / 12) (show 1+c % 12≠0 by omega);have a1:=Int.emod_lt_of_pos (c / 12) (show 0<1+c % 12 by omega);have l0:=Int.emod_nonneg (c / 144) (show (16:Int)≠0 by decide);have l1:=Int.emod_lt_of_pos (c / 144) (show (0:Int)<16 by decide);walk_at "s";refine ⟨by decide,⟨by decide,by decide⟩,by omega,?_⟩;obtain ⟨a,ea⟩:=Int.eq_ofNat_of_zero_le a0;have ea:c / 12 % (1+c % 12)=(a:Int):=ea;obtain ⟨l,el⟩:=Int.eq_ofNat_of_zero_le l0;have el:c / 144 % 16=(l:Int):=el
 have en:nm1 c=nmq a (c % 12 - (a:Int)).toNat (97+l):=by
  unfold nm1;rw [ea,el,Int.toNat_natCast,Int.toNat_natCast]
 rw [en] at q;rw [ea,el];refine qpk rfl (by omega) (by omega) ?_;refine ⟨⟨by decide,by decide⟩,by decide,?_⟩
 have hq:∀ m:Nat,m≤40→(Txt.mul "q" (m:Int)).length≤40:=fun m hm=>by
  show (Txt.mul "q" (m:Int)).cps.size≤40;rw [← Array.length_toList,mul_q,List.length_replicate];exact hm
 refine ⟨lets16,_,_,rfl,rfl,by decide,lets_at (by omega),?_⟩;have la:=hq a (by omega);refine qvt (by show _+1≤_; omega) ?_;rw [show 1+c % 12 - 1 - (a:Int)=(((c % 12 - (a:Int)).toNat:Nat):Int) by omega];have lb:=hq (c % 12 - (a:Int)).toNat (by omega);refine qpk rfl (by omega) (by omega) ?_;refine qvt (by rw [Str.length_append]; show _+1+_≤_; omega) ?_;exact q
def WdOk (z:Str):Prop:=(z≠"back"∧z≠"call"∧z.length≤1000∧PyData.strOk z=true)∧(z="pass"∨z="stop")
theorem qqe:WdOk "pass":=⟨⟨by decide,by decide,by decide,by decide +kernel⟩,by decide⟩
theorem qpe:WdOk "stop":=⟨⟨by decide,by decide,by decide,by decide +kernel⟩,by decide⟩
def qbx (n0:Str)(lv:Nat)(r:Rl):Prop:=r.ok∧(∀ n,r=.call n→lv=0∧n=n0)∧∀ z,r=.word z→WdOk z
theorem qgj {H:Hp}{r:Rl}(q:∀ t H',H t=none→Same H H'→H' t=some (.tup (Rl.told p r))→Q (.ref t) H'):TupR (Rl.told p r) H Q:=by
 refine TupR.go (by cases r <;> simp [Rl.told]) fun t nt=>?_;exact q t _ nt (qe nt _) qb0
def qpj:Sp:=fun vs H Q _=>∃ (c calls:Int) (lv:Nat) (p:Addr) (z:Str),vs=[.int c,.int (lv:Int),.ref p,.str z,.int calls]∧NmOk z∧lv<2 ∧
 ∀ t r H',H t=none→Same H H'→H' t=some (.tup (Rl.told p r))→qbx z lv r→Q (.ref t) H'
theorem qkv (F:Fun K "_law_rule" "_law_rule" qo5 f fd):FnOk P w K mg base CX0 1 f fd ["_law_cell","_law_level","_law_box_here","_law_name_here","_law_calls"] qpj:=by
 refine F.ok qz9 (by walk_at "l") (fun _ _ _ _ H _ Q E hr h=>?_);obtain ⟨c,calls,lv,p,z,rfl,zok,l2,q⟩:=h;refine ⟨_,(qc (qi (i:=5) qz9.nd rfl (Or.inl rfl) (qj qu1 (pv 0) qf)) (qc (ql1 (qk qq4 (pv 5) qf (qs0 _)) (qg (qm (qv0 (qa qq1 (qa (pv 2) qd))))) qn0) (qc (ql1 (PW.pt (qfa (qk qrn (pv 5) qf (qs0 _)) (qfa (qk qq4 (pv 1) qf (qs0 _)) (qm8 (qk qod (pv 4) qf (qs0 _)))))) (qg (qm (qv0 (qa qq1 (qa (pv 2) (qa (pv 3) qd)))))) qn0) (qg (qm (qv0 (qa (qq qb2 (qe1 (qa qq1 (qa qq1 qd))) (qj qu1 (pv 5) qf) (fun _ _=>rfl)) (qa (pv 2) qd)))))))),?_⟩;rw [qzg];walk_at "s";refine ⟨by decide,?_⟩;refine BrS.dec (fun c1=>?_) (fun c1=>?_)
 ·walk_at "s"
  exact qgj (r:=.back) fun t H' nt s' ht=>q t .back H' nt s' ht ⟨trivial,(fun n e=>by cases e),fun n e=>by cases e⟩
 walk_at "s";have word:∀ (H1:Hp),Same H H1→∀ z:Str,WdOk z→TupR [.str z,.ref p] H1 Q:=fun H1 s1 z hz=>qgj (r:=.word z) fun t H' nt s' ht=>q t _ H' (s1.free nt) (s1.trans s') ht ⟨hz.1,(fun n e=>by cases e),fun z' e=>by cases e; exact hz⟩;have e0:=Int.emod_nonneg (c % 8) (show (2:Int)≠0 by decide);have e1:=Int.emod_lt_of_pos (c % 8) (show (0:Int)<2 by decide);obtain ⟨j,ej⟩:=Int.eq_ofNat_of_zero_le e0;have ej:c % 8 % 2=(j:Int):=ej
 have last:LstR [.str "pass",.str "stop"] H fun x H1=>0<(2:Int)∧rIxL K x (.int (c % 8 % 2)) H1 fun x H1=>TupR [x,.ref p] H1 Q:=by
  refine LstR.go (by simp) fun l nl=>?_;refine ⟨by decide,?_⟩;rw [ej]
  have:j=0∨j=1:=by omega
  rcases this with rfl | rfl
  ·exact qw2 (SqL.of qb0) rfl (word _ (qe nl _) _ qqe)
  ·exact qw2 (SqL.of qb0) rfl (word _ (qe nl _) _ qpe)
 refine BrA.dec (fun c2=>?_) (fun c2=>?_)
 ·walk_at "s"
  refine BrA.dec (fun c3=>?_) (fun c3=>?_)
  ·walk_at "s"
   refine BrS.dec (fun c4=>?_) (fun c4=>?_)
   ·walk_at "s"
    exact qgj (r:=.call z) fun t H' nt s' ht=>q t _ H' nt s' ht ⟨⟨Nat.le_trans zok.2 (by decide),zok.1⟩,(fun n e=>by cases e; exact ⟨by omega,rfl⟩),fun z' e=>by cases e⟩
   ·walk_at "s"
    exact last
  ·walk_at "s"
   exact last
 ·walk_at "s"
  exact last
def NoZ (z:Str):Prop:=z.cps.toList.head?≠some 122
theorem nmq_noz {a b c:Nat}(h:c≠122):NoZ (nmq a b c):=by
 unfold NoZ;rw [qwf]
 cases a with
 | zero =>
  intro e;exact h (Option.some.inj e)
 | succ a =>
  intro e;have:=Option.some.inj e;omega
theorem nm1_mz {c:Int}:nm1 c≠"main"∧NoZ (nm1 c):=by
 refine ⟨qbw,nmq_noz ?_⟩;have l1:=Int.emod_lt_of_pos (c / 144) (show (0:Int)<16 by decide);omega
theorem qvo {z:Str}(h:WdOk z):z≠"":=by
 rcases h.2 with rfl | rfl <;> decide
def qh8 (z:Str):Str:=if z="pass" then "stop" else if z="stop" then "pass" else z
def qbf:Sp:=fun vs H Q _=>∃ z:Str,vs=[.str z]∧Q (.str (qh8 z)) H
theorem qjr (F:Fun K "_law_turned" "_law_turned" qg4 f fd):FnOk P w K mg base CX0 1 f fd ["_law_word"] qbf:=by
 refine F.ok qmd (by walk_at "l") (fun cdv A outer s H vs Q E hr h=>?_);obtain ⟨z,rfl,q⟩:=h;refine ⟨_,(qc (ql1 (qk qq4 (pv 0) qq1 (qs0 _)) (qg (qm qq1)) qn0) (qc (ql1 (qk qq4 (pv 0) qq1 (qs0 _)) (qg (qm qq1)) qn0) (qg (qm (pv 0))))),?_⟩;rw [qhd];unfold qh8 at q;walk_at "s";refine BrS.dec (fun c=>?_) (fun c=>?_)
 ·rw [if_pos c] at q
  walk_at "s";exact q
 ·rw [if_neg c] at q
  walk_at "s";refine BrS.dec (fun c=>?_) (fun c=>?_)
  ·rw [if_pos c] at q
   walk_at "s";exact q
  ·rw [if_neg c] at q
   walk_at "s";exact q
def ChOk1 (z:Str)(es:List Bxn)(j:Nat)(c:Str×List Ru):Prop:=[("main":Str),z][j]?=some c.1∧c.2.length≤4∧(∀ u∈c.2,qbx z j u.1)∧∀ u∈c.2,∃ e∈es,e.1=u.2
def Ch2 (es:List Bxn)(cs:Chs):Prop:=∃ z,NmOk z∧(z≠"main"∧NoZ z)∧cs.length=2∧∀ (j:Nat) (c:Str×List Ru),cs[j]?=some c→ChOk1 z es j c
def EsOk (H:Hp)(bx:Addr→Bsx)(es:List Bxn):Prop:=∀ e∈es,IsBox H e.1 e.2.1∧Nar e.2.2 e.2.1∧bx e.1=e.2.1
def spCh1 (K:W.Frag):Sp:=fun vs H Q _=>∃ (a sz bl:Addr) (ns:List Int) (z0 z1 w:Nat) (es:List Bxn) (bx:Addr→Bsx),vs=[.ref a,.ref sz,.ref bl,.int (w:Int)]∧SqL K H a (ns.map V.int)∧H sz=some (.lst (([z0,z1].map fun (n:Nat)=>(n:Int)).map V.int))∧z0≤4∧z1≤3∧H bl=some (.lst (es.map fun e=>V.ref e.1))∧w+z0+z1≤es.length∧es.length≤12∧EsOk H bx es ∧
 ∀ l hs cs H',H l=none→Same H H'→H' l=some (.lst hs)→All2 (HaX H' bx) hs cs→Ch2 es cs→Q (.ref l) H'
theorem qao (F:Fun K "_law_chains" "_law_chains" qj4 f fd)(g__law_cell_at:Fn P w K mg base "_law_cell_at" 1 ["_law_script","_law_k"] (spCell K))(g__law_name:Fn P w K mg base "_law_name" 1 ["_law_cell"] quj)
  (g__law_rule:Fn P w K mg base "_law_rule" 1 ["_law_cell","_law_level","_law_box_here","_law_name_here","_law_calls"] qpj) (b_range:mg "range"=none) (b_int:mg "int"=none):FnOk P w K mg base CX0 2 f fd ["_law_script","_law_sizes","_law_boxes_here","_law_at"] (spCh1 K):=by
 refine F.ok qo1 (by walk_at "l") (fun _ _ _ _ H _ Q E hr h=>?_);obtain ⟨a,sz,bl,ns,z0,z1,w,es,bx,rfl,hS,hsz,z3,z4,hbl,el,el12,eok,q⟩:=h;refine ⟨_,(qc (qi (i:=4) qo1.nd rfl (Or.inl rfl) (qf1 g__law_name hr (by decide) rfl (qa (qj qb1 (qf1 g__law_cell_at hr (by decide) rfl (qa (pv 0) (qa qf qd))) (pv 3)) qd))) (qc (qi (i:=5) qo1.nd rfl (Or.inl rfl) (qe1 qd)) (qc (qb3 PassesOwn.never rfl (qc3 rfl b_range (qa qf qd)) (qp (i:=6) qo1.nd rfl (Or.inl rfl)) (qc (qi (i:=7) qo1.nd rfl (Or.inl rfl) (qe1 qd)) (qc (qi (i:=8) qo1.nd rfl (Or.inl rfl) qf) (qc (qb3 PassesOwn.never rfl (qc3 rfl b_range (qa (qq qb2 (pv 1) (pv 6) (fun _ _=>rfl)) qd)) (qp (i:=9) qo1.nd rfl (Or.inl rfl)) (qc (qn2 (qp8 PySem.F.plainAttrs_list PySem.F.slot_list_append PySem.F.type_list_append qr1 (pv 7) (qa (qf1 g__law_rule hr (by decide) rfl (qa (qf1 g__law_cell_at hr (by decide) rfl (qa (pv 0) (qa (qj qb1 qf (qj qw6 qf (pv 3))) qd))) (qa (pv 6) (qa (qq qb2 (pv 2) (pv 3) (fun _ _=>rfl)) (qa (pv 4) (qa (pv 8) qd)))))) qd))) (qc (qi (i:=8) qo1.nd rfl (Or.inl rfl) (qj qb1 (pv 8) (qm4 qlt rfl b_int bo_int (qa (qq9 qq4 (qq ql0 (qq qb2 (pv 7) (pe_un un_neg qf) (fun _ _=>rfl)) qf (fun _ _=>rfl)) qq1 (qs0 _)) qd)))) (qg (qi (i:=3) qo1.nd rfl (Or.inl rfl) (qj qb1 (pv 3) qf)))))) (qg (qn2 (qp8 PySem.F.plainAttrs_list PySem.F.slot_list_append PySem.F.type_list_append qr1 (pv 5) (qa (qv0 (qa (qq qb2 (qe1 (qa qq1 (qa (pv 4) qd))) (pv 6) (fun _ _=>rfl)) (qa (pv 7) qd))) qd)))))))) (qg (qm (pv 5)))))),?_⟩;rw [qkd];walk_at "s";refine spCell.go hS (by decide) ?_;walk_at "s";refine ⟨_,rfl,?_⟩;have zok:=nm1_ok (c:=cell ns 7+(w:Int));have zm:=nm1_mz (c:=cell ns 7+(w:Int));generalize nm1 (cell ns 7+(w:Int))=z at *;refine LstR.go (by simp) fun C nC=>?_;have s5:=qe nC (.lst []);have hC:=qb0 (H:=H) (a:=C) (o:=.lst []);generalize upd H C (.lst [])=H5 at *;refine RngR.go (by decide) (by decide) ?_;refine ForR.range (n:=2) (fun i σ H'=>Same H H'∧∃ (hs:List V) (cs:Chs) (y6 y7 y8 y9:Option V),H' C=some (.lst hs)∧All2 (HaC C H' bx) hs cs∧cs.length=i∧(∀ (j:Nat) (c:Str×List Ru),cs[j]?=some c→ChOk1 z es j c)∧σ=[some (.ref a),some (.ref sz),some (.ref bl),some (.int ((w+([z0,z1].take i).sum:Nat):Int)),some (.str z),some (.ref C),y6,y7,y8,y9])
  ⟨s5,[],[],none,none,none,none,hC,.nil,rfl,(fun j c e=>by cases e),rfl⟩ (fun i σ H6 hi pv=>?_) (fun σ H6 pv=>?_)
 ·obtain ⟨sm,hs,cs,y7,y8,y9,y10,hC6,cal,cl,cok,rfl⟩:=pv
  simp only [Int.zero_add];have cal':=All2.len cal
  obtain ⟨zi,ezi,z4⟩:∃ zi:Nat,[z0,z1][i]?=some zi∧zi≤4:=by
   have:i=0∨i=1:=by omega
   rcases this with rfl | rfl
   ·exact ⟨z0,rfl,by omega⟩
   ·exact ⟨z1,rfl,by omega⟩
  have sum1:([z0,z1].take (i+1)).sum=([z0,z1].take i).sum+zi:=by
   rw [List.take_add_one,ezi];simp
  have sumle:w+([z0,z1].take (i+1)).sum≤es.length:=by
   have:i=0∨i=1:=by omega
   rcases this with rfl | rfl
   ·show w+(z0+0)≤_
    omega
   ·show w+(z0+(z1+0))≤_
    omega
  generalize ([z0,z1].take (i+1)).sum=w1 at *;generalize ([z0,z1].take i).sum=w0 at *;walk_at "s";refine LstR.go (by simp) fun R nR=>?_;have s7:=qe nR (.lst []);have hR:=qb0 (H:=H6) (a:=R) (o:=.lst []);have fR:H R=none:=sm.free nR;generalize upd H6 R (.lst [])=H7 at *;refine qw2 (SqL.of ((sm.trans s7) _ _ hsz)) (v:=.int (zi:Int)) (by rw [List.getElem?_map,List.getElem?_map,ezi]; rfl) ?_;refine RngR.go (by omega) (by omega) ?_;refine ForR.range (n:=zi) (fun k σ H'=>Same H6 H'∧∃ (ts:List V) (us:List Ru) (calls:Int) (y10:Option V),H' R=some (.lst ts)∧All2 (RtX H' bx) ts us∧us.length=k∧(∀ u∈us,qbx z i u.1∧∃ e∈es,e.1=u.2)∧σ=[some (.ref a),some (.ref sz),some (.ref bl),some (.int ((w+w0+k:Nat):Int)),some (.str z),some (.ref C),some (.int (i:Int)),some (.ref R),some (.int calls),y10])
   ⟨s7,[],[],0,_,hR,.nil,rfl,(fun u hu=>by cases hu),rfl⟩ (fun k σ H8 hk pv=>?_) (fun σ H8 pv=>?_)
  ·obtain ⟨sm8,ts,us,calls,y10',hR8,tal,ul,uok,rfl⟩:=pv
   have tl:=All2.len tal;have s48:=sm.trans sm8
   have ki:w+w0+k<es.length:=by omega
   have ee:=List.getElem?_eq_getElem ki;have eb:=eok es[w+w0+k] (List.getElem_mem ki);have em:es[w+w0+k]∈es:=List.getElem_mem ki;generalize es[w+w0+k]=e at *;walk_at "s";refine ⟨qy4 hR8,?_⟩;refine ⟨.inl ⟨by decide,by decide⟩,?_⟩;refine spCell.go (s48.seq hS) (by omega) ?_;refine qw2 (SqL.of (s48 _ _ hbl)) (v:=.ref e.1) (by rw [List.getElem?_map,ee]; rfl) ?_;refine ⟨_,calls,i,e.1,z,rfl,zok,hi,fun t r H9 nt s9 ht rok=>?_⟩;have hR9:=s9 _ _ hR8;refine qm6 hR9 (by omega) ?_;have kp:∀ a xs,H9 a=some (.tup xs)→upd H9 R (.lst (ts++[.ref t])) a=some (.tup xs):=qu2 hR9;have ht10:=kp _ _ ht;have hR10:=qb0 (H:=H9) (a:=R) (o:=.lst (ts++[.ref t]));have sm10:Same H6 (upd H9 R (.lst (ts++[.ref t]))):=(sm8.trans s9).put nR
   have bx6:IsBox H9 e.1 (bx e.1)∧(bx e.1).length=6∧Fair (bx e.1):=by
    rw [eb.2.2];exact ⟨eb.1.same (s48.trans s9),eb.2.1.six,eb.2.1.Low.fair (by rw [eb.2.1.six]; decide)⟩
   have tal10:All2 (RtX (upd H9 R (.lst (ts++[.ref t]))) bx) (ts++[.ref t]) (us++[(r,e.1)]):=All2.snoc (All2.imp tal fun _ _ x=>(x.same s9).mono kp) ⟨t,rfl,ht10,rok.1,bx6.1.mono kp,bx6.2⟩
   have uok10:∀ u∈us++[(r,e.1)],qbx z i u.1∧∃ e∈es,e.1=u.2:=fun u hu=>by
    rcases List.mem_append.mp hu with hu | hu
    ·exact uok u hu
    ·obtain rfl:=List.mem_singleton.mp hu
     exact ⟨rok,e,em,rfl⟩
   generalize upd H9 R (.lst (ts++[.ref t]))=H10 at *;walk_at "s";refine qfs (SqL.of hR10) ?_
   obtain ⟨z',ez⟩:∃ z:Str,(Rl.told e.1 r)[0]?=some (.str z):=by cases r <;> exact ⟨_,rfl⟩
   refine ixT_go (i:=0) (SqT.of ht10) ez ?_;walk_at "s";refine IntB.go ?_;walk_at "s";exact ⟨sm10,_,_,_,_,hR10,tal10,by rw [List.length_append,ul]; rfl,uok10,rfl⟩
  ·obtain ⟨sm8,ts,us,calls,y10',hR8,tal,ul,uok,rfl⟩:=pv
   have hC8:=sm8 _ _ hC6;obtain ⟨nm,ez⟩:∃ nm,[("main":Str),z][i]?=some nm:=⟨[("main":Str),z][i]'hi,List.getElem?_eq_getElem _⟩;walk_at "s";refine ⟨qy4 hC8,?_⟩;refine LstR.go (by simp) fun L nL=>?_;have s8':=qe nL (.lst [.str "main",.str z]);have hL:upd H8 L (.lst [.str "main",.str z]) L=some (.lst ([("main":Str),z].map V.str)):=qb0;generalize upd H8 L (.lst [.str "main",.str z])=H8' at *;refine qw2 (SqL.of hL) (v:=.str nm) (by rw [List.getElem?_map,ez]; rfl) ?_;refine TupR.go (by simp) fun t nt=>?_;have s9':=qe nt (.tup [.str nm,.ref R]);have h9:=qb0 (H:=H8') (a:=t) (o:=.tup [.str nm,.ref R]);generalize upd H8' t (.tup [.str nm,.ref R])=H9 at *;have s9:=s8'.trans s9';have hC9:=s9 _ _ hC8;refine qm6 hC9 (by omega) ?_;have kp:∀ a xs,H9 a=some (.tup xs)→upd H9 C (.lst (hs++[.ref t])) a=some (.tup xs):=qu2 hC9
   have RC:R≠C:=fun e=>by
    rw [e,hC6] at nR;cases nR
   refine ⟨((sm.trans sm8).trans s9).put nC,hs++[.ref t],cs++[(nm,us)],_,_,_,_,qb0,All2.snoc (All2.imp cal fun _ _ x=>(x.same (sm8.trans s9)).upd hC9) ⟨t,R,ts,rfl,kp _ _ h9,RC,by rw [qt RC]; exact s9 _ _ hR8,All2.imp tal fun _ _ x=>(x.same s9).mono kp⟩,by rw [List.length_append,cl]; rfl,fun j c ej=>?_,by rw [sum1,Nat.add_assoc]⟩
   by_cases lj:j<cs.length
   ·rw [List.getElem?_append_left lj] at ej
    exact cok j c ej
   ·rw [List.getElem?_append_right (by omega)] at ej
    have j0:j - cs.length=0:=by
     have:=(List.getElem?_eq_some_iff.mp ej).1;simp at this;omega
    rw [j0] at ej;cases ej
    obtain rfl:j=i:=by omega
    exact ⟨ez,by show us.length≤4; omega,fun u hu=>(uok u hu).1,fun u hu=>(uok u hu).2⟩
 ·obtain ⟨sm,hs,cs,y7,y8,y9,y10,hC6,cal,cl,cok,rfl⟩:=pv
  walk_at "s";exact q C hs cs H6 nC sm hC6 (All2.imp cal fun _ _ r=>r.x) ⟨z,zok,zm,cl,cok⟩
theorem qqi {α β:Type}{f:α→List β}{g:β→Nat}:∀ {l:List α},((l.flatMap f).map g).sum=(l.map fun x=>((f x).map g).sum).sum
 | []=>rfl
 | x::l=>by rw [List.flatMap_cons,List.map_append,List.sum_append,qqi (l:=l),List.map_cons,List.sum_cons]
section
variable {rs:List Row}{bx:Addr→Bsx}{df:Str}
theorem qbg {U:Bsx}{ws:List (Bsx×Nat)}(u6:U.length=6)(hw:∀ c∈ws,1≤c.2∧c.1.length=6∧Full c.1∧∀ bs,Six U bs→(piecesOf bs c.1).length≤c.2)(hr:∀ r∈rs,∃ m,(bx r.bp,m)∈ws) :
  ∀ (n:Nat) (y:Yes) (bs:Bsx),Six U bs→Fair bs→((qg5 rs bx df n bs y).map fun k=>wtOf ws k.1).sum≤wtOf ws bs
 | n,.word z,bs,_,_=>Nat.le_refl (wtOf ws bs+0)
 | 0,.goto i,bs,_,_=>Nat.zero_le _
 | n+1,.goto i,bs,h6,fr=>by
  show ((qd5 rs bx df (n+1) i bs).map fun k=>wtOf ws k.1).sum≤_
  cases e:rs[i]? with
  | none =>
   rw [ql6 e];exact Nat.le_refl (wtOf ws bs+0)
  | some r =>
   obtain ⟨m,hm⟩:=hr r (List.mem_of_getElem? e);obtain ⟨w1,w2,w3,w4⟩:=hw _ hm;have hl:(bx r.bp).length=bs.length:=w2.trans h6.six.symm
   have pr:∀ (l:List Lk) (p:Nat×Bool),((l.map (pre p)).map fun k=>wtOf ws k.1)=l.map fun k=>wtOf ws k.1:=fun l p=>by
    rw [List.map_map];rfl
   rw [qk6 e]
   by_cases d:PSub bs (bx r.bp)∨POut bs (bx r.bp)
   ·obtain ⟨b,eb⟩:=qwh hl h6.full d
    rw [eb,List.flatMap_cons,List.flatMap_nil,List.append_nil,pr];exact qbg u6 hw hr n _ bs h6 fr
   ·rw [qqi]
    simp only [pr]
    have le:∀ q∈piecesOf bs (bx r.bp),m * ((qg5 rs bx df n q.1 (qf2 r q.2)).map fun k=>wtOf ws k.1).sum≤wtOf ws bs:=fun q hq=>by
     obtain ⟨s6,sf⟩:=h6.piece u6 fr w2 w3 q hq;have ih:=qbg u6 hw hr n (qf2 r q.2) q.1 s6 sf;obtain ⟨q1,q2,q3⟩:=qva hl w3 q hq
     have xd:PSub q.1 (bx r.bp)∨POut q.1 (bx r.bp):=by
      cases hb:q.2 with
      | true=>exact .inl (q2 hb)
      | false=>exact .inr (q3 hb)
     have cut:=quo (d:=(bx r.bp,m)) (x:=q.1) d xd ws hm fun c hc=>⟨(hw c hc).1,fun z=>by
      have cl:c.1.length=bs.length:=(hw c hc).2.1.trans h6.six.symm
      rcases z with z | z
      ·exact .inl (q1.trans z cl)
      ·exact .inr (q1.out z cl)⟩
     exact Nat.le_trans (Nat.mul_le_mul (Nat.le_refl m) ih) cut
    have w4:=w4 bs h6;have s:=qjp (f:=fun (q:Bsx×Bool)=>m * ((qg5 rs bx df n q.1 (qf2 r q.2)).map fun k=>wtOf ws k.1).sum) le
    have sm:∀ l:List (Bsx×Bool),(l.map fun q=>m * ((qg5 rs bx df n q.1 (qf2 r q.2)).map fun k=>wtOf ws k.1).sum).sum=m * (l.map fun q=>((qg5 rs bx df n q.1 (qf2 r q.2)).map fun k=>wtOf ws k.1).sum).sum:=by
     intro l
     induction l with
     | nil=>rfl
     | cons a l ih=>rw [List.map_cons,List.sum_cons,ih,List.map_cons,List.sum_cons,Nat.mul_add]
    rw [sm] at s;have s2:m * ((piecesOf bs (bx r.bp)).map fun q=>((qg5 rs bx df n q.1 (qf2 r q.2)).map fun k=>wtOf ws k.1).sum).sum≤m * wtOf ws bs:=Nat.le_trans s (Nat.mul_le_mul w4 (Nat.le_refl _));exact Nat.le_of_mul_le_mul_left s2 w1
end
abbrev Jn:=Bsx×List (Nat×Bool)×Str×List (Nat×Bool)×Str
def qa4 (R:List Row)(bx:Addr→Bsx)(df:Str)(bs:Bsx):List Lk:=qd5 R bx df (R.length+1) 0 bs
def jn (k m:Lk):Jn:=(m.1,k.2.1,k.2.2,m.2.1,m.2.2)
def qh3 (R1 R2:List Row)(bx:Addr→Bsx)(d1 d2:Str):List Jn:=(qa4 R1 bx d1 wholeU).flatMap fun k=>(qa4 R2 bx d2 k.1).map (jn k)
structure Two (R1 R2:List Row)(bx:Addr→Bsx)(d1 d2:Str):Prop where
 full1:∀ r∈R1,(bx r.bp).length=6∧Full (bx r.bp)
 full2:∀ r∈R2,(bx r.bp).length=6∧Full (bx r.bp)
 few:(qh3 R1 R2 bx d1 d2).length≤16708185
 fewk:∀ k∈qa4 R1 bx d1 wholeU,(qa4 R2 bx d2 k.1).length≤16708185
theorem qt6 {R:List Row}{bx:Addr→Bsx}{df:Str}(hr:∀ r∈R,(bx r.bp).length=6∧Full (bx r.bp)){bs:Bsx}(h6:Six wholeU bs)(fr:Fair bs){k:Lk}(hk:k∈qa4 R bx df bs):PSub k.1 bs∧Six wholeU k.1∧Fair k.1∧qqd R bx df k.1 (.goto 0) k.2.1 k.2.2:=qgi (rs:=R) (bx:=bx) (df:=df) (U:=wholeU) rfl hr (R.length+1) (.goto 0) bs h6 fr k hk
theorem qv4:Fair wholeU:=nar_whole.Low.fair (by rw [nar_whole.six]; decide)
theorem six_low {bs:Bsx}(h:Six wholeU bs):Low bs:=fun b hb=>by
 obtain ⟨i,ei⟩:=List.getElem?_of_mem hb
 have i6:i<6:=by
  have:=(List.getElem?_eq_some_iff.mp ei).1;rw [h.six] at this;exact this
 obtain ⟨t,et,_,t0,t1⟩:=que i6;have eu:=qx6 et;have fu:=h.full b hb
 have pt:∀ g:Int×Int→Int,(∀ c∈bs,c.1≤g c∧g c≤c.2)→0≤g b∧g b≤t:=fun g hg=>by
  have hin:qr0 bs (bs.map g)=true:=qe2 fun j c n e1 e2=>by
   rw [List.getElem?_map,e1] at e2;cases e2;have:=hg c (List.mem_of_getElem? e1);unfold qw;rw [decide_eq_true this.1,decide_eq_true this.2];rfl
  have w:=h.sub (bs.map g) (by rw [List.length_map]; exact h.six) hin;have lie:=qn4 w eu (show (bs.map g)[i]?=some (g b) by rw [List.getElem?_map,ei]; rfl);unfold qw at lie;rw [Bool.and_eq_true,decide_eq_true_eq,decide_eq_true_eq] at lie;exact lie
 have l1:=pt (·.1) fun c hc=>⟨Int.le_refl _,h.full c hc⟩;have l2:=pt (·.2) fun c hc=>⟨h.full c hc,Int.le_refl _⟩;exact ⟨l1.1,fu,by have:=l2.2; omega⟩
theorem qho {R2:List Row}{bx:Addr→Bsx}{d2:Str}{ks:List Lk}{k:Lk}(h:ks[i]?=some k):((ks.take (i+1)).flatMap fun k=>(qa4 R2 bx d2 k.1).map (jn k))=((ks.take i).flatMap fun k=>(qa4 R2 bx d2 k.1).map (jn k))++(qa4 R2 bx d2 k.1).map (jn k):=by
 rw [List.take_add_one,h,Option.toList_some,List.flatMap_append];simp
theorem Gen.two {H:Hp}{hs1 hs2:List V}{cs1 cs2:Chs}{bx:Addr→Bsx}{k1 k2:Str→Nat}(g1:Gen H hs1 cs1 bx k1)(g2:Gen H hs2 cs2 bx k2)(ws:GWts (cs1++cs2) bx)(d1 d2:Str):Two (Gen.rows cs1) (Gen.rows cs2) bx d1 d2:=by
 have f1:∀ r∈Gen.rows cs1,(bx r.bp).length=6∧Full (bx r.bp):=fun r hr=>⟨(g1.rowOk hr).1,(g1.rowOk hr).2.1⟩;have f2:∀ r∈Gen.rows cs2,(bx r.bp).length=6∧Full (bx r.bp):=fun r hr=>⟨(g2.rowOk hr).1,(g2.rowOk hr).2.1⟩;obtain ⟨es,e45,eb,ec⟩:=ws
 have hw:∀ c∈es.map fun e=>(e.2.1,1+2 * e.2.2),1≤c.2∧c.1.length=6∧Full c.1∧∀ bs,Six wholeU bs→(piecesOf bs c.1).length≤c.2:=fun c hc=>by
  obtain ⟨e,he,rfl⟩:=List.mem_map.mp hc;have ne:=(eb e he).2;exact ⟨by show 1≤1+2 * e.2.2; omega,ne.six,ne.full,fun xs hx=>ne.pieces hx⟩
 have hr:∀ cs:Chs,(∀ c∈cs,c∈cs1++cs2)→∀ r∈Gen.rows cs,∃ m,(bx r.bp,m)∈es.map fun e=>(e.2.1,1+2 * e.2.2):=fun cs sub r hr=>by
  obtain ⟨c,hc,_,u,eu,eb',_⟩:=qz7 3 "main" 0 r hr;obtain ⟨e,he,ee⟩:=ec c (sub c hc) u (List.mem_of_getElem? eu);refine ⟨1+2 * e.2.2,List.mem_map.mpr ⟨e,he,?_⟩⟩;rw [eb',← ee,(eb e he).1]
 have r1:=hr cs1 fun c hc=>List.mem_append_left _ hc;have r2:=hr cs2 fun c hc=>List.mem_append_right _ hc
 have wp:wtOf (es.map fun e=>(e.2.1,1+2 * e.2.2)) wholeU≤16708185:=by
  refine Nat.le_trans (qdj _ wholeU fun c hc=>?_) ?_
  ·obtain ⟨e,_,rfl⟩:=List.mem_map.mp hc
   show 1≤1+2 * e.2.2;omega
  ·rw [qr8]
   exact e45
 generalize es.map (fun e=>(e.2.1,1+2 * e.2.2))=ws at *;have sm:=qbg (rs:=Gen.rows cs1) (bx:=bx) (df:=d1) (U:=wholeU) (ws:=ws) rfl hw r1 ((Gen.rows cs1).length+1) (.goto 0) wholeU nar_whole.sixU qv4
 have lek:∀ k∈qa4 (Gen.rows cs1) bx d1 wholeU,(qa4 (Gen.rows cs2) bx d2 k.1).length≤wtOf ws k.1:=fun k hk=>by
  obtain ⟨_,k6,kf,_⟩:=qt6 f1 nar_whole.sixU qv4 hk;exact qxa (rs:=Gen.rows cs2) (bx:=bx) (df:=d2) (U:=wholeU) (ws:=ws) rfl hw r2 ((Gen.rows cs2).length+1) (.goto 0) k.1 k6 kf
 have sum_mono:∀ (l:List Lk) (f g:Lk→Nat),(∀ k∈l,f k≤g k)→(l.map f).sum≤(l.map g).sum:=fun l f g h=>by
  induction l with
  | nil=>exact Nat.le_refl _
  | cons a l ih =>
   have h1:=h a List.mem_cons_self;have h2:=ih fun k hk=>h k (List.mem_cons_of_mem _ hk);rw [List.map_cons,List.map_cons,List.sum_cons,List.sum_cons];omega
 have tot:((qa4 (Gen.rows cs1) bx d1 wholeU).map fun k=>(qa4 (Gen.rows cs2) bx d2 k.1).length).sum≤16708185:=Nat.le_trans (sum_mono _ _ _ lek) (Nat.le_trans sm wp);refine ⟨f1,f2,?_,fun k hk=>?_⟩
 ·unfold qh3
  rw [qfg];simp only [List.length_map];exact Nat.le_trans tot (by decide)
 ·have:∀ (l:List Lk),k∈l→(qa4 (Gen.rows cs2) bx d2 k.1).length≤(l.map fun k=>(qa4 (Gen.rows cs2) bx d2 k.1).length).sum:=fun l hl=>by
   induction l with
   | nil=>cases hl
   | cons a l ih =>
    rw [List.map_cons,List.sum_cons]
    rcases List.mem_cons.mp hl with rfl | hl
    ·omega
    ·have:=ih hl
     omega
  exact Nat.le_trans (this _ hk) (Nat.le_trans tot (by decide))
def spIn:Sp:=fun vs H Q _=>∃ (p r:Addr) (bs:Bsx) (ns:List Int),vs=[.ref p,.ref r]∧IsBox H p bs∧IsPt H r ns∧ns.length=bs.length∧bs.length=6∧Q (.bl (qr0 bs ns)) H
theorem ok_in (F:Fun K "_law_has" "_law_has" qg6 f fd)(b_range:mg "range"=none):FnOk P w K mg base CX0 1 f fd ["_law_box_here","_law_parcel_here"] spIn:=by
 refine F.ok qpb (by walk_at "l") (fun cdv A outer s H vs Q E hr h=>?_);obtain ⟨p,r,bs,ns,rfl,hp,hr1,hl,h8,q⟩:=h;refine ⟨_,(qc (qb3 PassesOwn.never rfl (qc3 rfl b_range (qa qf qd)) (qp (i:=2) qpb.nd rfl (Or.inl rfl)) (qg (ql1 (PW.pt (qfk (qk qod (qq ql0 (pv 1) (pv 2) (fun _ _=>rfl)) (qq ql0 (qq ql0 (pv 0) (pv 2) (fun _ _=>rfl)) qf (fun _ _=>rfl)) (qs0 _)) (qqh (qk qrn (qq ql0 (pv 1) (pv 2) (fun _ _=>rfl)) (qq ql0 (qq ql0 (pv 0) (pv 2) (fun _ _=>rfl)) qf (fun _ _=>rfl)) (qs0 _))))) (qg (qm qf9)) qn0))) (qg (qm qf9))),?_⟩;rw [qlj];walk_at "s";refine RngR.go (by decide) (by decide) ?_;refine ForR.range (n:=6) (fun i σ H'=>H'=H∧(∀ j b n,j<i→bs[j]?=some b→ns[j]?=some n→qw b n=true)∧∃ y,σ=[some (.ref p),some (.ref r),y]) ⟨rfl,fun j b n z=>absurd z (Nat.not_lt_zero j),none,rfl⟩ (fun i σ H1 hi pv=>?_) (fun σ H1 pv=>?_)
 ·obtain ⟨rfl,al,y,rfl⟩:=pv
  obtain ⟨b,eb⟩:=at_of hi h8;obtain ⟨n,en⟩:=at_of hi (hl.trans h8)
  have bad:qw b n=false→Q (.bl false) H1:=fun z=>by
   rw [qq5 eb en z] at q;exact q
  walk_at "ix";refine ixP_go hr1 en ?_;walk_at "ix";refine qh9 hp eb fun t ht=>?_;walk_at "ix";refine BrO.dec (fun c1=>?_) (fun c1=>?_)
  ·walk_at "s"
   refine bad ?_;unfold qw;rw [decide_eq_false (by omega),Bool.false_and]
  walk_at "ix";refine ixP_go hr1 en ?_;walk_at "ix";refine qh9 hp eb fun t ht=>?_;walk_at "ix";refine BrS.dec (fun c2=>?_) (fun c2=>?_)
  ·walk_at "s"
   refine bad ?_;unfold qw;rw [decide_eq_false (show ¬ n≤b.2 by omega),Bool.and_false]
  ·walk_at "s"
   refine ⟨fun j b' n' hj e1 e2=>?_,_,rfl⟩
   by_cases c:j=i
   ·subst c
    rw [eb] at e1;rw [en] at e2;cases e1;cases e2;unfold qw;rw [decide_eq_true (by omega),decide_eq_true (by omega)];rfl
   ·exact al j b' n' (by omega) e1 e2
 ·obtain ⟨rfl,al,y,rfl⟩:=pv
  walk_at "s";rw [qe2 fun j b n e1 e2=>al j b n (by have:=(List.getElem?_eq_some_iff.mp e1).1; omega) e1 e2] at q;exact q
def qsj:Sp:=fun vs H Q _=>∃ (ml:Addr) (ms:List Int) (c:Int) (k:Nat),vs=[.ref ml,.int c,.int (k:Int)]∧H ml=some (.lst (ms.map V.int))∧qng ms∧k≤1000∧∀ r ns H',H r=none→Same H H'→IsPt H' r ns→ns.length=6→qr0 wholeU ns=true→Q (.ref r) H'
theorem qnv (F:Fun K "_law_parcel" "_law_parcel" qh4 f fd)(g__law_top:Fn P w K mg base "_law_top" 1 ["_law_d"] qen)(b_range:mg "range"=none)(b_min:mg "min"=none)(b_max:mg "max"=none)(b_tuple:mg "tuple"=none):FnOk P w K mg base CX0 2 f fd ["_law_marks_here","_law_cell","_law_at"] qsj:=by
 refine F.ok qh1 (by walk_at "l") (fun _ _ _ _ H _ Q E hr h=>?_);obtain ⟨ml,ms,c,k,rfl,hml,mok,k1,q⟩:=h;refine ⟨_,(qc (qi (i:=3) qh1.nd rfl (Or.inl rfl) (qe1 qd)) (qc (qb3 PassesOwn.never rfl (qc3 rfl b_range (qa qf qd)) (qp (i:=4) qh1.nd rfl (Or.inl rfl)) (qc (qi (i:=5) qh1.nd rfl (Or.inl rfl) (qf1 g__law_top hr (by decide) rfl (qa (pv 4) qd))) (qc (qi (i:=6) qh1.nd rfl (Or.inl rfl) (qj qu1 (qj qw6 (qj qb1 (qj qb1 (qj qu1 (pv 1) qf) (pv 2)) qf) (qj qb1 qf (qj qw6 qf (pv 4)))) qf)) (qc (qi (i:=7) qh1.nd rfl (Or.inl rfl) (qj qu1 (pv 6) qf)) (qc (qi (i:=8) qh1.nd rfl (Or.inl rfl) (qj qce (qj qb1 (qq qb2 (pv 0) (pv 4) (fun _ _=>rfl)) (pv 7)) qf)) (qc (ql1 (qk qq4 (pv 7) qf (qs0 _)) (qg (qi (i:=8) qh1.nd rfl (Or.inl rfl) qf)) qn0) (qc (ql1 (qk qq4 (pv 7) qf (qs0 _)) (qg (qi (i:=8) qh1.nd rfl (Or.inl rfl) (pv 5))) qn0) (qc (ql1 (qk qq4 (pv 7) qf (qs0 _)) (qg (qi (i:=8) qh1.nd rfl (Or.inl rfl) (qj qu1 (qj qw6 (qj qv3 (pv 6) qf) qf) (qj qb1 (pv 5) qf)))) qn0) (qg (qn2 (qp8 PySem.F.plainAttrs_list PySem.F.slot_list_append PySem.F.type_list_append qr1 (pv 3) (qa (qy (qp7 rfl) rfl b_min qxi (qa (qy (qq7 rfl) rfl b_max qyi (qa (pv 8) (qa qf qd))) (qa (pv 5) qd))) qd)))))))))))) (qg (qm (qm4 qw4 rfl b_tuple qv6 (qa (pv 3) qd)))))),?_⟩;rw [qid];walk_at "s";refine LstR.go (by simp) fun D nD=>?_;have s0:=qe nD (.lst []);have hD0:=qb0 (H:=H) (a:=D) (o:=.lst []);generalize upd H D (.lst [])=H0 at *;walk_at "s";refine RngR.go (by decide) (by decide) ?_;refine ForR.range (n:=6) (fun i σ H'=>Same H H'∧∃ (xs:List Int) (y1 y2 y3 y4 y5:Option V),H' D=some (.lst (xs.map V.int))∧xs.length=i∧(∀ (j:Nat) (n:Int),xs[j]?=some n→∃ t,topsI[j]?=some t∧0≤n∧n≤t)∧σ=[some (.ref ml),some (.int c),some (.int (k:Int)),some (.ref D),y1,y2,y3,y4,y5]) ⟨s0,[],none,none,none,none,none,hD0,rfl,(fun j n e=>by cases e),rfl⟩ (fun i σ H1 hi pv=>?_) (fun σ H1 pv=>?_)
 ·obtain ⟨sm,xs,y1,y2,y3,y4,y5,hD1,xl,xok,rfl⟩:=pv
  walk_at "s";rw [Int.zero_add];refine ⟨i,rfl,hi,fun t H2 et t0 t1 s2=>?_⟩;have c0:=Int.emod_nonneg c (show (1000000007:Int)≠0 by decide);have c1:=Int.emod_lt_of_pos c (show (0:Int)<1000000007 by decide);generalize c % 1000000007=cm at *;have sm2:=sm.trans s2;have hD2:=s2 _ _ hD1;obtain ⟨m,em,emv⟩:=qhs (show i<ms.length by rw [mok.1]; exact hi);refine ⟨by decide,.inl ⟨by decide,by decide⟩,.inr ⟨by omega,by omega⟩,by decide,by decide,?_⟩;generalize (cm+(k:Int)+1) * (48271+2 * (i:Int))=tn at *;have u0:=Int.emod_nonneg tn (show (2147483647:Int)≠0 by decide);have u1:=Int.emod_lt_of_pos tn (show (0:Int)<2147483647 by decide);generalize tn % 2147483647=turn at *;have w0:=Int.emod_nonneg turn (show (6:Int)≠0 by decide);have w1:=Int.emod_lt_of_pos turn (show (0:Int)<6 by decide);generalize turn % 6=way at *;refine qw2 (SqL.of (sm2 _ _ hml)) emv ?_;walk_at "s";refine qeg (fun _ σ' H'=>H'=H2∧∃ num:Int,σ'=[some (.ref ml),some (.int c),some (.int (k:Int)),some (.ref D),some (.int (i:Int)),some (.int t),some (.int turn),some (.int way),some (.int num)]) (fun _=>⟨rfl,_,rfl⟩) (fun _ σ' H' _ st=>?_) fun _ N go=>?_
  rotate_left
  ·walk_at "s"
   exact go _ _ ⟨rfl,_,rfl⟩
  obtain ⟨rfl,num,rfl⟩:=st;walk_at "s";refine qeg (fun _ σ' H''=>H''=H'∧∃ num:Int,σ'=[some (.ref ml),some (.int c),some (.int (k:Int)),some (.ref D),some (.int (i:Int)),some (.int t),some (.int turn),some (.int way),some (.int num)]) (fun _=>⟨rfl,_,rfl⟩) (fun _ σ' H'' _ st=>?_) fun _ N go=>?_
  rotate_left
  ·walk_at "s"
   exact go _ _ ⟨rfl,_,rfl⟩
  obtain ⟨rfl,num2,rfl⟩:=st;walk_at "s";refine qeg (fun _ σ' H'=>H'=H''∧∃ num:Int,σ'=[some (.ref ml),some (.int c),some (.int (k:Int)),some (.ref D),some (.int (i:Int)),some (.int t),some (.int turn),some (.int way),some (.int num)]) (fun _=>⟨rfl,_,rfl⟩) (fun _ σ' H' _ st=>?_) fun _ N go=>?_
  rotate_left
  ·walk_at "s"
   refine ⟨⟨by decide,by decide⟩,.inr ⟨by decide,by decide⟩,by omega,?_⟩;exact go _ _ ⟨rfl,_,rfl⟩
  obtain ⟨rfl,num3,rfl⟩:=st;walk_at "s";refine ⟨qy4 hD2,?_⟩;refine qm6 hD2 (by rw [List.length_map]; omega) ?_;refine ⟨sm2.put nD,xs++[min (max num3 0) t],_,_,_,_,_,by rw [qb0,List.map_append]; rfl,by rw [List.length_append,xl]; rfl,fun j n ej=>?_,rfl⟩
  by_cases lj:j<xs.length
  ·rw [List.getElem?_append_left lj] at ej
   exact xok j n ej
  ·rw [List.getElem?_append_right (by omega)] at ej
   have j0:j - xs.length=0:=by
    have:=(List.getElem?_eq_some_iff.mp ej).1;simp at this;omega
   rw [j0] at ej;cases ej
   obtain rfl:j=i:=by omega
   exact ⟨t,et,by omega,by omega⟩
 ·obtain ⟨sm,xs,y1,y2,y3,y4,y5,hD1,xl,xok,rfl⟩:=pv
  walk_at "s";refine TupOf.lst (SqL.of hD1) fun r nr=>?_;have s2:=qe nr (.tup (xs.map V.int));refine q r xs _ (sm.free nr) (sm.trans s2) qb0 xl (qe2 fun j b n e1 e2=>?_);obtain ⟨t,et,n0,n1⟩:=xok j n e2;unfold wholeU at e1;rw [List.getElem?_map,et] at e1;cases e1;unfold qw;rw [decide_eq_true (show (0:Int)≤n from n0),decide_eq_true (show n≤t from n1)];rfl
theorem qwl {F:Addr→Bool}{sb:Str→Rd}{z:Str}(h:∀ n,(sb n).1.length≤ln n):∀ (us:List Ru) (i:Nat),(rdGo F sb z us i).1.length≤wt ln us
 | [],_=>Nat.zero_le _
 | u::us,i=>by
  have ih:=qwl h us (i+1) (F:=F) (z:=z);rw [qej,rdGo]
  split
  ·obtain ⟨r,p⟩:=u
   cases r with
   | word w=>show 1≤_; omega
   | back=>show 1≤_; omega
   | call n =>
    have hn:=h n;have e:((qx2 (.call n,p)).map ln).getD 0=ln n:=rfl;rw [e];show (match (sb n).2 with | some w=>_ | none=>_:Rd).1.length≤_
    cases (sb n).2 with
    | some w=>show (_::(sb n).1).length≤_; rw [List.length_cons]; omega
    | none=>show (_::((sb n).1++_)).length≤_; rw [List.length_cons,List.length_append]; omega
  ·show (_::_:List (Plc×Bool)).length≤_
   rw [List.length_cons];omega
theorem qiq {F:Addr→Bool}{cs:Chs}:∀ (d:Nat) (z:Str),(rdC F cs d z).1.length≤lenC cs d z
 | 0,_=>Nat.zero_le _
 | d+1,z=>qwl (fun n=>qiq d n) _ _
theorem qgq {F:Addr→Bool}{sb:Str→Rd}{z:Str}(h:∀ n w,(sb n).2=some w→w≠""):∀ (us:List Ru) (i:Nat),(∀ u∈us,∀ w,u.1=.word w→w≠"")→∀ w,(rdGo F sb z us i).2=some w→w≠""
 | [],_,_,w,e=>by cases e
 | u::us,i,hu,w,e=>by
  have ih:=qgq h us (i+1) (F:=F) (z:=z) fun v hv=>hu v (List.mem_cons_of_mem _ hv);rw [rdGo] at e
  split at e
  ·obtain ⟨r,p⟩:=u
   cases r with
   | word w' =>
    have e:w'=w:=Option.some.inj e;exact e▸hu _ List.mem_cons_self w' rfl
   | back=>cases e
   | call n =>
    have e:(match (sb n).2 with | some w=>(((z,i),true)::(sb n).1,some w) | none=>(((z,i),true)::((sb n).1++(rdGo F sb z us (i+1)).1),(rdGo F sb z us (i+1)).2):Rd).2=some w:=e
    cases e2:(sb n).2 with
    | some w' =>
     rw [e2] at e;have e:w'=w:=Option.some.inj e;exact e▸h n w' e2
    | none =>
     rw [e2] at e;exact ih w e
  ·exact ih w e
theorem qhq {F:Addr→Bool}{cs:Chs}(wd:∀ c∈cs,∀ u∈c.2,∀ z,u.1=.word z→z≠""):∀ (d:Nat) (z w:Str),(rdC F cs d z).2=some w→w≠""
 | 0,_,_,e=>by cases e
 | d+1,z,w,e=>qgq (fun n w e=>qhq wd d n w e) _ _ (fun u hu=>by
   obtain ⟨j,ej⟩:=List.getElem?_of_mem hu;obtain ⟨c,hc,_,e2⟩:=qtm ej
   exact wd c hc u (e2▸hu)) w e
def SnAt (H:Hp)(v:V)(x:Plc×Bool):Prop:=∃ t,v=.ref t∧H t=some (.tup [.str x.1.1,.int (x.1.2:Int),.bl x.2])
theorem SnAt.mono {H H':Hp}{v:V}{x:Plc×Bool}(h:SnAt H v x)(k:∀ a xs,H a=some (.tup xs)→H' a=some (.tup xs)):SnAt H' v x:=by
 obtain ⟨t,e,h⟩:=h;exact ⟨t,e,k _ _ h⟩
def But1 (l:Addr)(H H':Hp):Prop:=∀ a o,a≠l→H a=some o→H' a=some o
theorem But1.tup {l:Addr}{H H':Hp}(b:But1 l H H')(hl:H l=some (.lst xs)):∀ a ys,H a=some (.tup ys)→H' a=some (.tup ys):=fun a ys e=>b a _ (fun z=>by rw [z,hl] at e; cases e) e
theorem HaC.but {H H':Hp}{bx:Addr→Bsx}{v:V}{c:Str×List Ru}(h:HaC C H bx v c)(hC:H C=some (.lst xs))(b:But1 C H H'):HaC C H' bx v c:=by
 obtain ⟨t,l,ts,e,h1,n,h2,h3⟩:=h;have k:=b.tup hC;exact ⟨t,l,ts,e,k _ _ h1,n,b _ _ n h2,All2.imp h3 fun _ _ r=>r.mono k⟩
structure RdIn (sn:Addr)(H:Hp)(hl q:Addr)(hs:List V)(cs:Chs)(bx:Addr→Bsx)(rank:Str→Nat)(ns:List Int)(vs:List V):Prop where
 ne:hl≠sn
 hl:H hl=some (.lst hs)
 al:All2 (HaC sn H bx) hs cs
 nd:(cs.map (·.1)).Nodup
 rk:Ranked cs rank
 wd:∀ c∈cs,∀ u∈c.2,∀ z,u.1=.word z→z≠""
 lim:∀ e z,lenC cs e z≤100
 pt:IsPt H q ns
 n6:ns.length=6
 sn:H sn=some (.lst vs)
theorem RdIn.but {sn:Addr}{H H':Hp}{hl q:Addr}{hs:List V}{cs:Chs}{bx:Addr→Bsx}{rank:Str→Nat}{vs vs':List V}(h:RdIn sn H hl q hs cs bx rank ns vs)(b:But1 sn H H')(hs':H' sn=some (.lst vs')):RdIn sn H' hl q hs cs bx rank ns vs' :=
 ⟨h.ne,b _ _ h.ne h.hl,All2.imp h.al fun _ _ r=>r.but h.sn b,h.nd,h.rk,h.wd,h.lim,b.tup h.sn _ _ h.pt,h.n6,hs'⟩
def spRd (d:Nat):Sp:=fun vs H Q _=>∃ (hl q sn:Addr) (hs:List V) (cs:Chs) (bx:Addr→Bsx) (rank:Str→Nat) (z:Str) (ns:List Int) (vs0:List V),vs=[.ref hl,.str z,.ref q,.ref sn]∧RdIn sn H hl q hs cs bx rank ns vs0∧rank z<d∧vs0.length+101 * d≤900 ∧
 ∀ vs1 H',But1 sn H H'→H' sn=some (.lst (vs0++vs1))→All2 (SnAt H') vs1 (rdC (fun p=>qr0 (bx p) ns) cs d z).1→Q (.str ((rdC (fun p=>qr0 (bx p) ns) cs d z).2.getD "")) H'
theorem ok_rd0 (F:Fun K "_law_read" "_law_read" qs4 f fd):FnOk P w K mg base CX0 2 f fd ["_law_chains_here","_law_name_here","_law_parcel_here","_law_seen"] (spRd 0):=by
 refine F.ok qt1 (by walk_at "l") (fun _ _ _ _ H _ Q E hr h=>?_)
 ·obtain ⟨_,_,_,_,_,_,_,_,_,_,_,_,h,_⟩:=h
  omega
theorem ok_rd (d:Nat)(F:Fun K "_law_read" "_law_read" qs4 f fd)(g__law_has:Fn P w K mg base "_law_has" 1 ["_law_box_here","_law_parcel_here"] spIn)(g__law_read:Fn P w K mg base "_law_read" (d+2) ["_law_chains_here","_law_name_here","_law_parcel_here","_law_seen"] (spRd d))(b_enumerate:mg "enumerate"=none):FnOk P w K mg base CX0 (d+3) f fd ["_law_chains_here","_law_name_here","_law_parcel_here","_law_seen"] (spRd (d+1)):=by
 refine F.ok qt1 (by walk_at "l") (fun _ _ _ _ H _ Q E hr h=>?_);obtain ⟨hl,q,sn,hs,cs,bx,rank,z,ns,vs0,rfl,ri,rz,v900,k⟩:=h;generalize hF:(fun p=>qr0 (bx p) ns)=F' at *
 have hF':∀ p,F' p=qr0 (bx p) ns:=fun p=>by rw [← hF]
 have tot:(rdC F' cs (d+1) z).1.length≤100:=Nat.le_trans (qiq (d+1) z) (ri.lim _ _);refine ⟨_,(qc (qb3 PassesOwn.never rfl (ql3 (pv 0)) (qj7 rfl (qx (qp (i:=4) qt1.nd rfl (Or.inl rfl)) (qx (qp (i:=5) qt1.nd rfl (Or.inl rfl)) qc5))) (qc (ql1 (qk qiv (pv 4) (pv 1) (qs0 _)) (qg qn8) qn0) (qg (qb3 PassesOwn.never rfl (qik false rfl b_enumerate (qa (pv 5) qd)) (qj7 rfl (qx (qp (i:=6) qt1.nd rfl (Or.inl rfl)) (qx (qp (i:=7) qt1.nd rfl (Or.inl rfl)) qc5))) (qc (qi (i:=8) qt1.nd rfl (Or.inl rfl) (qf1 g__law_has hr (by omega) rfl (qa (qq ql0 (pv 7) qf (fun _ _=>rfl)) (qa (pv 2) qd)))) (qc (qn2 (qp8 PySem.F.plainAttrs_list PySem.F.slot_list_append PySem.F.type_list_append qr1 (pv 3) (qa (qv0 (qa (pv 1) (qa (pv 6) (qa (pv 8) qd)))) qd))) (qc (qi (i:=9) qt1.nd rfl (Or.inl rfl) qq1) (qc (ql1 (PW.pt (qfa (qh6 (pv 8)) (qm8 (qk qq4 (qq ql0 (pv 7) qf (fun _ _=>rfl)) qq1 (qs0 _))))) (qg (qm qq1)) qn0) (qc (ql1 (PW.pt (qfa (qh6 (pv 8)) (qm8 (qk qq4 (qq ql0 (pv 7) qf (fun _ _=>rfl)) qq1 (qs0 _))))) (qg (qi (i:=9) qt1.nd rfl (Or.inl rfl) (qf1 g__law_read hr (by omega) rfl (qa (pv 0) (qa (qq ql0 (pv 7) qf (fun _ _=>rfl)) (qa (pv 2) (qa (pv 3) qd))))))) (qg (ql1 (qh6 (pv 8)) (qg (qi (i:=9) qt1.nd rfl (Or.inl rfl) (qq ql0 (pv 7) qf (fun _ _=>rfl)))) qn0))) (qg (ql1 (qk qiv (pv 9) qq1 (qs0 _)) (qg (qm (pv 9))) qn0))))))))))) (qg (qm qq1))),?_⟩;rw [qah];walk_at "s";refine IlR.go (SqL.of ri.hl) ?_;refine ForR.items itl (fun i σ H'=>But1 sn H H'∧∃ (vs1:List V) (y1 y2 y3 y4 y5 y6:Option V),H' sn=some (.lst (vs0++vs1))∧(z∉(cs.take i).map (·.1)→vs1=[])∧(z∈(cs.take i).map (·.1)→(rdC F' cs (d+1) z).2=none∧All2 (SnAt H') vs1 (rdC F' cs (d+1) z).1)∧σ=[some (.ref hl),some (.str z),some (.ref q),some (.ref sn),y1,y2,y3,y4,y5,y6]) ⟨fun a o _ h=>h,[],none,none,none,none,none,none,by rw [List.append_nil]; exact ri.sn,(fun _=>rfl),(fun h=>absurd h (by simp)),rfl⟩ (fun i σ H' pv=>SqL.of (pv.1 _ _ ri.ne ri.hl)) (fun i x σ H1 hx pv=>?_) (fun σ H1 pv=>?_)
 ·obtain ⟨b1,vs1,y1,y2,y3,y4,y5,y6,hs1,no1,yes1,rfl⟩:=pv
  obtain ⟨c,ec,hc⟩:=All2.at ri.al hx;have hc1:=hc.but ri.sn b1;obtain ⟨t,l,ts,rfl,ht,nl,hlt,tal⟩:=id hc1;refine qio (SqT.of ht) ?_;walk_at "s"
  have tk:(cs.take (i+1)).map (·.1)=(cs.take i).map (·.1)++[c.1]:=by
   rw [List.take_add_one,ec,Option.toList_some,List.map_append];rfl
  by_cases ez:c.1=z
  ·have nin:z∉(cs.take i).map (·.1):=fun m=>by
    have nd:=ri.nd;rw [← List.take_append_drop i cs,List.map_append,List.nodup_append] at nd;refine nd.2.2 z m z ?_ rfl;obtain ⟨lt,e⟩:=List.getElem?_eq_some_iff.mp ec;rw [List.drop_eq_getElem_cons lt,e,List.map_cons,ez];exact List.mem_cons_self
   obtain rfl:=no1 nin
   have rC:rdC F' cs (d+1) z=rdGo F' (rdC F' cs d) z c.2 0:=by
    rw [rdC,← ez,qht ri.nd ec]
   rw [decide_eq_true ez];walk_at "s";refine EnuR.go (t:=false) (SqL.of hlt) ?_;refine ForR.pairs (ite (xs:=ts)) (fun j σ H'=>But1 sn H1 H'∧∃ (vs1:List V) (done:List (Plc×Bool)) (y3 y4 y5 y6:Option V),H' sn=some (.lst (vs0++vs1))∧All2 (SnAt H') vs1 done∧(rdC F' cs (d+1) z).1=done++(rdGo F' (rdC F' cs d) z (c.2.drop j) j).1∧(rdC F' cs (d+1) z).2=(rdGo F' (rdC F' cs d) z (c.2.drop j) j).2∧σ=[some (.ref hl),some (.str z),some (.ref q),some (.ref sn),some (.str c.1),some (.ref l),y3,y4,y5,y6]) ⟨fun a o _ h=>h,[],[],_,_,_,_,hs1,.nil,by rw [rC,List.drop_zero,List.nil_append],by rw [rC,List.drop_zero],rfl⟩ (fun j σ H' pv=>SqL.of (pv.1 _ _ nl hlt)) (fun j y t' σ H3 hy pv nt=>?_) (fun σ H3 pv=>?_)
   ·obtain ⟨b3,vs1,done,y3,y4,y5,y6,hs3,sal,e1,e2,rfl⟩:=pv
    obtain ⟨v,ev',rfl⟩:=qbd hy;obtain ⟨u,eu,hu⟩:=All2.at tal ev';obtain ⟨t2,rfl,ht2,rok,hbx,b6,fair⟩:=hu.mono (b3.tup hs1)
    have dr:c.2.drop j=u::c.2.drop (j+1):=by
     obtain ⟨lt,e⟩:=List.getElem?_eq_some_iff.mp eu;rw [← e,← List.drop_eq_getElem_cons lt]
    rw [dr] at e1 e2
    have dl:done.length+1≤100:=by
     have:=congrArg List.length e1;rw [List.length_append] at this
     have:1≤(rdGo F' (rdC F' cs d) z (u::c.2.drop (j+1)) j).1.length:=by
      rw [rdGo]
      split
      ·obtain ⟨r,p⟩:=u
       cases r with
       | word w=>exact Nat.le_refl _
       | back=>exact Nat.le_refl _
       | call n =>
        show 1≤(match (rdC F' cs d n).2 with | some w=>_ | none=>_:Rd).1.length
        cases (rdC F' cs d n).2 <;> exact Nat.succ_le_succ (Nat.zero_le _)
      ·exact Nat.succ_le_succ (Nat.zero_le _)
     omega
    have s3:=qe nt (.tup [.int (j:Int),.ref t2]);have vl:vs1.length=done.length:=All2.len sal;have b4:But1 sn H1 (upd H3 t' (.tup [.int (j:Int),.ref t2])):=fun a o n h=>s3 _ _ (b3 a o n h);have hs4:=s3 _ _ hs3;have ht4:=s3 _ _ ht2;have hb4:=hbx.same s3;have sal4:All2 (SnAt (upd H3 t' (.tup [.int (j:Int),.ref t2]))) vs1 done:=All2.imp sal fun _ _ r=>r.mono fun _ _ z=>s3 _ _ z;generalize upd H3 t' (.tup [.int (j:Int),.ref t2])=H4 at *;have ri4:RdIn sn H4 hl q hs cs bx rank ns (vs0++vs1):=(ri.but b1 hs1).but b4 hs4;walk_at "s";refine ixT_go (i:=1) (v:=.ref u.2) (SqT.of ht4) (by obtain ⟨r,p⟩:=u; cases r <;> rfl) ?_;refine ⟨u.2,q,bx u.2,ns,rfl,hb4,ri4.pt,ri.n6.trans b6.symm,b6,?_⟩;rw [← hF' u.2];walk_at "s";refine ⟨qy4 hs4,?_⟩;refine TupR.go (by simp) fun t5 nt5=>?_;have s5:=qe nt5 (.tup [.str z,.int (j:Int),.bl (F' u.2)]);have ht5:=qb0 (H:=H4) (a:=t5) (o:=.tup [.str z,.int (j:Int),.bl (F' u.2)]);have hs5:=s5 _ _ hs4;generalize upd H4 t5 (.tup [.str z,.int (j:Int),.bl (F' u.2)])=H5 at *;refine qm6 hs5 (by rw [List.length_append]; omega) ?_;have k6:∀ a xs,H5 a=some (.tup xs)→upd H5 sn (.lst ((vs0++vs1)++[.ref t5])) a=some (.tup xs):=qu2 hs5
    have b6':But1 sn H1 (upd H5 sn (.lst ((vs0++vs1)++[.ref t5]))):=fun a o n h=>by rw [qt n]; exact s5 _ _ (b4 a o n h)
    have hs6:upd H5 sn (.lst ((vs0++vs1)++[.ref t5])) sn=some (.lst (vs0++(vs1++[.ref t5]))):=by rw [qb0,List.append_assoc]
    have ht6:=k6 _ _ (s5 _ _ ht4);have sal6:All2 (SnAt (upd H5 sn (.lst ((vs0++vs1)++[.ref t5])))) (vs1++[.ref t5]) (done++[((z,j),F' u.2)]):=(All2.imp sal4 fun _ _ r=>r.mono fun _ _ z=>k6 _ _ (s5 _ _ z)).snoc ⟨t5,rfl,k6 _ _ ht5⟩;generalize upd H5 sn (.lst ((vs0++vs1)++[.ref t5]))=H6 at *;have bH6:But1 sn H H6:=fun a o n h=>b6' a o n (b1 a o n h);walk_at "s"
    cases ef:F' u.2 with
    | false =>
     rw [ef] at sal6;walk_at "s";rw [rdGo,if_neg (by rw [ef]; decide)] at e1 e2;exact ⟨b6',_,_,_,_,_,_,hs6,sal6,by rw [List.append_assoc]; exact e1,e2,rfl⟩
    | true =>
     rw [ef] at sal6;rw [rdGo,if_pos ef] at e1 e2;obtain ⟨r,p⟩:=u
     cases r with
     | word w =>
      have ht6:H6 t2=some (.tup [.str w,.ref p]):=ht6;walk_at "s";refine ixT_go (i:=0) (SqT.of ht6) rfl ?_;walk_at "s";rw [decide_eq_false rok.1];walk_at "s";refine ixT_go (i:=0) (SqT.of ht6) rfl ?_;walk_at "s";rw [decide_eq_false rok.2.1];walk_at "s";refine ixT_go (i:=0) (SqT.of ht6) rfl ?_;walk_at "s";have wn:w≠"":=ri.wd c (List.mem_of_getElem? ec) _ (List.mem_of_getElem? eu) w rfl;rw [decide_eq_false wn];walk_at "s";have e2:(rdC F' cs (d+1) z).2=some w:=e2;rw [e1,e2] at k;exact k _ H6 bH6 hs6 sal6
     | back =>
      have ht6:H6 t2=some (.tup [.str "back",.ref p]):=ht6;walk_at "s";refine ixT_go (i:=0) (SqT.of ht6) rfl ?_;walk_at "s";have e2:(rdC F' cs (d+1) z).2=none:=e2;rw [e1,e2] at k;exact k _ H6 bH6 hs6 sal6
     | call n =>
      have ht6:H6 t2=some (.tup [.str "call",.ref p,.str n]):=ht6;walk_at "s";refine ixT_go (i:=0) (SqT.of ht6) rfl ?_;walk_at "s";rw [decide_eq_false (show ¬ ("call":Str)="back" by decide)];walk_at "s";refine ixT_go (i:=0) (SqT.of ht6) rfl ?_;walk_at "s";refine ixT_go (i:=2) (SqT.of ht6) rfl ?_;have rn:=(ri.rk c (List.mem_of_getElem? ec) n (List.mem_filterMap.mpr ⟨_,List.mem_of_getElem? eu,rfl⟩)).2;rw [ez] at rn;rw [← List.append_assoc] at hs6;refine ⟨hl,q,sn,hs,cs,bx,rank,n,ns,_,rfl,(ri.but b1 hs1).but b6' hs6,by omega,by rw [List.length_append,List.length_append,List.length_singleton]; omega,fun vs2 H7 b7 hs7 sal7=>?_⟩;rw [hF] at sal7 ⊢;have b17:But1 sn H1 H7:=fun a o n h=>b7 a o n (b6' a o n h);have bH7:But1 sn H H7:=fun a o n h=>b17 a o n (b1 a o n h)
      have hs7:H7 sn=some (.lst (vs0++((vs1++[.ref t5])++vs2))):=by
       rw [hs7];simp only [List.append_assoc]
      have sal7':All2 (SnAt H7) ((vs1++[.ref t5])++vs2) ((done++[((z,j),true)])++(rdC F' cs d n).1):=All2.app (All2.imp sal6 fun _ _ r=>r.mono (b7.tup hs6)) sal7;walk_at "s";have e1:(rdC F' cs (d+1) z).1=done++(match (rdC F' cs d n).2 with | some w=>(((z,j),true)::(rdC F' cs d n).1,some w) | none=>(((z,j),true)::((rdC F' cs d n).1++(rdGo F' (rdC F' cs d) z (c.2.drop (j+1)) (j+1)).1),(rdGo F' (rdC F' cs d) z (c.2.drop (j+1)) (j+1)).2):Rd).1:=e1;have e2:(rdC F' cs (d+1) z).2=(match (rdC F' cs d n).2 with | some w=>(((z,j),true)::(rdC F' cs d n).1,some w) | none=>(((z,j),true)::((rdC F' cs d n).1++(rdGo F' (rdC F' cs d) z (c.2.drop (j+1)) (j+1)).1),(rdGo F' (rdC F' cs d) z (c.2.drop (j+1)) (j+1)).2):Rd).2:=e2
      cases eo:(rdC F' cs d n).2 with
      | some w =>
       rw [eo] at e1 e2;have wn:w≠"":=qhq ri.wd d n w eo;show BrS (!decide (w="")) _ _ _ _;rw [decide_eq_false wn];walk_at "s";have e2:(rdC F' cs (d+1) z).2=some w:=e2
       have e1:(rdC F' cs (d+1) z).1=(done++[((z,j),true)])++(rdC F' cs d n).1:=by
        rw [e1,List.append_assoc];rfl
       rw [e1,e2] at k;exact k _ H7 bH7 hs7 sal7'
      | none =>
       rw [eo] at e1 e2;walk_at "s";refine ⟨b17,_,_,_,_,_,_,hs7,sal7',?_,e2,rfl⟩;rw [e1];simp only [List.append_assoc,List.cons_append,List.nil_append]
   ·obtain ⟨b3,vs1,done,y3,y4,y5,y6,hs3,sal,e1,e2,rfl⟩:=pv
    rw [qi9,All2.len tal,List.drop_length] at e1 e2;have e1:(rdC F' cs (d+1) z).1=done++[]:=e1;rw [List.append_nil] at e1;rw [← e1] at sal;refine ⟨fun a o n h=>b3 a o n (b1 a o n h),vs1,_,_,_,_,_,_,hs3,fun h=>absurd ?_ h,fun _=>⟨e2,sal⟩,rfl⟩;rw [tk,ez];exact List.mem_append_right _ List.mem_cons_self
  ·rw [decide_eq_false ez]
   walk_at "s";refine ⟨b1,vs1,_,_,_,_,_,_,hs1,fun h=>no1 fun m=>h (by rw [tk]; exact List.mem_append_left _ m),fun h=>yes1 ?_,rfl⟩;rw [tk] at h
   rcases List.mem_append.mp h with h | h
   ·exact h
   ·exact absurd (List.mem_singleton.mp h).symm ez
 ·obtain ⟨b1,vs1,y1,y2,y3,y4,y5,y6,hs1,no1,yes1,rfl⟩:=pv
  have ct:cs.take hs.length=cs:=by rw [All2.len ri.al,List.take_length]
  rw [ct] at no1 yes1;walk_at "s"
  by_cases hz:z∈cs.map (·.1)
  ·obtain ⟨e2,sal⟩:=yes1 hz
   rw [e2] at k;exact k vs1 H1 b1 hs1 sal
  ·have e:rdC F' cs (d+1) z=([],none):=by
    rw [rdC,show chOf cs z=[] from ?_]
    ·rfl
    ·unfold chOf
     cases hl:cs.lookup z with
     | none=>rfl
     | some us=>exact absurd (qt9 hl) hz
   rw [e] at k;obtain rfl:=no1 hz;exact k [] H1 b1 hs1 .nil
def LabO (H:Hp)(w:V):Option (List Int)→Prop
 | none=>w=.non
 | some c=>∃ a,w=.ref a∧IsPt H a c
section
variable {cRu cWo cBa cCa cBo:Addr}
structure Bl (H:Hp)(cs:Chs)(len:Str→Int)(rank:Str→Nat)(D:Nat)(bx:Addr→Bsx):Prop where
 nok:qw9 cs
 lens:Lens cs len rank
 main:("main":Str)∈cs.map (·.1)
 top:len "main"≤120
 rk:∀ c∈cs,rank c.1<D
 box:∀ c∈cs,∀ u∈c.2,IsBox H u.2 (bx u.2)∧(bx u.2).length=6∧Fair (bx u.2)
 ok:∀ c∈cs,∀ u∈c.2,u.1.ok
theorem Bl.same {H H':Hp}{cs:Chs}{len:Str→Int}{rank:Str→Nat}{D:Nat}{bx:Addr→Bsx}(b:Bl H cs len rank D bx)(s:Same H H'):Bl H' cs len rank D bx:=⟨b.nok,b.lens,b.main,b.top,b.rk,fun c hc u hu=>⟨(b.box c hc u hu).1.same s,(b.box c hc u hu).2⟩,b.ok⟩
theorem Bl.words {H:Hp}{cs:Chs}{len:Str→Int}{rank:Str→Nat}{D:Nat}{bx:Addr→Bsx}(b:Bl H cs len rank D bx):qfd (qd1 cs D "main" 0):=fun r hr z ez=>by
 obtain ⟨c,hc,en,u,eu,eb,ew⟩:=qz7 D "main" 0 r hr;have:=b.ok c hc u (List.mem_of_getElem? eu);rw [ew z ez] at this;exact this.2.2.2
theorem Bl.at {H:Hp}{cs:Chs}{len:Str→Int}{rank:Str→Nat}{D:Nat}{bx:Addr→Bsx}(b:Bl H cs len rank D bx){vr:List V}(h:All2 (RwP H) vr (qd1 cs D "main" 0)):All2 (RowAt H bx) vr (qd1 cs D "main" 0):=by
 have ok:∀ r∈qd1 cs D "main" 0,IsBox H r.bp (bx r.bp)∧(bx r.bp).length=6∧Fair (bx r.bp):=fun r hr=>by
  obtain ⟨c,hc,en,u,eu,eb,ew⟩:=qz7 D "main" 0 r hr;rw [eb];exact b.box c hc u (List.mem_of_getElem? eu)
 generalize qd1 cs D "main" 0=R at *
 induction h with
 | nil=>exact .nil
 | cons h _ ih =>
  obtain ⟨t,e,h⟩:=h;exact .cons ⟨t,e,h,ok _ List.mem_cons_self⟩ (ih fun r hr=>ok r (List.mem_cons_of_mem _ hr))
def ql9 (cWo cBa cCa cBo:Addr):Sp:=fun vs H Q _=>∃ (b p:Addr) (df:Str) (cs:Chs) (len:Str→Int) (rank:Str→Nat) (D:Nat) (bx:Addr→Bsx) (bs:Bsx),vs=[.ref b,.ref p]∧IsBook cWo cBa cCa cBo H b df cs len∧Bl H cs len rank D bx∧IsBox H p bs∧bs.length=6∧Low bs∧(qa4 (qd1 cs D "main" 0) bx df bs).length≤16770000 ∧
 ∀ T xs H',H T=none→Same H H'→H' T=some (.lst xs)→All2 (LkF H T H') xs (qa4 (qd1 cs D "main" 0) bx df bs)→Q (.ref T) H'
theorem qbi (F:Fun K "looked_by" "looked_by" qn5 f fd)(g_unfolded:Fn P w K mg base "unfolded" 3 ["book"] (qtu cWo cBa cCa cBo))(g_looked:Fn P w K mg base "looked" 6 ["rows","default","box"] qsa)(T:TxB K cRu cWo cBa cCa cBo):FnOk P w K mg base CX0 7 f fd ["book","box"] (ql9 cWo cBa cCa cBo):=by
 refine F.ok qgh (by walk_at "l") (fun _ _ _ _ H _ Q E hr h=>?_);obtain ⟨b,p,df,cs,len,rank,D,bx,bs,rfl,bk,ok,hp,b6,low,few,k⟩:=h;obtain ⟨dx,kd,o,ps,ld,ls0,hb,_⟩:=id bk;refine ⟨_,(qg (qm (qf1 g_looked hr (by decide) rfl (qa (qf1 g_unfolded hr (by decide) rfl (qa (pv 0) qd)) (qa (qe8 (pv 0) rfl) (qa (pv 1) qd)))))),?_⟩;rw [qyg];walk_at "s";refine ⟨b,df,cs,len,rank,D,rfl,bk,ok.nok,ok.lens,ok.main,ok.top,ok.rk,fun rl vr H1 nrl s1 hrl ralP rlen=>?_⟩;have ral:=(ok.same s1).at ralP
 have r120:(qd1 cs D "main" 0).length≤120:=by
  have:=ok.top;rw [rlen];omega
 walk_at "s";refine FldR.go (s1 _ _ hb) T.cls T.n_default (qne kd) ?_;walk_at "s";refine ⟨rl,p,df,vr,qd1 cs D "main" 0,bx,bs,rfl,hrl,ral,qp6,ok.words,r120,hp.same s1,b6,low,few,fun TD xs H4 nTD s4 hTD lal=>?_⟩;exact k TD xs H4 (s1.free nTD) (s1.trans s4) hTD (All2.imp lal fun _ _ r=>⟨r.1,fun t p l e h=>s1.free (r.2 t p l e h)⟩)
def JnAt (D:Addr)(H:Hp)(v:V)(x:Jn):Prop:=∃ t p l1 l2 ls1 ls2,v=.ref t∧H t=some (.tup [.ref p,.ref l1,.str x.2.2.1,.ref l2,.str x.2.2.2.2])∧IsBox H p x.1∧l1≠D∧l2≠D∧H l1=some (.lst ls1)∧All2 (WkAt H) ls1 x.2.1∧H l2=some (.lst ls2)∧All2 (WkAt H) ls2 x.2.2.2.1
theorem JnAt.but {H H':Hp}{v:V}{x:Jn}(h:JnAt D H v x)(k:But1 D H H')(t:∀ a xs,H a=some (.tup xs)→H' a=some (.tup xs)):JnAt D H' v x:=by
 obtain ⟨t',p,l1,l2,ls1,ls2,e,h1,h2,n1,n2,h3,h4,h5,h6⟩:=h;exact ⟨t',p,l1,l2,ls1,ls2,e,t _ _ h1,h2.mono t,n1,n2,k _ _ n1 h3,All2.imp h4 fun _ _ ⟨t0,e,h⟩=>⟨t0,e,t _ _ h⟩,k _ _ n2 h5,All2.imp h6 fun _ _ ⟨t0,e,h⟩=>⟨t0,e,t _ _ h⟩⟩
theorem JnAt.same {H H':Hp}{v:V}{x:Jn}(h:JnAt D H v x)(s:Same H H'):JnAt D H' v x:=h.but (fun a o _ e=>s a o e) fun a xs e=>s a _ e
def qxj (cWo cBa cCa cBo:Addr):Sp:=fun vs H Q _=>∃ (a b:Addr) (d1 d2:Str) (cs1 cs2:Chs) (len1 len2:Str→Int) (k1 k2:Str→Nat) (D1 D2:Nat) (bx:Addr→Bsx),vs=[.ref a,.ref b]∧IsBook cWo cBa cCa cBo H a d1 cs1 len1∧Bl H cs1 len1 k1 D1 bx∧IsBook cWo cBa cCa cBo H b d2 cs2 len2∧Bl H cs2 len2 k2 D2 bx∧Two (qd1 cs1 D1 "main" 0) (qd1 cs2 D2 "main" 0) bx d1 d2∧(qa4 (qd1 cs1 D1 "main" 0) bx d1 wholeU).length≤16770000 ∧
 ∀ D us H',H D=none→Same H H'→H' D=some (.lst us)→All2 (JnAt D H') us (qh3 (qd1 cs1 D1 "main" 0) (qd1 cs2 D2 "main" 0) bx d1 d2)→Q (.ref D) H'
theorem gtup5 {x y z u v:V}{j l:Nat}{H:Hp}{R:L2.St→Hp→Prop}(h:SqT K H a [x,y,z,u,v])(q:R (((((σ.set i (some x)).set j (some y)).set k (some z)).set l (some u)).set m (some v)) H):gTup K 5 (qu6 (qb4 i) (qu6 (qb4 j) (qu6 (qb4 k) (qu6 (qb4 l) (qu6 (qb4 m) gNil))))) (.ref a) σ H R:=⟨a,_,rfl,h,rfl,_,_,rfl,_,_,rfl,_,_,rfl,_,_,rfl,_,_,rfl,rfl,q⟩
theorem qsv (F:Fun K "joint" "joint" qtb f fd)(g_unfolded:Fn P w K mg base "unfolded" 3 ["book"] (qtu cWo cBa cCa cBo))(g_looked:Fn P w K mg base "looked" 6 ["rows","default","box"] qsa)(g_looked_by:Fn P w K mg base "looked_by" 7 ["book","box"] (ql9 cWo cBa cCa cBo))(g_every:Fn P w K mg base "every" 1 [] qyj)(b_list:mg "list"=none)(T:TxB K cRu cWo cBa cCa cBo):FnOk P w K mg base CX0 8 f fd ["one","other"] (qxj cWo cBa cCa cBo):=by
 refine F.ok qf5 (by walk_at "l") (fun cdv A outer s H vs Q E hr h=>?_);obtain ⟨a,b,d1,d2,cs1,cs2,len1,len2,k1,k2,D1,D2,bx,rfl,bk1,ok1,bk2,ok2,two,few1,k⟩:=h;obtain ⟨dx,kd,o,ps,ld,ls0,hb,_⟩:=id bk2;refine ⟨_,(qc (qi (i:=2) qf5.nd rfl (Or.inl rfl) (qf1 g_unfolded hr (by decide) rfl (qa (pv 1) qd))) (qc (qi (i:=3) qf5.nd rfl (Or.inl rfl) (qe1 qd)) (qc (qb3 PassesOwn.never rfl (ql3 (qf1 g_looked_by hr (by decide) rfl (qa (pv 0) (qa (qwq g_every hr (by decide) rfl) qd)))) (qj7 rfl (qx (qp (i:=4) qf5.nd rfl (Or.inl rfl)) (qx (qp (i:=5) qf5.nd rfl (Or.inl rfl)) (qx (qp (i:=6) qf5.nd rfl (Or.inl rfl)) qc5)))) (qg (qb3 PassesOwn.never rfl (ql3 (qf1 g_looked hr (by decide) rfl (qa (pv 2) (qa (qe8 (pv 1) rfl) (qa (pv 4) qd))))) (qj7 rfl (qx (qp (i:=7) qf5.nd rfl (Or.inl rfl)) (qx (qp (i:=8) qf5.nd rfl (Or.inl rfl)) (qx (qp (i:=9) qf5.nd rfl (Or.inl rfl)) qc5)))) (qg (qn2 (qp8 PySem.F.plainAttrs_list PySem.F.slot_list_append PySem.F.type_list_append qr1 (pv 3) (qa (qv0 (qa (pv 7) (qa (qm4 qke rfl b_list qpt (qa (pv 5) qd)) (qa (pv 6) (qa (pv 8) (qa (pv 9) qd)))))) qd))))))) (qg (qm (pv 3)))))),?_⟩;rw [qou];walk_at "s";refine ⟨b,d2,cs2,len2,k2,D2,rfl,bk2,ok2.nok,ok2.lens,ok2.main,ok2.top,ok2.rk,fun rl vr H1 nrl s1 hrl ralP rlen=>?_⟩;have ral:=(ok2.same s1).at ralP
 have r120:(qd1 cs2 D2 "main" 0).length≤120:=by
  have:=ok2.top;rw [rlen];omega
 walk_at "s";refine LstR.go (by simp) fun D nD=>?_;have s2:=qe nD (.lst []);have hD2:=qb0 (H:=H1) (a:=D) (o:=.lst []);have nD0:H D=none:=s1.free nD;generalize upd H1 D (.lst [])=H2 at *;have s12:=s1.trans s2;walk_at "s";refine ⟨rfl,fun ev H3 s3 hev=>?_⟩;have s13:=s12.trans s3;walk_at "s";refine ⟨a,ev,d1,cs1,len1,k1,D1,bx,wholeU,rfl,bk1.same s13,ok1.same s13,hev,rfl,nar_whole.Low,few1,fun TD xs H4 nTD s4 hTD lal=>?_⟩;have s14:=s13.trans s4;have hD4:=(s3.trans s4) _ _ hD2
 have ndT:TD≠D:=fun e=>by
  rw [e,s3 _ _ hD2] at nTD;cases nTD
 have ndr:rl≠D:=qz hrl nD;have s24:=s2.trans (s3.trans s4);have hrl4:=s24 _ _ hrl;have ral4:All2 (RowAt H4 bx) vr (qd1 cs2 D2 "main" 0):=All2.imp ral fun _ _ r=>r.same s24;have wo2:=ok2.words;have lat2:=qp6 (cs:=cs2) (d:=D2) (z:="main");have ebl:=s14 _ _ hb;have ndb:b≠D:=qz hb nD0;have ksok:∀ k∈qa4 (qd1 cs1 D1 "main" 0) bx d1 wholeU,Six wholeU k.1:=fun k hk=>(qt6 two.full1 nar_whole.sixU qv4 hk).2.1;have few:=two.few;have fewk:=two.fewk;unfold qh3 at few k;generalize qd1 cs2 D2 "main" 0=R2 at *;generalize qa4 (qd1 cs1 D1 "main" 0) bx d1 wholeU=ks at *
 have fewi:∀ i,((ks.take i).flatMap fun k=>(qa4 R2 bx d2 k.1).map (jn k)).length≤16708185:=fun i=>by
  refine Nat.le_trans ?_ few;have e:=congrArg (fun l:List Lk=>(l.flatMap fun k=>(qa4 R2 bx d2 k.1).map (jn k)).length) (List.take_append_drop i ks);simp only [List.flatMap_append,List.length_append] at e;omega
 refine IlR.go (SqL.of hTD) ?_;refine ForR.items itl (fun i σ H'=>Same H H'∧But1 D H4 H'∧∃ (us:List V) (y1 y2 y3 y4 y5 y6:Option V),H' D=some (.lst us)∧All2 (JnAt D H') us ((ks.take i).flatMap fun k=>(qa4 R2 bx d2 k.1).map (jn k))∧σ=[some (.ref a),some (.ref b),some (.ref rl),some (.ref D),y1,y2,y3,y4,y5,y6]) ⟨s14,fun a o _ h=>h,[],none,none,none,none,none,none,hD4,.nil,rfl⟩ (fun i σ H' pv=>SqL.of (pv.2.1 _ _ ndT hTD)) (fun i x σ H5 hx pv=>?_) (fun σ H5 pv=>?_)
 ·obtain ⟨sm,b5,us,y1,y2,y3,y4,y5,y6,hD5,ual,rfl⟩:=pv
  obtain ⟨k0,ek0,⟨t,p,l,ls,rfl,ht,hp,nl,hl,wal⟩,fr⟩:=All2.at lal hx;have k6:=ksok k0 (List.mem_of_getElem? ek0);have fk:=fewk k0 (List.mem_of_getElem? ek0);have jt:=qho (R2:=R2) (bx:=bx) (d2:=d2) ek0;have jl:=fewi (i+1);rw [jt,List.length_append,List.length_map] at jl;rw [jt]
  have nlD:l≠D:=fun e=>by
   have:=fr t p l rfl ht;rw [e,s3 _ _ hD2] at this;cases this
  have tup5:∀ a xs,H4 a=some (.tup xs)→H5 a=some (.tup xs):=fun a xs e=>b5 a _ (fun z=>by rw [z,hD4] at e; cases e) e;refine gtup3 (SqT.of (tup5 _ _ ht)) ?_;walk_at "s";refine FldR.go (b5 _ _ ndb ebl) T.cls T.n_default (qne kd) ?_;walk_at "s";refine ⟨rl,p,d2,vr,R2,bx,k0.1,rfl,b5 _ _ ndr hrl4,All2.imp ral4 fun _ _ ⟨t0,e,h1,h2,h3⟩=>⟨t0,e,tup5 _ _ h1,h2.mono tup5,h3⟩,lat2,wo2,r120,hp.mono tup5,k6.six,six_low k6,Nat.le_trans fk (by decide),fun TE ys H6 nTE s6 hTE mal=>?_⟩;have mal:All2 (LkF H5 TE H6) ys (qa4 R2 bx d2 k0.1):=mal;have hD6:=s6 _ _ hD5;have hl6:=s6 _ _ (b5 _ _ nlD hl);have wal6:All2 (WkAt H6) ls k0.2.1:=All2.imp wal fun _ _ ⟨t0,e,h⟩=>⟨t0,e,s6 _ _ (tup5 _ _ h)⟩
  have nTED:TE≠D:=fun e=>by
   rw [e,hD5] at nTE;cases nTE
  refine IlR.go (SqL.of hTE) ?_
  refine ForR.items itl (fun j σ H'=>Same H H'∧But1 D H6 H'∧∃ (us:List V) (y4 y5 y6:Option V),H' D=some (.lst us)∧All2 (JnAt D H') us (((ks.take i).flatMap fun k=>(qa4 R2 bx d2 k.1).map (jn k))++((qa4 R2 bx d2 k0.1).take j).map (jn k0))∧σ=[some (.ref a),some (.ref b),some (.ref rl),some (.ref D),some (.ref p),some (.ref l),some (.str k0.2.2),y4,y5,y6]) ⟨sm.trans s6,fun a o _ h=>h,us,_,_,_,hD6,by
   rw [List.take_zero,List.map_nil,List.append_nil]
   exact All2.imp ual fun _ _ r=>r.same s6,rfl⟩ (fun j σ H' pv=>SqL.of (pv.2.1 _ _ nTED hTE)) (fun j y σ H7 hy pv=>?_) (fun σ H7 pv=>?_)
  ·obtain ⟨sm7,b7,us,y4,y5,y6,hD7,ual7,rfl⟩:=pv
   obtain ⟨m0,em0,⟨t',p',l',ls',rfl,ht',hp',nl',hl',wal'⟩,fr'⟩:=All2.at mal hy;have ul:=All2.len ual7;have jlen:j<(qa4 R2 bx d2 k0.1).length:=(List.getElem?_eq_some_iff.mp em0).1;rw [List.length_append,List.length_map,List.length_take] at ul;have tup7:∀ a xs,H6 a=some (.tup xs)→H7 a=some (.tup xs):=fun a xs e=>b7 a _ (fun z=>by rw [z,hD6] at e; cases e) e
   have nl'D:l'≠D:=fun e=>by
    have:=fr' t' p' l' rfl ht';rw [e,hD5] at this;cases this
   refine gtup3 (SqT.of (tup7 _ _ ht')) ?_;walk_at "s";refine ⟨qy4 hD7,?_⟩;refine LstOf.lst (SqL.of (b7 _ _ nlD hl6)) fun lc nlc=>?_;have s8:=qe nlc (.lst ls);have hlc:=qb0 (H:=H7) (a:=lc) (o:=.lst ls)
   have nlcD:lc≠D:=fun e=>by
    rw [e,hD7] at nlc;cases nlc
   generalize upd H7 lc (.lst ls)=H8 at *;refine TupR.go (by simp) fun tq ntq=>?_;have s9:=qe ntq (.tup [.ref p',.ref lc,.str k0.2.2,.ref l',.str m0.2.2]);have htq:=qb0 (H:=H8) (a:=tq) (o:=.tup [.ref p',.ref lc,.str k0.2.2,.ref l',.str m0.2.2]);generalize upd H8 tq (.tup [.ref p',.ref lc,.str k0.2.2,.ref l',.str m0.2.2])=H9 at *;have s79:=s8.trans s9;have hD9:=s79 _ _ hD7;refine qrt hD9 (by omega) ?_;have kx:∀ a xs,H9 a=some (.tup xs)→upd H9 D (.lst (us++[.ref tq])) a=some (.tup xs):=qu2 hD9
   have bx9:But1 D H9 (upd H9 D (.lst (us++[.ref tq]))):=fun a o n h=>by rw [qt n]; exact h
   refine ⟨((sm7.trans s79)).put nD0,fun a o n h=>bx9 a o n (s79 _ _ (b7 a o n h)),us++[.ref tq],_,_,_,qb0,?_,rfl⟩;rw [List.take_add_one,em0,Option.toList_some,List.map_append,← List.append_assoc];refine (All2.imp ual7 fun _ _ r=>(r.same s79).but bx9 kx).snoc ⟨tq,p',lc,l',ls,ls',rfl,kx _ _ htq,(hp'.mono tup7).mono fun a xs e=>kx _ _ (s79 _ _ e),nlcD,nl'D,bx9 _ _ nlcD (s9 _ _ hlc),All2.imp wal6 fun _ _ ⟨t0,e,h⟩=>⟨t0,e,kx _ _ (s79 _ _ (tup7 _ _ h))⟩,bx9 _ _ nl'D (s79 _ _ (b7 _ _ nl'D hl')),All2.imp wal' fun _ _ ⟨t0,e,h⟩=>⟨t0,e,kx _ _ (s79 _ _ (tup7 _ _ h))⟩⟩
  ·obtain ⟨sm7,b7,us,y4,y5,y6,hD7,ual7,rfl⟩:=pv
   rw [All2.len mal,List.take_length] at ual7;exact ⟨sm7,fun a o n h=>b7 a o n (s6 _ _ (b5 a o n h)),us,_,_,_,_,_,_,hD7,ual7,rfl⟩
 ·obtain ⟨sm,b5,us,y1,y2,y3,y4,y5,y6,hD5,ual,rfl⟩:=pv
  rw [All2.len lal,List.take_length] at ual;walk_at "s";exact k D us H5 nD0 sm hD5 ual
def qi6 (js:List Jn):Option (List Int):=(js.find? fun x=>!decide (x.2.2.1=x.2.2.2.2)).map fun x=>x.1.map (·.1)
def qch (cWo cBa cCa cBo:Addr):Sp:=fun vs H Q _=>∃ (a b:Addr) (d1 d2:Str) (cs1 cs2:Chs) (len1 len2:Str→Int) (k1 k2:Str→Nat) (D1 D2:Nat) (bx:Addr→Bsx),vs=[.ref a,.ref b]∧IsBook cWo cBa cCa cBo H a d1 cs1 len1∧Bl H cs1 len1 k1 D1 bx∧IsBook cWo cBa cCa cBo H b d2 cs2 len2∧Bl H cs2 len2 k2 D2 bx∧Two (qd1 cs1 D1 "main" 0) (qd1 cs2 D2 "main" 0) bx d1 d2∧(qa4 (qd1 cs1 D1 "main" 0) bx d1 wholeU).length≤16770000 ∧
 ∀ v H',Same H H'→LabO H' v (qi6 (qh3 (qd1 cs1 D1 "main" 0) (qd1 cs2 D2 "main" 0) bx d1 d2))→Q v H'
theorem qzq {js:List Jn}(h:∀ (j:Nat) (x:Jn),j<i→js[j]?=some x→x.2.2.1=x.2.2.2.2){x:Jn}(e:js[i]?=some x)(ne:x.2.2.1≠x.2.2.2.2):qi6 js=some (x.1.map (·.1)):=by
 unfold qi6
 induction js generalizing i with
 | nil=>cases e
 | cons y js ih =>
  cases i with
  | zero =>
   cases e;rw [List.find?_cons,decide_eq_false ne];rfl
  | succ i =>
   rw [List.find?_cons,decide_eq_true (h 0 y (by omega) rfl)];exact ih (fun j x lj ej=>h (j+1) x (by omega) ej) e
theorem qfv {js:List Jn}(h:∀ x∈js,x.2.2.1=x.2.2.2.2):qi6 js=none:=by
 unfold qi6;rw [Option.map_eq_none_iff,List.find?_eq_none];intro x hx;rw [decide_eq_true (h x hx)];decide
theorem qhe {R1 R2:List Row}{bx:Addr→Bsx}{d1 d2:Str}(two:Two R1 R2 bx d1 d2):∀ x∈qh3 R1 R2 bx d1 d2,Fair x.1∧Six wholeU x.1:=fun x hx=>by
 obtain ⟨k0,hk,hx⟩:=List.mem_flatMap.mp hx;obtain ⟨m,hm,rfl⟩:=List.mem_map.mp hx;obtain ⟨_,k6,kf,_⟩:=qt6 two.full1 nar_whole.sixU qv4 hk;obtain ⟨_,m6,mf,_⟩:=qt6 two.full2 k6 kf hm;exact ⟨mf,m6⟩
theorem qwn (F:Fun K "parting" "parting" qe7 f fd)(g_joint:Fn P w K mg base "joint" 8 ["one","other"] (qxj cWo cBa cCa cBo))(g_corner:Fn P w K mg base "corner" 1 ["box"] qhf):FnOk P w K mg base CX0 9 f fd ["one","other"] (qch cWo cBa cCa cBo):=by
 refine F.ok qh5 (by walk_at "l") (fun cdv A outer s H vs Q E hr h=>?_);obtain ⟨a,b,d1,d2,cs1,cs2,len1,len2,k1,k2,D1,D2,bx,rfl,bk1,ok1,bk2,ok2,two,few1,k⟩:=h;have jf:=qhe two;refine ⟨_,(qc (qb3 PassesOwn.never rfl (ql3 (qf1 g_joint hr (by decide) rfl (qa (pv 0) (qa (pv 1) qd)))) (qj7 rfl (qx (qp (i:=2) qh5.nd rfl (Or.inl rfl)) (qx (qp (i:=3) qh5.nd rfl (Or.inl rfl)) (qx (qp (i:=4) qh5.nd rfl (Or.inl rfl)) (qx (qp (i:=5) qh5.nd rfl (Or.inl rfl)) (qx (qp (i:=6) qh5.nd rfl (Or.inl rfl)) qc5)))))) (qg (ql1 (qk qiv (pv 4) (pv 6) (qs0 _)) (qg (qm (qf1 g_corner hr (by decide) rfl (qa (pv 2) qd)))) qn0))) (qg (qm qw5))),?_⟩;rw [qcn];walk_at "s";refine ⟨a,b,d1,d2,cs1,cs2,len1,len2,k1,k2,D1,D2,bx,rfl,bk1,ok1,bk2,ok2,two,few1,fun D us H1 nD s1 hD ual=>?_⟩;generalize qh3 (qd1 cs1 D1 "main" 0) (qd1 cs2 D2 "main" 0) bx d1 d2=js at *;refine IlR.go (SqL.of hD) ?_;refine ForR.items itl (fun i σ H'=>H'=H1∧(∀ (j:Nat) (x:Jn),j<i→js[j]?=some x→x.2.2.1=x.2.2.2.2)∧∃ (y1 y2 y3 y4 y5:Option V),σ=[some (.ref a),some (.ref b),y1,y2,y3,y4,y5]) ⟨rfl,(fun j x lj=>absurd lj (Nat.not_lt_zero _)),none,none,none,none,none,rfl⟩ (fun i σ H' pv=>by rw [pv.1]; exact SqL.of hD) (fun i x σ H2 hx pv=>?_) (fun σ H2 pv=>?_)
 ·obtain ⟨rfl,al,y1,y2,y3,y4,y5,rfl⟩:=pv
  obtain ⟨x0,ex0,t,p,l1,l2,ls1,ls2,rfl,ht,hp,_⟩:=All2.at ual hx;refine gtup5 (SqT.of ht) ?_;walk_at "s"
  by_cases e:x0.2.2.1=x0.2.2.2.2
  ·rw [decide_eq_true e]
   walk_at "s";refine ⟨fun j x lj ej=>?_,_,_,_,_,_,rfl⟩
   by_cases c:j=i
   ·subst c
    rw [ex0] at ej;cases ej;exact e
   ·exact al j x (by omega) ej
  ·rw [decide_eq_false e]
   walk_at "s";refine ⟨p,x0.1,rfl,hp,(jf x0 (List.mem_of_getElem? ex0)).1,fun r H3 s3 hr'=>?_⟩;refine k (.ref r) H3 (s1.trans s3) ?_;rw [qzq al ex0 e];exact ⟨r,rfl,hr'⟩
 ·obtain ⟨rfl,al,y1,y2,y3,y4,y5,rfl⟩:=pv
  walk_at "s";refine k .non H2 s1 ?_
  rw [qfv fun x hx=>by
   obtain ⟨j,ej⟩:=List.getElem?_of_mem hx;have lj:=(List.getElem?_eq_some_iff.mp ej).1
   exact al j x (by rw [All2.len ual]; exact lj) ej]
  exact rfl
end
section
variable {cRu cWo cBa cCa cBo:Addr}
def qjf (cWo cBa cCa cBo:Addr):Sp:=fun vs H Q _=>∃ (a b:Addr) (d1 d2:Str) (cs1 cs2:Chs) (len1 len2:Str→Int) (k1 k2:Str→Nat) (D1 D2:Nat) (bx:Addr→Bsx),vs=[.ref a,.ref b]∧IsBook cWo cBa cCa cBo H a d1 cs1 len1∧Bl H cs1 len1 k1 D1 bx∧IsBook cWo cBa cCa cBo H b d2 cs2 len2∧Bl H cs2 len2 k2 D2 bx∧Two (qd1 cs1 D1 "main" 0) (qd1 cs2 D2 "main" 0) bx d1 d2∧(qa4 (qd1 cs1 D1 "main" 0) bx d1 wholeU).length≤16770000 ∧
 ∀ H',Same H H'→Q (.bl (qi6 (qh3 (qd1 cs1 D1 "main" 0) (qd1 cs2 D2 "main" 0) bx d1 d2)).isNone) H'
theorem lab_non {H:Hp}{v:V}(h:LabO H v o):decide (v=.non)=o.isNone:=by
 cases o with
 | none =>
  obtain rfl:v=.non:=h;rfl
 | some c =>
  obtain ⟨a,rfl,_⟩:=h
  exact decide_eq_false fun z=>by cases z
theorem qyv (F:Fun K "alike" "alike" qwb f fd)(g_parting:Fn P w K mg base "parting" 9 ["one","other"] (qch cWo cBa cCa cBo)):FnOk P w K mg base CX0 10 f fd ["one","other"] (qjf cWo cBa cCa cBo):=by
 refine F.ok qxu (by walk_at "l") (fun _ _ _ _ H _ Q E hr h=>?_);obtain ⟨a,b,d1,d2,cs1,cs2,len1,len2,k1,k2,D1,D2,bx,rfl,bk1,ok1,bk2,ok2,two,few1,k⟩:=h;refine ⟨_,(qg (qm (qq9 qai (qf1 g_parting hr (by decide) rfl (qa (pv 0) (qa (pv 1) qd))) qw5 (qs0 _)))),?_⟩;rw [qru];walk_at "s";refine ⟨a,b,d1,d2,cs1,cs2,len1,len2,k1,k2,D1,D2,bx,rfl,bk1,ok1,bk2,ok2,two,few1,fun v H1 s1 lab=>?_⟩;walk_at "s";rw [lab_non lab];exact k H1 s1
end
def qm1 (cs:Chs)(bx:Addr→Bsx)(d:Str)(pn:List Int):Str:=(rdC (fun p=>qr0 (bx p) pn) cs 3 "main").2.getD d
theorem qog {cs:Chs}{bx:Addr→Bsx}{d:Str}(full:∀ r∈Gen.rows cs,(bx r.bp).length=6∧Full (bx r.bp)){x:Bsx}{lk:List (Nat×Bool)}{w:Str}(wb:qqd (Gen.rows cs) bx d x (.goto 0) lk w){pn:List Int}(n6:pn.length=6)(hx:qr0 x pn=true):qm1 cs bx d pn=w:=by
 have wn:=qzt (fun r h=>(full r h).1) n6 hx wb;exact (rd_top wn).2.symm
theorem qet {bs:Bsx}(h:Fair bs):qr0 bs (bs.map (·.1))=true:=qe2 fun i b n e1 e2=>by
 rw [List.getElem?_map,e1] at e2;cases e2;have:=(h.2 b (List.mem_of_getElem? e1)).1;unfold qw;rw [decide_eq_true (Int.le_refl _),decide_eq_true this];rfl
theorem qsg :∀ {ks:List Lk},qa1 (ks.map (·.1)) ns=1→∃ k∈ks,qr0 k.1 ns=true
 | [],h=>by cases h
 | k::ks,h=>by
  by_cases e:qr0 k.1 ns=true
  ·exact ⟨k,List.mem_cons_self,e⟩
  ·have h2:qa1 (ks.map (·.1)) ns=1:=by
    unfold qa1 at h ⊢;rw [List.map_cons,List.map_cons,List.sum_cons,if_neg e] at h;omega
   obtain ⟨k',hk,e'⟩:=qsg h2;exact ⟨k',List.mem_cons_of_mem _ hk,e'⟩
theorem qfm {R:List Row}{bx:Addr→Bsx}{d:Str}(full:∀ r∈R,(bx r.bp).length=6∧Full (bx r.bp))(later:qkl R){bs:Bsx}(b6:Six wholeU bs)(fr:Fair bs){pn:List Int}(n6:pn.length=6)(hx:qr0 bs pn=true):∃ k∈qa4 R bx d bs,qr0 k.1 pn=true:=by
 have tm:=qee (rs:=R) (bx:=bx) (df:=d) (U:=wholeU) rfl full later n6 (R.length+1) (.goto 0) bs (fun i e=>by cases e; exact ⟨by omega,Nat.zero_le _⟩) b6 fr;rw [if_pos hx] at tm;exact qsg tm
section
variable {cs1 cs2:Chs}{bx:Addr→Bsx}{d1 d2:Str}(two:Two (Gen.rows cs1) (Gen.rows cs2) bx d1 d2)
include two
theorem qge {x:Jn}(hx:x∈qh3 (Gen.rows cs1) (Gen.rows cs2) bx d1 d2){pn:List Int}(n6:pn.length=6)(hp:qr0 x.1 pn=true):qm1 cs1 bx d1 pn=x.2.2.1∧qm1 cs2 bx d2 pn=x.2.2.2.2:=by
 obtain ⟨k0,hk,hx⟩:=List.mem_flatMap.mp hx;obtain ⟨m,hm,rfl⟩:=List.mem_map.mp hx;obtain ⟨_,k6,kf,wb⟩:=qt6 two.full1 nar_whole.sixU qv4 hk;obtain ⟨ps,m6,mf,wb2⟩:=qt6 two.full2 k6 kf hm;exact ⟨qog two.full1 wb n6 (ps pn (n6.trans k6.six.symm) hp),qog two.full2 wb2 n6 hp⟩
theorem qlc {c:List Int}(h:qi6 (qh3 (Gen.rows cs1) (Gen.rows cs2) bx d1 d2)=some c):c.length=6∧qr0 wholeU c=true∧qm1 cs1 bx d1 c≠qm1 cs2 bx d2 c:=by
 unfold qi6 at h;obtain ⟨x,hx,rfl⟩:=Option.map_eq_some_iff.mp h;have hm:=List.mem_of_find?_eq_some hx;have hb:=List.find?_some hx;obtain ⟨fr,x6⟩:=qhe two x hm
 have c6:(x.1.map (·.1)).length=6:=by rw [List.length_map]; exact x6.six
 have ci:=qet fr;obtain ⟨e1,e2⟩:=qge two hm c6 ci;refine ⟨c6,x6.sub _ (c6.trans rfl) ci,?_⟩;rw [e1,e2];intro e;rw [decide_eq_true e] at hb;cases hb
theorem qar (h:qi6 (qh3 (Gen.rows cs1) (Gen.rows cs2) bx d1 d2)=none){pn:List Int}(n6:pn.length=6)(hu:qr0 wholeU pn=true):qm1 cs1 bx d1 pn=qm1 cs2 bx d2 pn:=by
 obtain ⟨k0,hk,h1⟩:=qfm (d:=d1) two.full1 qp6 nar_whole.sixU qv4 n6 hu;obtain ⟨_,k6,kf,_⟩:=qt6 two.full1 nar_whole.sixU qv4 hk;obtain ⟨m,hm,h2⟩:=qfm (d:=d2) two.full2 qp6 k6 kf n6 h1;have hx:jn k0 m∈qh3 (Gen.rows cs1) (Gen.rows cs2) bx d1 d2:=List.mem_flatMap.mpr ⟨k0,hk,List.mem_map.mpr ⟨m,hm,rfl⟩⟩;obtain ⟨e1,e2⟩:=qge two hx n6 h2;unfold qi6 at h;rw [Option.map_eq_none_iff,List.find?_eq_none] at h;have hb:=h _ hx;rw [e1,e2]
 by_cases e:(jn k0 m).2.2.1=(jn k0 m).2.2.2.2
 ·exact e
 ·rw [decide_eq_false e] at hb
  exact absurd rfl hb
end
theorem Gen.bl {H:Hp}{hs:List V}{cs:Chs}{bx:Addr→Bsx}{rank:Str→Nat}(g:Gen H hs cs bx rank):Bl H cs (Gen.len3 cs) rank 3 bx:=⟨g.names,g.lensB,g.inMain,g.m120,fun c hc=>Nat.lt_succ_of_le (g.r2 c hc),fun c hc u hu=>g.box hc hu,fun c hc u hu=>by
 obtain ⟨i,ei⟩:=List.getElem?_of_mem hc;obtain ⟨v,_,t,l,ts,_,_,_,tal⟩:=All2.ix g.al ei;obtain ⟨j,ej⟩:=List.getElem?_of_mem hu;obtain ⟨x,_,t2,_,_,ok,_⟩:=All2.ix tal ej
 exact ok⟩
def wGo (F:Addr→Bool)(sub:Str→Option Str):List Ru→Option Str
 | []=>none
 | u::us=>if F u.2=true then (match u.1 with
   | .word w=>some w
   | .back=>none
   | .call n=>match sub n with
    | some w=>some w
    | none=>wGo F sub us)
  else wGo F sub us
def wC (F:Addr→Bool)(cs:Chs)(d:Nat)(z:Str):Option Str:=(rdC F cs d z).2
section
variable {F:Addr→Bool}
theorem rd_w {sub:Str→Rd}{z:Str}:∀ (us:List Ru) (i:Nat),(rdGo F sub z us i).2=wGo F (fun n=>(sub n).2) us
 | [],_=>rfl
 | u::us,i=>by
  have ih:=rd_w (sub:=sub) (z:=z) us (i+1);obtain ⟨r,p⟩:=u;rw [rdGo,wGo]
  by_cases f:F p=true
  ·rw [if_pos f,if_pos f]
   cases r with
   | word w=>rfl
   | back=>rfl
   | call n =>
    dsimp only
    cases h:(sub n).2 with
    | some w=>rfl
    | none=>exact ih
  ·rw [if_neg f,if_neg f]
   exact ih
theorem qr4 (cs:Chs)(d:Nat)(z:Str):wC F cs (d+1) z=wGo F (wC F cs d) (chOf cs z):=rd_w _ _
theorem qab {sub:Str→Option Str}{vs vs':List Ru}(h:wGo F sub vs=wGo F sub vs'):∀ us:List Ru,wGo F sub (us++vs)=wGo F sub (us++vs')
 | []=>h
 | u::us=>by
  have ih:=qab h us;rw [List.cons_append,List.cons_append,wGo,wGo,ih]
theorem qy6 {sub sub':Str→Option Str}:∀ {us:List Ru},(∀ n∈qu us,sub n=sub' n)→wGo F sub us=wGo F sub' us
 | [],_=>rfl
 | u::us,h=>by
  have ih:=qy6 (sub:=sub) (sub':=sub') (us:=us) fun n hn=>h n (by
   unfold qu at hn ⊢;rw [List.filterMap_cons]
   cases qx2 u with
   | none=>exact hn
   | some _=>exact List.mem_cons_of_mem _ hn)
  obtain ⟨r,p⟩:=u;rw [wGo,wGo,ih]
  cases r with
  | word w=>rfl
  | back=>rfl
  | call n =>
   have:=h n List.mem_cons_self;simp only [this]
theorem w_swap {sub:Str→Option Str}{a b:Ru}{us:List Ru}(h:(a.1=b.1∧∀ n,a.1≠.call n)∨¬ (F a.2=true∧F b.2=true)):wGo F sub (b::a::us)=wGo F sub (a::b::us):=by
 rw [wGo,wGo,wGo,wGo]
 by_cases fa:F a.2=true
 ·by_cases fb:F b.2=true
  ·rcases h with ⟨e,nc⟩ | h
   ·rw [if_pos fa,if_pos fa,if_pos fb,if_pos fb,e]
   ·exact absurd ⟨fa,fb⟩ h
  ·rw [if_neg fb,if_neg fb]
 ·rw [if_neg fa,if_neg fa]
theorem w_half {sub:Str→Option Str}{r:Rl}{p1 p2:Addr}{us:List Ru}(h:F p=(F p1 || F p2)):wGo F sub ((r,p1)::(r,p2)::us)=wGo F sub ((r,p)::us):=by
 rw [wGo,wGo,wGo,h]
 cases h1:F p1 <;> cases h2:F p2 <;> cases r with
 | word w=>rfl
 | back=>rfl
 | call n =>
  simp only [Bool.false_or,Bool.or_false,Bool.true_or,if_true,Bool.false_eq_true,if_false]
  try (cases sub n <;> rfl)
theorem qxo {cs cs':Chs}(h:∀ x sub,wGo F sub (chOf cs' x)=wGo F sub (chOf cs x)):∀ d x,wC F cs' d x=wC F cs d x
 | 0,_=>rfl
 | d+1,x=>by
  rw [qr4,qr4,h];exact qy6 fun n _=>qxo h d n
theorem wC_own {cs cs':Chs}{fz w:Str}{rank:Str→Nat}{q:Addr}(hq:F q=true)(hf:chOf cs' fz=[(.word w,q)])
  (hx:∀ x,x≠fz→chOf cs' x=chOf cs x∨1≤rank x∧∃ us vs p,chOf cs x=us++(.word w,p)::vs∧chOf cs' x=us++(.call fz,p)::vs)
  (rk:∀ x,∀ n∈qu (chOf cs x),n≠fz∧rank n<rank x):∀ d x,x≠fz→rank x<d→wC F cs' d x=wC F cs d x
 | 0,_,_,h=>absurd h (Nat.not_lt_zero _)
 | d+1,x,nx,hr=>by
  have ih:=fun n hn=>wC_own hq hf hx rk d n (rk x n hn).1 (by have:=(rk x n hn).2; omega);rw [qr4,qr4];have e:wGo F (wC F cs' d) (chOf cs x)=wGo F (wC F cs d) (chOf cs x):=qy6 ih
  rcases hx x nx with h | ⟨r1,us,vs,p,h1,h2⟩
  ·rw [h,e]
  ·rw [← e,h1,h2]
   refine qab ?_ us;rw [wGo,wGo]
   have:wC F cs' d fz=some w:=by
    cases d with
    | zero=>omega
    | succ d =>
     rw [qr4,hf,wGo,if_pos hq]
   dsimp only
   rw [this]
theorem w_last {sub:Str→Option Str}{df:Str}{p:Addr}:∀ us:List Ru,(wGo F sub (us++[(.word df,p)])).getD df=(wGo F sub us).getD df
 | []=>by
  show (if F p=true then some df else none).getD df=df
  split <;> rfl
 | u::us=>by
  have ih:=w_last (sub:=sub) (df:=df) (p:=p) us;rw [List.cons_append,wGo,wGo]
  split
  ·split
   ·rfl
   ·rfl
   ·split
    ·rfl
    ·exact ih
  ·exact ih
theorem wC_end {cs cs':Chs}{df:Str}(hm:chOf cs' "main"=chOf cs "main"++[(.word df,p)])(hx:∀ x:Str,x≠"main"→chOf cs' x=chOf cs x)(nm:∀ x,∀ n∈qu (chOf cs x),n≠("main":Str))(d:Nat):(wC F cs' (d+1) "main").getD df=(wC F cs (d+1) "main").getD df:=by
 have other:∀ d x,x≠("main":Str)→wC F cs' d x=wC F cs d x:=by
  intro d
  induction d with
  | zero=>exact fun _ _=>rfl
  | succ d ih =>
   intro x nx;rw [qr4,qr4,hx x nx];exact qy6 fun n hn=>ih n (nm x n hn)
 rw [qr4,qr4,hm,w_last,qy6 fun n hn=>other d n (nm "main" n hn)]
end
open Classical in
noncomputable def bxH (H:Hp)(a:Addr):Bsx:=if h:∃ bs,IsBox H a bs then Classical.choose h else []
theorem qf8 {H:Hp}{bs:Bsx}(h:IsBox H a bs):bxH H a=bs:=by
 unfold bxH;have e:∃ bs,IsBox H a bs:=⟨bs,h⟩;rw [dif_pos e];exact box_inj (Classical.choose_spec e) h
theorem RtX.own {H:Hp}{bx:Addr→Bsx}{v:V}{u:Ru}(h:RtX H bx v u):RtX H (bxH H) v u:=by
 obtain ⟨t,e,h1,h2,h3,h4⟩:=h;refine ⟨t,e,h1,h2,?_⟩;rw [qf8 h3];exact ⟨h3,h4⟩
theorem RtX.on {H H':Hp}{bx:Addr→Bsx}{v:V}{u:Ru}(h:RtX H bx v u)(s:Same H H'):RtX H' (bxH H') v u:=(h.same s).own
theorem HaX.on {H H':Hp}{bx:Addr→Bsx}{v:V}{c:Str×List Ru}(h:HaX H bx v c)(s:Same H H'):HaX H' (bxH H') v c:=by
 obtain ⟨t,l,ts,e,h1,h2,h3⟩:=h;exact ⟨t,l,ts,e,s _ _ h1,s _ _ h2,All2.imp h3 fun _ _ r=>r.on s⟩
abbrev InU (bs:Bsx):Prop:=Nar 6 bs
def FH (H:Hp)(pn:List Int)(F:Addr→Bool):Prop:=∀ p bs,IsBox H p bs→F p=qr0 bs pn
theorem FH.back {H H':Hp}{pn:List Int}{F:Addr→Bool}(h:FH H' pn F)(s:Same H H'):FH H pn F:=fun p bs hb=>h p bs (hb.same s)
theorem qmi {bs:Bsx}(h6:bs.length=6)(low:∀ (i:Nat) (b:Int×Int) (t:Int),bs[i]?=some b→topsI[i]?=some t→0≤b.1∧b.1≤b.2∧b.2≤t):InU bs:=⟨h6,low,[0,1,2,3,4,5],by decide,fun k hk=>by
 have:6≤k:=by
  refine Nat.le_of_not_lt fun h=>hk ?_
  have:k=0∨k=1∨k=2∨k=3∨k=4∨k=5:=by omega
  simp only [List.mem_cons,List.not_mem_nil,or_false];exact this
 rw [List.getElem?_eq_none (by omega),List.getElem?_eq_none (show wholeU.length≤k from this)]⟩
theorem InU.fair {bs:Bsx}(h:InU bs):Fair bs:=h.Low.fair (by rw [h.six]; decide)
theorem qzw {xs cs:Bsx}{x c:Int×Int}(ex:xs[i]?=some x)(ec:cs[i]?=some c)(i6:i<6)(h:x.2<c.1∨c.2<x.1){pn:List Int}(n6:pn.length=6):¬ (qr0 xs pn=true∧qr0 cs pn=true):=fun ⟨h1,h2⟩=>by
 have en:=List.getElem?_eq_getElem (show i<pn.length by omega);have a:=qn4 h1 ex en;have b:=qn4 h2 ec en;unfold qw at a b;rw [Bool.and_eq_true,decide_eq_true_eq,decide_eq_true_eq] at a b;omega
def qif:Sp:=fun vs H Q _=>∃ (p r:Addr) (xs cs:Bsx),vs=[.ref p,.ref r]∧IsBox H p xs∧IsBox H r cs∧xs.length=6∧cs.length=6∧∀ b:Bool,(b=true→∀ pn:List Int,pn.length=6→¬ (qr0 xs pn=true∧qr0 cs pn=true))→Q (.bl b) H
theorem qxv (F:Fun K "_law_apart" "_law_apart" qa5 f fd)(b_range:mg "range"=none):FnOk P w K mg base CX0 1 f fd ["_law_box_here","_law_other"] qif:=by
 refine F.ok qz8 (by walk_at "l") (fun _ _ _ _ H _ Q E hr h=>?_);obtain ⟨p,r,xs,cs,rfl,hp,hr1,x6,c6,q⟩:=h;refine ⟨_,(qc (qb3 PassesOwn.never rfl (qc3 rfl b_range (qa qf qd)) (qp (i:=2) qz8.nd rfl (Or.inl rfl)) (qg (ql1 (PW.pt (qfk (qk qod (qq ql0 (qq ql0 (pv 0) (pv 2) (fun _ _=>rfl)) qf (fun _ _=>rfl)) (qq ql0 (qq ql0 (pv 1) (pv 2) (fun _ _=>rfl)) qf (fun _ _=>rfl)) (qs0 _)) (qqh (qk qrn (qq ql0 (qq ql0 (pv 0) (pv 2) (fun _ _=>rfl)) qf (fun _ _=>rfl)) (qq ql0 (qq ql0 (pv 1) (pv 2) (fun _ _=>rfl)) qf (fun _ _=>rfl)) (qs0 _))))) (qg (qm qf9)) qn0))) (qg (qm qf9))),?_⟩;rw [qaf];walk_at "s";refine RngR.go (by decide) (by decide) ?_;refine ForR.range (n:=6) (fun i σ H'=>H'=H∧∃ y,σ=[some (.ref p),some (.ref r),y]) ⟨rfl,none,rfl⟩ (fun i σ H1 hi pv=>?_) (fun σ H1 pv=>?_)
 ·obtain ⟨rfl,y,rfl⟩:=pv
  have ex:=List.getElem?_eq_getElem (show i<xs.length by omega);have ec:=List.getElem?_eq_getElem (show i<cs.length by omega);have yes:=fun h pn n6=>qzw ex ec hi h (pn:=pn) n6;generalize xs[i]=x at *;generalize cs[i]=c at *;walk_at "ix";refine qh9 hp ex fun a ha=>?_;walk_at "ix";refine qh9 hr1 ec fun a' ha'=>?_;walk_at "ix";refine BrO.dec (fun z=>?_) (fun z=>?_)
  ·walk_at "ix"
   exact q true fun _=>yes (.inl z)
  walk_at "ix";refine qh9 hp ex fun a2 ha2=>?_;walk_at "ix";refine qh9 hr1 ec fun a3 ha3=>?_;walk_at "ix";refine BrS.dec (fun z2=>?_) (fun z2=>?_)
  ·walk_at "ix"
   exact q true fun _=>yes (.inr z2)
  walk_at "ix";exact ⟨_,rfl⟩
 ·obtain ⟨rfl,y,rfl⟩:=pv
  walk_at "s"
  exact q false fun h=>by cases h
theorem qyp {bs:Bsx}{b:Int×Int}{pn:List Int}{n:Int}(eb:bs[d]?=some b)(en:pn[d]?=some n)(n6:pn.length=bs.length)(c:Int×Int):qr0 (bs.take d++c::bs.drop (d+1)) pn=true↔qw c n=true∧∀ (i:Nat) (x:Int×Int) (m:Int),i≠d→bs[i]?=some x→pn[i]?=some m→qw x m=true:=by
 have dl:=(List.getElem?_eq_some_iff.mp eb).1
 have at_:∀ i,(bs.take d++c::bs.drop (d+1))[i]?=if i=d then some c else bs[i]?:=fun i=>by
  by_cases h:i=d
  ·subst h
   rw [if_pos rfl,List.getElem?_append_right (by rw [List.length_take]; omega),List.length_take,show i - min i bs.length=0 by omega];rfl
  ·rw [if_neg h]
   by_cases l:i<d
   ·rw [List.getElem?_append_left (by rw [List.length_take]; omega),List.getElem?_take_of_lt l]
   ·rw [List.getElem?_append_right (by rw [List.length_take]; omega),List.length_take,show i - min d bs.length=(i - d - 1)+1 by omega,List.getElem?_cons_succ,List.getElem?_drop,show d+1+(i - d - 1)=i by omega]
 constructor
 ·intro h
  refine ⟨qn4 h (by rw [at_,if_pos rfl]) en,fun i x m ne ex em=>qn4 h (by rw [at_,if_neg ne]; exact ex) em⟩
 ·rintro ⟨h1,h2⟩
  refine qe2 fun i x m ex em=>?_;rw [at_] at ex
  by_cases h:i=d
  ·subst h
   rw [if_pos rfl] at ex;cases ex;rw [en] at em;cases em;exact h1
  ·rw [if_neg h] at ex
   exact h2 i x m h ex em
theorem half_in {bs:Bsx}{b:Int×Int}{m:Int}(eb:bs[d]?=some b)(h1:b.1≤m)(h2:m<b.2){pn:List Int}(n6:pn.length=bs.length):qr0 bs pn=(qr0 (bs.take d++(b.1,m)::bs.drop (d+1)) pn || qr0 (bs.take d++(m+1,b.2)::bs.drop (d+1)) pn):=by
 have dl:=(List.getElem?_eq_some_iff.mp eb).1;have en:=List.getElem?_eq_getElem (show d<pn.length by omega);generalize pn[d]=n at *;have e0:=qyp eb en n6 b
 have es:bs.take d++b::bs.drop (d+1)=bs:=by
  have:=(List.getElem?_eq_some_iff.mp eb).2;rw [← this,List.getElem_cons_drop,List.take_append_drop]
 rw [es] at e0;rw [Bool.eq_iff_iff,Bool.or_eq_true,e0,qyp eb en n6 (b.1,m),qyp eb en n6 (m+1,b.2)]
 have l:qw b n=true↔qw (b.1,m) n=true∨qw (m+1,b.2) n=true:=by
  unfold qw;simp only [Bool.and_eq_true,decide_eq_true_eq];omega
 rw [l]
 constructor
 ·rintro ⟨h | h,k⟩
  ·exact .inl ⟨h,k⟩
  ·exact .inr ⟨h,k⟩
 ·rintro (⟨h,k⟩ | ⟨h,k⟩)
  ·exact ⟨.inl h,k⟩
  ·exact ⟨.inr h,k⟩
def NewB (H:Hp)(new:List Bxn):Prop:=new.length≤2∧∀ e∈new,IsBox H e.1 e.2.1∧Nar e.2.2 e.2.1∧e.2.2=6
theorem NewB.same {H H':Hp}{new:List Bxn}(h:NewB H new)(s:Same H H'):NewB H' new:=⟨h.1,fun e he=>⟨(h.2 e he).1.same s,(h.2 e he).2⟩⟩
theorem qr5 (p:Addr)(r:Rl):(r.told p)[1]?=some (.ref p):=by cases r <;> rfl
theorem qw8 (p:Addr)(r:Rl):∃ z,(r.told p)[0]?=some (.str z)∧∀ p',r.told p'=.str z::.ref p'::(r.told p).drop 2:=by cases r <;> exact ⟨_,rfl,fun _=>rfl⟩
theorem qdu (p:Addr)(r:Rl):1<(r.told p).length:=by cases r <;> simp [Rl.told]
theorem qec {H:Hp}{t:Addr}{r:Rl}{bs:Bsx}(ht:H t=some (.tup (r.told p)))(ok:r.ok)(hp:IsBox H p bs)(iu:InU bs):RtX H (bxH H) (.ref t) (r,p):=⟨t,rfl,ht,ok,by rw [qf8 hp]; exact ⟨hp,iu.six,iu.fair⟩⟩
theorem qks {bs:Bsx}(h:InU bs){b c:Int×Int}(eb:bs[d]?=some b)(h1:b.1≤c.1)(h2:c.1≤c.2)(h3:c.2≤b.2):InU (bs.take d++c::bs.drop (d+1)):=by
 have dl:=(List.getElem?_eq_some_iff.mp eb).1;have e6:=h.six;refine qmi (by rw [List.length_append,List.length_cons,List.length_take,List.length_drop]; omega) fun i x t ex et=>?_
 by_cases e:i=d
 ·subst e
  rw [List.getElem?_append_right (by rw [List.length_take]; omega),List.length_take,show i - min i bs.length=0 by omega] at ex;cases ex;have:=h.low i b t eb et;omega
 ·refine h.low i x t ?_ et
  by_cases l:i<d
  ·rw [List.getElem?_append_left (by rw [List.length_take]; omega),List.getElem?_take_of_lt l] at ex
   exact ex
  ·rw [List.getElem?_append_right (by rw [List.length_take]; omega),List.length_take,show i - min d bs.length=(i - d - 1)+1 by omega,List.getElem?_cons_succ,List.getElem?_drop,show d+1+(i - d - 1)=i by omega] at ex
   exact ex
def qgf:Sp:=fun vs H Q _=>∃ (t p:Addr) (c:Int) (r:Rl) (bs:Bsx),vs=[.ref t,.int c]∧H t=some (.tup (r.told p))∧r.ok∧IsBox H p bs∧InU bs ∧
 ∀ l ts us new H',H l=none→Same H H'→H' l=some (.lst ts)→All2 (RtX H' (bxH H')) ts us→NewB H' new→(∀ u∈us,u.1=r∧(u.2=p∨∃ e∈new,e.1=u.2))→us.length≤2→(∀ (pn:List Int) (F:Addr→Bool),pn.length=6→FH H' pn F→∀ sub vs,wGo F sub (us++vs)=wGo F sub ((r,p)::vs))→Q (.ref l) H'
theorem qmr (F:Fun K "_law_halves" "_law_halves" qi4 f fd):FnOk P w K mg base CX0 1 f fd ["_law_rule_here","_law_cell"] qgf:=by
 refine F.ok qh2 (by walk_at "l") (fun cdv A outer s H vs Q E hr h=>?_);obtain ⟨t,p,c,r,bs,rfl,ht,ok,hp,iu,q⟩:=h;have d0:=Int.emod_nonneg c (show (6:Int)≠0 by decide);have d1:=Int.emod_lt_of_pos c (show (0:Int)<6 by decide);obtain ⟨d,ed⟩:=Int.eq_ofNat_of_zero_le d0;have ed:c % 6=(d:Int):=ed
 have d6:d<6:=by omega
 have eb:=List.getElem?_eq_getElem (show d<bs.length by rw [iu.six]; exact d6);generalize bs[d]'(by rw [iu.six]; exact d6)=b at *;have bl:b.1≤b.2:=(iu.fair.2 b (List.mem_of_getElem? eb)).1;refine ⟨_,(qc (qi (i:=2) qh2.nd rfl (Or.inl rfl) (qj qu1 (pv 1) qf)) (qc (qi (i:=3) qh2.nd rfl (Or.inl rfl) (qq ql0 (qq ql0 (qq ql0 (pv 0) qf (fun _ _=>rfl)) (pv 2) (fun _ _=>rfl)) qf (fun _ _=>rfl))) (qc (qi (i:=4) qh2.nd rfl (Or.inl rfl) (qq ql0 (qq ql0 (qq ql0 (pv 0) qf (fun _ _=>rfl)) (pv 2) (fun _ _=>rfl)) qf (fun _ _=>rfl))) (qc (ql1 (qk qq4 (pv 3) (pv 4) (qs0 _)) (qg (qm (qe1 (qa (pv 0) qd)))) qn0) (qc (qi (i:=5) qh2.nd rfl (Or.inl rfl) (qj qb1 (pv 3) (qj qu1 (qj qv3 (pv 1) qf) (qj qce (pv 4) (pv 3))))) (qc (qi (i:=6) qh2.nd rfl (Or.inl rfl) (qj ql7 (qj ql7 (qj1 qy9 (qq ql0 (pv 0) qf (fun _ _=>rfl)) qa2 (qz1 (pv 2))) (qv0 (qa (qv0 (qa (pv 3) (qa (pv 5) qd))) qd))) (qj1 qy9 (qq ql0 (pv 0) qf (fun _ _=>rfl)) (qz1 (qj qb1 (pv 2) qf)) qa2))) (qc (qi (i:=7) qh2.nd rfl (Or.inl rfl) (qj ql7 (qj ql7 (qj1 qy9 (qq ql0 (pv 0) qf (fun _ _=>rfl)) qa2 (qz1 (pv 2))) (qv0 (qa (qv0 (qa (qj qb1 (pv 5) qf) (qa (pv 4) qd))) qd))) (qj1 qy9 (qq ql0 (pv 0) qf (fun _ _=>rfl)) (qz1 (qj qb1 (pv 2) qf)) qa2))) (qg (qm (qe1 (qa (qj ql7 (qv0 (qa (qq ql0 (pv 0) qf (fun _ _=>rfl)) (qa (pv 6) qd))) (qj1 qy9 (pv 0) (qz1 qf) qa2)) (qa (qj ql7 (qv0 (qa (qq ql0 (pv 0) qf (fun _ _=>rfl)) (qa (pv 7) qd))) (qj1 qy9 (pv 0) (qz1 qf) qa2)) qd)))))))))))),?_⟩;rw [qjd];walk_at "s";refine ⟨by decide,?_⟩;rw [ed];walk_at "s";refine ixT_go (i:=1) (SqT.of ht) (qr5 p r) ?_;refine qh9 hp eb fun a ha=>?_;walk_at "ix";refine ixT_go (i:=1) (SqT.of ht) (qr5 p r) ?_;refine qh9 hp eb fun a2 ha2=>?_;walk_at "ix";refine BrS.dec (fun c1=>?_) (fun c1=>?_)
 ·walk_at "s"
  refine LstR.go (by simp) fun l nl=>?_;have s1:=qe nl (.lst [.ref t]);refine q l [.ref t] [(r,p)] [] _ nl s1 qb0 (.cons (qec (s1 _ _ ht) ok (hp.same s1) iu) .nil) ⟨by decide,fun e he=>by cases he⟩ (fun u hu=>?_) (by simp) fun pn F n6 fh sub vs=>rfl;obtain rfl:=List.mem_singleton.mp hu;exact ⟨rfl,.inl rfl⟩
 have pos:0<b.2 - b.1:=by omega
 have m0:=Int.emod_nonneg (c / 6) (show b.2 - b.1≠0 by omega);have m1:=Int.emod_lt_of_pos (c / 6) pos;walk_at "s";refine ⟨⟨by decide,by decide⟩,pos,?_⟩
 have e1:b.1≤b.1+c / 6 % (b.2 - b.1):=by omega
 have e2:b.1+c / 6 % (b.2 - b.1)<b.2:=by omega
 generalize b.1+c / 6 % (b.2 - b.1)=m at *;have hin:=fun (pn:List Int) (n6:pn.length=bs.length)=>half_in eb e1 e2 n6;have iu1:InU (bs.take d++(b.1,m)::bs.drop (d+1)):=qks iu eb (Int.le_refl _) e1 (by show m≤b.2; omega);have iu2:InU (bs.take d++(m+1,b.2)::bs.drop (d+1)):=qks iu eb (by show b.1≤m+1; omega) (by show m+1≤b.2; omega) (Int.le_refl _);obtain ⟨vs,hv,st⟩:=id hp;have vl:vs.length=6:=st.len.trans iu.six
 have cut:∀ (x y:Int) (J:Hp) (Q':VK),Same H J→(∀ p' J',Same J J'→IsBox J' p' (bs.take d++(x,y)::bs.drop (d+1))→Q' (.ref p') J')→rIxT K (.ref t) (.int 1) J fun z J=>PartR (.int (d:Int)) J fun u J=>rSlT K z none u J fun z J=>TupR [.int x,.int y] J fun a J=>TupR [a] J fun a J=>qjq K z a J fun z' J=>rIxT K (.ref t) (.int 1) J fun z J=>PartR (.int ((d:Int)+1)) J fun u J=>rSlT K z u none J fun y J=>qjq K z' y J Q':=fun x y J Q' sJ k=>by
  refine ixT_go (i:=1) (SqT.of (sJ _ _ ht)) (qr5 p r) ?_;refine PartR.go ?_;refine qsl (k:=d) (sJ _ _ hv) (by omega) fun p1 np1=>?_;have s1:=qe np1 (.tup (vs.take d));have hp1:upd J p1 (.tup (vs.take d)) p1=some (.tup (vs.take d)):=qb0;generalize upd J p1 (.tup (vs.take d))=J1 at *;refine TupR.go (by simp) fun p2 np2=>?_;have s2:=qe np2 (.tup [.int x,.int y]);have hp2:upd J1 p2 (.tup [.int x,.int y]) p2=some (.tup [.int x,.int y]):=qb0;generalize upd J1 p2 (.tup [.int x,.int y])=J2 at *;refine TupR.go (by simp) fun p3 np3=>?_;have s3:=qe np3 (.tup [.ref p2]);have hp3:upd J2 p3 (.tup [.ref p2]) p3=some (.tup [.ref p2]):=qb0;generalize upd J2 p3 (.tup [.ref p2])=J3 at *;refine qdd ((s2.trans s3) _ _ hp1) hp3 (by simp; omega) fun p4 J4 s4 hp4=>?_;have z4:=((s1.trans s2).trans s3).trans s4;refine ixT_go (i:=1) (SqT.of ((sJ.trans z4) _ _ ht)) (qr5 p r) ?_;refine PartR.go ?_;refine qlf (k:=d) ((sJ.trans z4) _ _ hv) (by omega) fun p5 np5=>?_;have s5:=qe np5 (.tup (vs.drop (d+1)));have hp5:upd J4 p5 (.tup (vs.drop (d+1))) p5=some (.tup (vs.drop (d+1))):=qb0;generalize upd J4 p5 (.tup (vs.drop (d+1)))=J5 at *;refine qdd (s5 _ _ hp4) hp5 (by simp; omega) fun p6 J6 s6 hp6=>?_;have z6:=(z4.trans s5).trans s6;refine k p6 J6 z6 ⟨_,hp6,?_⟩;rw [List.append_assoc];exact (st.same (sJ.trans z6)).take.app (.cons ((((s3.trans s4).trans s5).trans s6) _ _ hp2) (st.same (sJ.trans z6)).drop)
 obtain ⟨z0,ez0,et⟩:=qw8 p r
 have rul:∀ (p':Addr) (J:Hp) (Q':VK),Same H J→(∀ t' J',Same J J'→J' t'=some (.tup (r.told p'))→Q' (.ref t') J')→rIxT K (.ref t) (.int 0) J fun x J=>TupR [x,.ref p'] J fun x J=>PartR (.int 2) J fun l J=>rSlT K (.ref t) l none J fun y J=>qjq K x y J Q':=fun p' J Q' sJ k=>by
  refine ixT_go (i:=0) (SqT.of (sJ _ _ ht)) ez0 ?_;refine TupR.go (by simp) fun p1 np1=>?_;have s1:=qe np1 (.tup [.str z0,.ref p']);have hp1:upd J p1 (.tup [.str z0,.ref p']) p1=some (.tup [.str z0,.ref p']):=qb0;generalize upd J p1 (.tup [.str z0,.ref p'])=J1 at *;refine PartR.go ?_;refine qlf (k:=1) ((sJ.trans s1) _ _ ht) (qdu p r) fun p2 np2=>?_;have s2:=qe np2 (.tup ((r.told p).drop (1+1)));have hp2:upd J1 p2 (.tup ((r.told p).drop (1+1))) p2=some (.tup ((r.told p).drop 2)):=qb0;generalize upd J1 p2 (.tup ((r.told p).drop (1+1)))=J2 at *;refine qdd (s2 _ _ hp1) hp2 (by cases r <;> simp [Rl.told]) fun p3 J3 s3 hp3=>?_;refine k p3 J3 ((s1.trans s2).trans s3) ?_;rw [et p'];exact hp3
 walk_at "s";refine cut b.1 m H _ (Same.refl _) fun p1 H1 s1 hp1=>?_;walk_at "s";refine cut (m+1) b.2 H1 _ s1 fun p2 H2 s2 hp2=>?_;walk_at "s";have z2:=s1.trans s2;refine rul p1 H2 _ z2 fun t1 H3 s3 ht1=>?_;refine rul p2 H3 _ (z2.trans s3) fun t2 H4 s4 ht2=>?_;refine LstR.go (by simp) fun l nl=>?_;have s5:=qe nl (.lst [.ref t1,.ref t2]);have z25:=(s3.trans s4).trans s5;have z5:=z2.trans z25;have b1:=hp1.same (s2.trans z25);have b2:=hp2.same z25;refine q l [.ref t1,.ref t2] [(r,p1),(r,p2)] [(p1,bs.take d++(b.1,m)::bs.drop (d+1),6),(p2,bs.take d++(m+1,b.2)::bs.drop (d+1),6)] _ ((z2.trans (s3.trans s4)).free nl) z5 qb0 (.cons (qec ((s4.trans s5) _ _ ht1) ok b1 iu1) (.cons (qec (s5 _ _ ht2) ok b2 iu2) .nil)) ⟨by simp,fun e he=>?_⟩ (fun u hu=>?_) (by simp) fun pn F n6 fh sub vs=>w_half ?_
 ·rcases List.mem_cons.mp he with rfl | he
  ·exact ⟨b1,iu1,rfl⟩
  ·obtain rfl:=List.mem_singleton.mp he
   exact ⟨b2,iu2,rfl⟩
 ·rcases List.mem_cons.mp hu with rfl | hu
  ·exact ⟨rfl,.inr ⟨_,List.mem_cons_self,rfl⟩⟩
  ·obtain rfl:=List.mem_singleton.mp hu
   exact ⟨rfl,.inr ⟨_,List.mem_cons_of_mem _ List.mem_cons_self,rfl⟩⟩
 ·rw [fh _ _ (hp.same z5),fh _ _ b1,fh _ _ b2]
  exact hin pn (n6.trans iu.six.symm)
theorem qc1 {t u:TS}{D:Ends}{H:Hp}(h:∀ N:L2.St→Hp→Prop,(∀ σ H,u D σ H→N σ H)→t { D with nx:=N } σ H):tSeq t u D σ H:=h _ fun _ _ z=>z
theorem qcu:∀ (i:Nat) (b:Int×Int) (t:Int),wholeU[i]?=some b→topsI[i]?=some t→0≤b.1∧b.1≤b.2∧b.2≤t:=fun i b t eb et=>nar_whole.low i b t eb et
theorem qv8:InU wholeU:=qmi rfl qcu
theorem RtX.mem {H:Hp}{bx:Addr→Bsx}{us:List Ru}(h:All2 (RtX H bx) ts us){u:Ru}(e:us[k]?=some u):∃ t,ts[k]?=some (.ref t)∧H t=some (.tup (u.1.told u.2))∧u.1.ok∧IsBox H u.2 (bx u.2)∧RtX H bx (.ref t) u:=by
 obtain ⟨v,ev,r⟩:=All2.ix h e;obtain ⟨t,rfl,h1,h2,h3,h4⟩:=id r;exact ⟨t,ev,h1,h2,h3,r⟩
theorem a2take {R:α→β→Prop}{xs:List α}{ys:List β}(h:All2 R xs ys):∀ i:Nat,All2 R (xs.take i) (ys.take i):=by
 induction h with
 | nil=>intro i; rw [List.take_nil,List.take_nil]; exact .nil
 | cons h _ ih =>
  intro i
  cases i with
  | zero=>exact .nil
  | succ i=>exact .cons h (ih i)
theorem a2drop {R:α→β→Prop}{xs:List α}{ys:List β}(h:All2 R xs ys):∀ i:Nat,All2 R (xs.drop i) (ys.drop i):=by
 induction h with
 | nil=>intro i; rw [List.drop_nil,List.drop_nil]; exact .nil
 | cons h t ih =>
  intro i
  cases i with
  | zero=>exact .cons h t
  | succ i=>exact ih i
theorem a2app {R:α→β→Prop}{xs xs':List α}{ys ys':List β}(h:All2 R xs ys)(k:All2 R xs' ys'):All2 R (xs++xs') (ys++ys'):=by
 induction h with
 | nil=>exact k
 | cons h _ ih=>exact .cons h ih
structure Like (H:Hp)(us us':List Ru)(new:List Bxn):Prop where
 len:us'.length≤us.length+1
 kind:∀ u∈us',∃ u0∈us,u0.1=u.1
 box:∀ u∈us',(∃ u0∈us,u0.2=u.2)∨∃ e∈new,e.1=u.2
 word:∀ (pn:List Int) (F:Addr→Bool),pn.length=6→FH H pn F→∀ sub,wGo F sub us'=wGo F sub us
theorem qzr {H:Hp}{us:List Ru}:Like H us us []:=⟨Nat.le_succ _,fun u hu=>⟨u,hu,rfl⟩,fun u hu=>.inl ⟨u,hu,rfl⟩,fun _ _ _ _ _=>rfl⟩
theorem qrl {us:List Ru}{u:Ru}(e:us[k]?=some u):us.take k++u::us.drop (k+1)=us:=by
 have:=(List.getElem?_eq_some_iff.mp e).2;rw [← this,List.getElem_cons_drop,List.take_append_drop]
theorem head_eq {r r2:Rl}{p2:Addr}{z:Str}(ok:r.ok)(ok2:r2.ok)(e:(r.told p)[0]?=some (.str z))(e2:(r2.told p2)[0]?=some (.str z))(nc:z≠"call"):r=r2∧∀ n,r≠.call n:=by
 cases r with
 | word w =>
  obtain rfl:w=z:=by injection e with e; injection e
  cases r2 with
  | word w2 =>
   obtain rfl:w2=w:=by injection e2 with e; injection e
   exact ⟨rfl,fun n h=>by cases h⟩
  | back=>exact absurd (by injection e2 with e; injection e with e; exact e.symm) ok.1
  | call n=>exact absurd (by injection e2 with e; injection e with e; exact e.symm) nc
 | back =>
  have e:("back":Str)=z:=by injection e with e; injection e
  cases r2 with
  | word w2=>exact absurd (by injection e2 with e2; injection e2 with e2; exact e2.trans e.symm) ok2.1
  | back=>exact ⟨rfl,fun n h=>by cases h⟩
  | call n=>exact absurd (by injection e2 with e; injection e with e; exact e.symm) nc
 | call n=>exact absurd (by injection e with e; injection e with e; exact e.symm) nc
theorem qls {z:Str}{H:Hp}(h:H p=some (.tup (zs.map V.str)))(q:Q (.bl (decide (z∈zs))) H):InR K false (.str z) (.ref p) H Q:=⟨p,_,rfl,.inr (SqT.of h),rfl,qut zs,by rw [qjs]; exact q⟩
def qtj:Sp:=fun vs H Q _=>∃ (l:Addr) (k:Nat) (wy c:Int) (fz:Str) (ts:List V) (us:List Ru),vs=[.ref l,.int (k:Int),.int wy,.int c,.str fz]∧H l=some (.lst ts)∧All2 (RtX H (bxH H)) ts us∧(∀ u∈us,InU (bxH H u.2))∧k<us.length∧us.length≤100∧fz.length≤1000∧PyData.strOk fz=true ∧
 (∀ l' ts' us' new H',Same H H'→H' l'=some (.lst ts')→All2 (RtX H' (bxH H')) ts' us'→NewB H' new→Like H' us us' new→(wy=4→∀ u,us[k]?=some u→∀ w,u.1=.word w→¬ (w="pass"∨w="stop"))→Q (.ref l') H') ∧
 ∀ l' ts' p w H',Same H H'→wy=4→us[k]?=some (.word w,p)→(w="pass"∨w="stop")→H' l'=some (.lst ts')→All2 (RtX H' (bxH H')) ts' (us.take k++(.call fz,p)::us.drop (k+1))→Q (.ref l') H'
theorem qpv (F:Fun K "_law_new" "_law_new" qf6 f fd)(g__law_apart:Fn P w K mg base "_law_apart" 1 ["_law_box_here","_law_other"] qif)(g__law_halves:Fn P w K mg base "_law_halves" 1 ["_law_rule_here","_law_cell"] qgf)(b_len:mg "len"=none):FnOk P w K mg base CX0 2 f fd ["_law_rules","_law_k","_law_way","_law_cell","_law_fresh"] qtj:=by
 refine F.ok qj8 (by walk_at "l") (fun cdv A outer s H vs Q E hr h=>?_);obtain ⟨l,k,wy,c,fz,ts,us,rfl,hl,al,iu,kl,u100,fzl,fzk,q1,q2⟩:=h;have tl:ts.length=us.length:=All2.len al;have eu:=List.getElem?_eq_getElem kl;generalize us[k]=u at *;have mu:=List.mem_of_getElem? eu;obtain ⟨t,et,ht,uok,hp,rt⟩:=RtX.mem al eu;have iuk:=iu u mu;obtain ⟨r,p⟩:=u;refine ⟨_,(qc (qi (i:=5) qj8.nd rfl (Or.inl rfl) (qq qb2 (pv 0) (pv 1) (fun _ _=>rfl))) (qc (ql1 (PW.pt (qfa (qk qq4 (pv 2) qf (qs0 _)) (qm8 (qk qod (qj qb1 (pv 1) qf) (qy qb5 rfl b_len qg8 (qa (pv 0) qd)) (qs0 _))))) (qc (qi (i:=6) qj8.nd rfl (Or.inl rfl) (pe_and (qq9 qq4 (qq ql0 (pv 5) qf (fun _ _=>rfl)) (qq ql0 (qq qb2 (pv 0) (qj qb1 (pv 1) qf) (fun _ _=>rfl)) qf (fun _ _=>rfl)) (qs0 _)) (pe_one (qq9 qiv (qq ql0 (pv 5) qf (fun _ _=>rfl)) qq1 (qs0 _))))) (qg (ql1 (PW.pt (qfk (qh6 (pv 6)) (qqh (qh6 (qf1 g__law_apart hr (by decide) rfl (qa (qq ql0 (pv 5) qf (fun _ _=>rfl)) (qa (qq ql0 (qq qb2 (pv 0) (qj qb1 (pv 1) qf) (fun _ _=>rfl)) qf (fun _ _=>rfl)) qd))))))) (qg (qm (qj qv2 (qj qv2 (qj1 qs3 (pv 0) qa2 (qz1 (pv 1))) (qe1 (qa (qq qb2 (pv 0) (qj qb1 (pv 1) qf) (fun _ _=>rfl)) (qa (pv 5) qd)))) (qj1 qs3 (pv 0) (qz1 (qj qb1 (pv 1) qf)) qa2)))) qn0))) qn0) (qc (ql1 (qk qq4 (pv 2) qf (qs0 _)) (qg (qm (qj qv2 (qj qv2 (qj1 qs3 (pv 0) qa2 (qz1 (pv 1))) (qf1 g__law_halves hr (by decide) rfl (qa (pv 5) (qa (pv 3) qd)))) (qj1 qs3 (pv 0) (qz1 (qj qb1 (pv 1) qf)) qa2)))) qn0) (qc (ql1 (qk qq4 (pv 2) qf (qs0 _)) (qg (qm (qj qv2 (qj qv2 (qj1 qs3 (pv 0) qa2 (qz1 (pv 1))) (qe1 (qa (pv 5) qd))) (qj1 qs3 (pv 0) (qz1 (pv 1)) qa2)))) qn0) (qc (ql1 (PW.pt (qfa (qk qq4 (pv 2) qf (qs0 _)) (qm8 (qk (qfr (K:=K) rfl) (qq ql0 (pv 5) qf (fun _ _=>rfl)) (qv0 (qa qq1 (qa qq1 qd))) (by with_unfolding_all rfl))))) (qg (qm (qj qv2 (qj qv2 (qj1 qs3 (pv 0) qa2 (qz1 (pv 1))) (qe1 (qa (qv0 (qa qq1 (qa (qq ql0 (pv 5) qf (fun _ _=>rfl)) (qa (pv 4) qd)))) qd))) (qj1 qs3 (pv 0) (qz1 (qj qb1 (pv 1) qf)) qa2)))) qn0) (qg (qm (pv 0)))))))),?_⟩;rw [qkj];refine qc1 fun N go=>?_;walk_at "s";refine qw2 (SqL.of hl) et ?_;refine go _ _ ?_;clear go N;obtain ⟨z0,ez0,ett⟩:=qw8 p r
 -- rules[:k]+zs+rules[j:]
 have cat:∀ (J:Hp) (lm:Addr) (zs:List V) (l1:Addr) (j:Nat) (Q':VK),Same H J→J l1=some (.lst (ts.take k))→J lm=some (.lst zs)→zs.length≤2→(∀ l' J',Same J J'→J' l'=some (.lst (ts.take k++zs++ts.drop j))→Q' (.ref l') J')→qrf K (.ref l1) (.ref lm) J fun x J=>PartR (.int (j:Int)) J fun u J=>rSlL K (.ref l) u none J fun y J=>qrf K x y J Q':=fun J lm zs l1 j Q' sJ h1 hm zl k'=>by
  refine qe5 (SqL.of h1) (SqL.of hm) (by rw [List.length_take]; omega) fun l2 nl2=>?_;have s2:=qe nl2 (.lst (ts.take k++zs));have hl2:upd J l2 (.lst (ts.take k++zs)) l2=some (.lst (ts.take k++zs)):=qb0;generalize upd J l2 (.lst (ts.take k++zs))=J2 at *;refine PartR.go ?_;refine qu7 (k:=j) (SqL.of ((sJ.trans s2) _ _ hl)) fun l3 nl3=>?_;have s3:=qe nl3 (.lst (ts.drop j));have hl3:upd J2 l3 (.lst (ts.drop j)) l3=some (.lst (ts.drop j)):=qb0;generalize upd J2 l3 (.lst (ts.drop j))=J3 at *;refine qe5 (SqL.of (s3 _ _ hl2)) (SqL.of hl3) (by rw [List.length_append,List.length_take,List.length_drop]; omega) fun l4 nl4=>?_;exact k' l4 _ ((s2.trans s3).trans (qe nl4 _)) qb0
 have tk:∀ (J0:Hp) (Q':VK),Same H J0→(∀ l1 J,Same J0 J→J l1=some (.lst (ts.take k))→Q' (.ref l1) J)→PartR (.int (k:Int)) J0 fun u J=>rSlL K (.ref l) none u J Q':=fun J0 Q' sJ0 k'=>by
  refine PartR.go ?_;refine qt7 (SqL.of (sJ0 _ _ hl)) fun l1 nl1=>?_;exact k' l1 _ (qe nl1 _) qb0
 have alJ:∀ {J:Hp},Same H J→∀ {zs:List V} {vs:List Ru} (j:Nat),All2 (RtX J (bxH J)) zs vs→All2 (RtX J (bxH J)) (ts.take k++zs++ts.drop j) (us.take k++vs++us.drop j):=fun sJ zs vs j hz=>a2app (a2app (a2take (All2.imp al fun _ _ r=>r.on sJ) k) hz) (a2drop (All2.imp al fun _ _ r=>r.on sJ) j);have none4:wy≠4→wy=4→∀ u,us[k]?=some u→∀ w,u.1=.word w→¬ (w="pass"∨w="stop"):=fun h h'=>absurd h' h;have eus:=qrl eu;refine qc1 fun N go=>?_
 suffices rest:∀ (y6:Option V),N [some (.ref l),some (.int (k:Int)),some (.int wy),some (.int c),some (.str fz),some (.ref t),y6] H by
  walk_at "s";refine BrA.dec (fun w0=>?_) (fun w0=>?_)
  ·walk_at "s"
   refine LenR.lst (SqL.of hl) ?_;walk_at "s";refine BrS.dec (fun k1=>?_) (fun k1=>?_)
   ·have k1:k+1<us.length:=by omega
    have eu2:=List.getElem?_eq_getElem k1;generalize us[k+1]=u2 at *;have mu2:=List.mem_of_getElem? eu2;obtain ⟨t2,et2,ht2,uok2,hp2,rt2⟩:=RtX.mem al eu2;have iu2:=iu u2 mu2;obtain ⟨r2,p2⟩:=u2;obtain ⟨z2,ez2,ett2⟩:=qw8 p2 r2
    have e2:us.take k++(r,p)::(r2,p2)::us.drop (k+2)=us:=by
     have:us.drop (k+1)=(r2,p2)::us.drop (k+2):=by
      have:=(List.getElem?_eq_some_iff.mp eu2).2;rw [← this,List.getElem_cons_drop]
     rw [← this];exact eus
    have fin:(((r,p):Ru).1=((r2,p2):Ru).1∧∀ n,((r,p):Ru).1≠.call n)∨(∀ pn:List Int,pn.length=6→¬ (qr0 (bxH H p) pn=true∧qr0 (bxH H p2) pn=true))→PartR (.int (k:Int)) H fun u J=>rSlL K (.ref l) none u J fun x J=>rIxL K (.ref l) (.int ((k:Int)+1)) J fun y J=>LstR [y,.ref t] J fun y J=>qrf K x y J fun x J=>PartR (.int ((k:Int)+2)) J fun u J=>rSlL K (.ref l) u none J fun y J=>qrf K x y J Q:=fun hsw=>by
     refine tk H _ (Same.refl _) fun l1 J1 s1 h1=>?_;refine qw2 (i:=k+1) (SqL.of (s1 _ _ hl)) et2 ?_;refine LstR.go (by simp) fun lm nlm=>?_;have s2:=qe nlm (.lst [.ref t2,.ref t]);refine cat _ lm [.ref t2,.ref t] l1 (k+2) _ (s1.trans s2) (s2 _ _ h1) qb0 (by simp) fun l' J' s3 hl'=>?_;have sJ:=(s1.trans s2).trans s3;refine q1 l' _ _ [] J' sJ hl' (alJ sJ (vs:=[(r2,p2),(r,p)]) (k+2) (.cons (rt2.on sJ) (.cons (rt.on sJ) .nil))) ⟨by decide,fun e he=>by cases he⟩ ⟨?_,fun u hu=>⟨u,?_,rfl⟩,fun u hu=>.inl ⟨u,?_,rfl⟩,fun pn F n6 fh sub=>?_⟩ (none4 (by omega))
     ·rw [List.length_append,List.length_append,List.length_take,List.length_drop]
      show min k us.length+2+_≤_;omega
     ·rw [← e2]
      rw [List.append_assoc] at hu
      rcases List.mem_append.mp hu with hu | hu
      ·exact List.mem_append_left _ hu
      ·refine List.mem_append_right _ ?_
       simp only [List.cons_append,List.nil_append,List.mem_cons] at hu ⊢
       rcases hu with h | h | h
       ·exact .inr (.inl h)
       ·exact .inl h
       ·exact .inr (.inr h)
     ·rw [← e2]
      rw [List.append_assoc] at hu
      rcases List.mem_append.mp hu with hu | hu
      ·exact List.mem_append_left _ hu
      ·refine List.mem_append_right _ ?_
       simp only [List.cons_append,List.nil_append,List.mem_cons] at hu ⊢
       rcases hu with h | h | h
       ·exact .inr (.inl h)
       ·exact .inl h
       ·exact .inr (.inr h)
     ·rw [List.append_assoc]
      refine (qab (w_swap ?_) (us.take k)).trans (congrArg _ e2)
      rcases hsw with h | h
      ·exact .inl h
      ·refine .inr fun hf=>h pn n6 ?_
       rw [fh p _ (hp.same sJ),fh p2 _ (hp2.same sJ)] at hf;exact hf
    walk_at "s";refine ixT_go (i:=0) (SqT.of ht) ez0 ?_;refine qw2 (i:=k+1) (SqL.of hl) et2 ?_;refine ixT_go (i:=0) (SqT.of ht2) ez2 ?_;walk_at "s"
    have part:∀ (x:Bool) (Q':VK),(∀ b:Bool,(b=true→∀ pn:List Int,pn.length=6→¬ (qr0 (bxH H p) pn=true∧qr0 (bxH H p2) pn=true))→Q' (.bl b) H)→rIxT K (.ref t) (.int 1) H fun x J=>rIxL K (.ref l) (.int ((k:Int)+1)) J fun y J=>rIxT K y (.int 1) J fun y J=>qif [x,y] J Q' E0:=fun x Q' k'=>by
     refine ixT_go (i:=1) (SqT.of ht) (qr5 p r) ?_;refine qw2 (i:=k+1) (SqL.of hl) et2 ?_;refine ixT_go (i:=1) (SqT.of ht2) (qr5 p2 r2) ?_;exact ⟨p,p2,_,_,rfl,hp,hp2,iuk.six,iu2.six,k'⟩
    by_cases e:z0=z2
    ·rw [decide_eq_true e]
     walk_at "s";refine ixT_go (i:=0) (SqT.of ht) ez0 ?_;walk_at "s"
     by_cases nc:z0="call"
     ·rw [decide_eq_true nc]
      walk_at "s";refine part true _ fun b hb=>?_;walk_at "s"
      cases b with
      | true =>
       walk_at "s";exact fin (.inr (hb rfl))
      | false =>
       walk_at "s";exact rest _
     ·rw [decide_eq_false nc]
      walk_at "s";exact fin (.inl (head_eq uok uok2 ez0 (e▸ez2) nc))
    ·rw [decide_eq_false e]
     walk_at "s";refine part true _ fun b hb=>?_;walk_at "s"
     cases b with
     | true =>
      walk_at "s";exact fin (.inr (hb rfl))
     | false =>
      walk_at "s";exact rest _
   ·walk_at "s"
    exact rest _
  ·walk_at "s"
   exact rest _
 intro y6;refine go _ _ ?_;clear go N
 -- cut in two
 refine qc1 fun N go=>?_
 suffices rest:wy≠1→N [some (.ref l),some (.int (k:Int)),some (.int wy),some (.int c),some (.str fz),some (.ref t),y6] H by
  walk_at "s";refine BrS.dec (fun w1=>?_) (fun w1=>?_)
  ·walk_at "s"
   refine tk H _ (Same.refl _) fun l1 J1 s1 h1=>?_;refine ⟨t,p,c,r,_,rfl,s1 _ _ ht,uok,hp.same s1,iuk,fun lm zs vs new J2 nlm s2 hlm hz nb hu vl hw=>?_⟩;refine cat J2 lm zs l1 (k+1) _ (s1.trans s2) (s2 _ _ h1) hlm (by rw [All2.len hz]; exact vl) fun l' J' s3 hl'=>?_;have sJ:=(s1.trans s2).trans s3;refine q1 l' _ _ new J' sJ hl' (alJ sJ (vs:=vs) (k+1) (All2.imp hz fun _ _ r=>r.on s3)) (nb.same s3) ⟨?_,fun u hu'=>?_,fun u hu'=>?_,fun pn F n6 fh sub=>?_⟩ (none4 (by omega))
   ·rw [List.length_append,List.length_append,List.length_take,List.length_drop]
    omega
   ·rcases List.mem_append.mp hu' with h | h
    ·rcases List.mem_append.mp h with h | h
     ·exact ⟨u,List.mem_of_mem_take h,rfl⟩
     ·exact ⟨_,mu,(hu u h).1.symm⟩
    ·exact ⟨u,List.mem_of_mem_drop h,rfl⟩
   ·rcases List.mem_append.mp hu' with h | h
    ·rcases List.mem_append.mp h with h | h
     ·exact .inl ⟨u,List.mem_of_mem_take h,rfl⟩
     ·rcases (hu u h).2 with e | e
      ·exact .inl ⟨_,mu,e.symm⟩
      ·exact .inr e
    ·exact .inl ⟨u,List.mem_of_mem_drop h,rfl⟩
   ·rw [List.append_assoc]
    exact (qab (hw pn F n6 (fh.back s3) sub _) (us.take k)).trans (congrArg _ eus)
  ·walk_at "s"
   exact rest w1
 intro w1;refine go _ _ ?_;clear go N
 -- told twice
 refine qc1 fun N go=>?_
 suffices rest:wy≠2→N [some (.ref l),some (.int (k:Int)),some (.int wy),some (.int c),some (.str fz),some (.ref t),y6] H by
  walk_at "s";refine BrS.dec (fun w2=>?_) (fun w2=>?_)
  ·walk_at "s"
   refine tk H _ (Same.refl _) fun l1 J1 s1 h1=>?_;refine LstR.go (by simp) fun lm nlm=>?_;have s2:=qe nlm (.lst [.ref t]);refine cat _ lm [.ref t] l1 k _ (s1.trans s2) (s2 _ _ h1) qb0 (by simp) fun l' J' s3 hl'=>?_;have sJ:=(s1.trans s2).trans s3
   have ed:us.drop k=(r,p)::us.drop (k+1):=by
    have:=(List.getElem?_eq_some_iff.mp eu).2;rw [← this,List.getElem_cons_drop]
   have mm:∀ u∈us.take k++[(r,p)]++us.drop k,u∈us:=fun u hu'=>by
    rcases List.mem_append.mp hu' with h | h
    ·rcases List.mem_append.mp h with h | h
     ·exact List.mem_of_mem_take h
     ·obtain rfl:=List.mem_singleton.mp h
      exact mu
    ·exact List.mem_of_mem_drop h
   refine q1 l' _ _ [] J' sJ hl' (alJ sJ (vs:=[(r,p)]) k (.cons (rt.on sJ) .nil)) ⟨by decide,fun e he=>by cases he⟩ ⟨?_,fun u hu'=>⟨u,mm u hu',rfl⟩,fun u hu'=>.inl ⟨u,mm u hu',rfl⟩,fun pn F n6 fh sub=>?_⟩ (none4 (by omega))
   ·rw [List.length_append,List.length_append,List.length_take,List.length_drop]
    show min k us.length+1+_≤_;omega
   ·rw [List.append_assoc,ed]
    exact (qab (w_half (by rw [Bool.or_self])) (us.take k)).trans (congrArg _ eus)
  ·walk_at "s"
   exact rest w2
 intro w2;refine go _ _ ?_;clear go N
 -- a chain of its own
 have same:∀ J,Same H J→(wy=4→∀ u,us[k]?=some u→∀ w,u.1=.word w→¬ (w="pass"∨w="stop"))→Q (.ref l) J:=fun J sJ h=>q1 l ts us [] J sJ (sJ _ _ hl) (All2.imp al fun _ _ r=>r.on sJ) ⟨by decide,fun e he=>by cases he⟩ qzr h;walk_at "s";refine BrA.dec (fun w4=>?_) (fun w4=>?_)
 ·walk_at "s"
  refine ixT_go (i:=0) (SqT.of ht) ez0 ?_;refine TupR.go (by simp) fun tt ntt=>?_;have s0:=qe ntt (.tup [.str "pass",.str "stop"]);have htt:upd H tt (.tup [.str "pass",.str "stop"]) tt=some (.tup ([("pass":Str),"stop"].map V.str)):=qb0;generalize upd H tt (.tup [.str "pass",.str "stop"])=H0 at *;refine qls htt ?_;walk_at "s";refine BrS.dec (fun m=>?_) (fun m=>?_)
  ·have er:r=.word z0:=by
    cases r with
    | word w =>
     injection ez0 with e
     injection e with e
     rw [e]
    | back =>
     have e:("back":Str)=z0:=by injection ez0 with e; injection e
     rw [← e] at m;exact absurd m (by decide)
    | call n =>
     have e:("call":Str)=z0:=by injection ez0 with e; injection e
     rw [← e] at m;exact absurd m (by decide)
   subst er;walk_at "s";refine tk H0 _ s0 fun l1 J1 s1 h1=>?_;have z1:=s0.trans s1;refine ixT_go (i:=1) (SqT.of (z1 _ _ ht)) (qr5 p _) ?_;refine TupR.go (by simp) fun t3 nt3=>?_;have s2:=qe nt3 (.tup [.str "call",.ref p,.str fz]);have ht3:upd J1 t3 (.tup [.str "call",.ref p,.str fz]) t3=some (.tup (Rl.told p (.call fz))):=qb0;generalize upd J1 t3 (.tup [.str "call",.ref p,.str fz])=J2 at *;refine LstR.go (by simp) fun lm nlm=>?_;have s3:=qe nlm (.lst [.ref t3]);have z3:=(z1.trans s2).trans s3;refine cat _ lm [.ref t3] l1 (k+1) _ z3 ((s2.trans s3) _ _ h1) qb0 (by simp) fun l' J' s4 hl'=>?_;have sJ:=z3.trans s4;refine q2 l' _ p z0 J' sJ w4 eu (by simpa using m) hl' ?_;have:=alJ sJ (zs:=[.ref t3]) (vs:=[(.call fz,p)]) (k+1) (.cons (qec ((s3.trans s4) _ _ ht3) ⟨fzl,fzk⟩ (hp.same sJ) iuk) .nil);rw [List.append_assoc (us.take k)] at this;exact this
  ·walk_at "s"
   refine same H0 s0 fun _ u hu w ew=>?_;rw [eu] at hu;cases hu;have ew:r=.word w:=ew;subst ew
   injection ez0 with e
   injection e with e
   rw [e]
   simpa using m
 ·walk_at "s"
  exact same H (Same.refl _) (none4 w4)
def qib:Sp:=fun vs H Q _=>vs=[]∧∀ p H',Same H H'→IsBox H' p wholeU→Q (.ref p) H'
theorem qtn (F:Fun K "_law_whole" "_law_whole" qx3 f fd)(g__law_top:Fn P w K mg base "_law_top" 1 ["_law_d"] qen)(b_range:mg "range"=none)(b_tuple:mg "tuple"=none):FnOk P w K mg base CX0 2 f fd [] qib:=by
 refine F.ok qnf (by walk_at "l") (fun cdv A outer s H vs Q E hr h=>?_);obtain ⟨rfl,q⟩:=h;refine ⟨_,(qg (qm (qm4 qw4 rfl b_tuple qv6 (qa (qa6 (T:=["_law_d"]) (cap:=[]) rfl (COk.of (out:=qh qx3) (N:=[]) rfl rfl (by decide +kernel)) (qc3 rfl b_range (qa qf qd)) (fun _ _ _=>(qp (i:=0) (show List.Nodup (["_law_d"]:List Str) by decide +kernel) rfl (Or.inl rfl))) (fun _ _ _=>ql4) (fun _ _ _=>(qv0 (qa qf (qa (qf1 g__law_top hr (by decide) rfl (qa (pv 0) qd)) qd))))) qd)))),?_⟩;rw [qxe];walk_at "s";refine RngR.go (by decide) (by decide) ?_;refine qnl (fun i H' Q' hi s' k=>?_) fun D vs H1 nD s1 hD st=>?_
 ·walk_at "s"
  refine ⟨i,rfl,hi,fun t H2 et t0 t1 s2=>?_⟩;walk_at "s";refine TupR.go (by simp) fun u nu=>?_;exact k u t _ (s2.free nu) (s2.trans (qe nu _)) et qb0
 refine TupOf.lst (SqL.of hD) fun t nt=>?_;have s2:=qe nt (.tup vs);exact q t _ (s1.trans s2) ⟨vs,qb0,st.same s2⟩
def csOf (z:Str)(us0 us1:List Ru)(fr:Chs):Chs:=(("main":Str),us0)::(z,us1)::fr
theorem qv9 {z:Str}(zm:z≠"main")(us0 us1:List Ru)(fr:Chs)(x:Str):chOf (csOf z us0 us1 fr) x=if x="main" then us0 else if x=z then us1 else chOf fr x:=by
 unfold chOf csOf;rw [List.lookup_cons,List.lookup_cons]
 by_cases h:x="main"
 ·rw [if_pos h,beq_iff_eq.mpr h]
  rfl
 ·rw [if_neg h,beq_eq_false_iff_ne.mpr h]
  by_cases h2:x=z
  ·rw [if_pos h2,beq_iff_eq.mpr h2]
   rfl
  ·rw [if_neg h2,beq_eq_false_iff_ne.mpr h2]
def qo8 (es:List Bxn):Nat:=es.foldr (fun e n=>(1+2 * e.2.2) * n) 1
theorem qua {H:Hp}{new:List Bxn}(h:NewB H new)(es:List Bxn):qo8 (new++es)≤169 * qo8 es:=by
 obtain ⟨l,h⟩:=h
 match new,l,h with
 | [],_,_=>exact Nat.le_mul_of_pos_left _ (by decide)
 | [a],_,h =>
  have:=(h a List.mem_cons_self).2.2;show (1+2 * a.2.2) * qo8 es≤_;rw [this];omega
 | [a,b],_,h =>
  have h1:=(h a List.mem_cons_self).2.2;have h2:=(h b (List.mem_cons_of_mem _ List.mem_cons_self)).2.2;show (1+2 * a.2.2) * ((1+2 * b.2.2) * qo8 es)≤_;rw [h1,h2];omega
 | _::_::_::_,l,_=>simp at l
structure S4 (j:Nat)(H:Hp)(z:Str)(hs:List V)(us0 us1:List Ru)(fr:Chs)(es:List Bxn):Prop where
 al:All2 (HaX H (bxH H)) hs (csOf z us0 us1 fr)
 l0:us0.length≤4+j
 l1:us1.length≤4+j
 lf:fr.length≤j
 fw:∀ c∈fr,∃ w p,c.2=[(Rl.word w,p)]∧w≠""
 fn:∀ c∈fr,NmOk c.1∧¬ NoZ c.1
 fd:(fr.map (·.1)).Nodup
 c0:∀ n∈qu us0,n=z∨n∈fr.map (·.1)
 c1:∀ n∈qu us1,n∈fr.map (·.1)
 wd:∀ u∈us0++us1,∀ w,u.1=.word w→w≠""
 ws:qo8 es≤45 * 169 ^ j
 eb:∀ e∈es,IsBox H e.1 e.2.1∧Nar e.2.2 e.2.1
 ec:∀ c∈csOf z us0 us1 fr,∀ u∈c.2,∃ e∈es,e.1=u.2
section
variable {j:Nat}{H H':Hp}{z:Str}{hs hs':List V}{us0 us1 us0' us1':List Ru}{fr:Chs}{es new:List Bxn}
theorem S4.same (g:S4 j H z hs us0 us1 fr es)(s:Same H H'):S4 j H' z hs us0 us1 fr es:=⟨All2.imp g.al fun _ _ r=>r.on s,g.l0,g.l1,g.lf,g.fw,g.fn,g.fd,g.c0,g.c1,g.wd,g.ws,fun e he=>⟨(g.eb e he).1.same s,(g.eb e he).2⟩,g.ec⟩
theorem S4.more (g:S4 j H z hs us0 us1 fr es):S4 (j+1) H z hs us0 us1 fr es:=⟨g.al,by have:=g.l0; omega,by have:=g.l1; omega,by have:=g.lf; omega,g.fw,g.fn,g.fd,g.c0,g.c1,g.wd,Nat.le_trans g.ws (Nat.mul_le_mul (Nat.le_refl _) (Nat.pow_le_pow_right (by decide) (Nat.le_succ _))),g.eb,g.ec⟩
theorem S4.inU (g:S4 j H z hs us0 us1 fr es){c:Str×List Ru}(hc:c∈csOf z us0 us1 fr){u:Ru}(hu:u∈c.2):InU (bxH H u.2):=by
 obtain ⟨e,he,ee⟩:=g.ec c hc u hu;obtain ⟨hb,n⟩:=g.eb e he;rw [← ee,qf8 hb];exact qmi n.six n.low
theorem qtf {es':List Bxn}(h:qo8 es'≤169 * qo8 es)(k:qo8 es≤45 * 169 ^ m):qo8 es'≤45 * 169 ^ (m+1):=by
 rw [Nat.pow_succ];have:169 * qo8 es≤169 * (45 * 169 ^ m):=Nat.mul_le_mul (Nat.le_refl _) k;omega
theorem qfe (h:Like H us0 us0' new){n:Str}(hn:n∈qu us0'):n∈qu us0:=by
 obtain ⟨u,hu,e⟩:=qed hn;obtain ⟨u0,h0,e0⟩:=h.kind u hu;obtain ⟨r,p⟩:=u0;have e0:r=.call n:=e0.trans e;subst e0;exact List.mem_filterMap.mpr ⟨_,h0,rfl⟩
theorem S4.upd0 (g:S4 j H z hs us0 us1 fr es)(h:Like H us0 us0' new)(nb:NewB H new)(al:All2 (HaX H (bxH H)) hs' (csOf z us0' us1 fr)):S4 (j+1) H z hs' us0' us1 fr (new++es):=by
 refine ⟨al,by have:=g.l0; have:=h.len; omega,by have:=g.l1; omega,by have:=g.lf; omega,g.fw,g.fn,g.fd,fun n hn=>g.c0 n (qfe h hn),g.c1,fun u hu w ew=>?_,qtf (qua nb es) g.ws,fun e he=>?_,fun c hc u hu=>?_⟩
 ·rcases List.mem_append.mp hu with hu | hu
  ·obtain ⟨u0,h0,e0⟩:=h.kind u hu
   exact g.wd u0 (List.mem_append_left _ h0) w (e0.trans ew)
  ·exact g.wd u (List.mem_append_right _ hu) w ew
 ·rcases List.mem_append.mp he with he | he
  ·exact ⟨(nb.2 e he).1,(nb.2 e he).2.1⟩
  ·exact g.eb e he
 ·rcases List.mem_cons.mp hc with rfl | hc
  ·rcases h.box u hu with ⟨u0,h0,e0⟩ | ⟨e,he,ee⟩
   ·obtain ⟨e,he,ee⟩:=g.ec _ List.mem_cons_self u0 h0
    exact ⟨e,List.mem_append_right _ he,ee.trans e0⟩
   ·exact ⟨e,List.mem_append_left _ he,ee⟩
  ·obtain ⟨e,he,ee⟩:=g.ec c (List.mem_cons_of_mem _ hc) u hu
   exact ⟨e,List.mem_append_right _ he,ee⟩
theorem S4.upd1 (g:S4 j H z hs us0 us1 fr es)(h:Like H us1 us1' new)(nb:NewB H new)(al:All2 (HaX H (bxH H)) hs' (csOf z us0 us1' fr)):S4 (j+1) H z hs' us0 us1' fr (new++es):=by
 refine ⟨al,by have:=g.l0; omega,by have:=g.l1; have:=h.len; omega,by have:=g.lf; omega,g.fw,g.fn,g.fd,g.c0,fun n hn=>g.c1 n (qfe h hn),fun u hu w ew=>?_,qtf (qua nb es) g.ws,fun e he=>?_,fun c hc u hu=>?_⟩
 ·rcases List.mem_append.mp hu with hu | hu
  ·exact g.wd u (List.mem_append_left _ hu) w ew
  ·obtain ⟨u0,h0,e0⟩:=h.kind u hu
   exact g.wd u0 (List.mem_append_right _ h0) w (e0.trans ew)
 ·rcases List.mem_append.mp he with he | he
  ·exact ⟨(nb.2 e he).1,(nb.2 e he).2.1⟩
  ·exact g.eb e he
 ·rcases List.mem_cons.mp hc with rfl | hc
  ·obtain ⟨e,he,ee⟩:=g.ec _ List.mem_cons_self u hu
   exact ⟨e,List.mem_append_right _ he,ee⟩
  ·rcases List.mem_cons.mp hc with rfl | hc
   ·rcases h.box u hu with ⟨u0,h0,e0⟩ | ⟨e,he,ee⟩
    ·obtain ⟨e,he,ee⟩:=g.ec (z,us1) (List.mem_cons_of_mem _ List.mem_cons_self) u0 h0
     exact ⟨e,List.mem_append_right _ he,ee.trans e0⟩
    ·exact ⟨e,List.mem_append_left _ he,ee⟩
   ·obtain ⟨e,he,ee⟩:=g.ec c (List.mem_cons_of_mem _ (List.mem_cons_of_mem _ hc)) u hu
    exact ⟨e,List.mem_append_right _ he,ee⟩
theorem word0 (zm:z≠"main"){F:Addr→Bool}(h:∀ sub,wGo F sub us0'=wGo F sub us0)(d:Nat)(x:Str):wC F (csOf z us0' us1 fr) d x=wC F (csOf z us0 us1 fr) d x:=qxo (fun x sub=>by
 rw [qv9 zm,qv9 zm]
 split
 ·exact h sub
 ·rfl) d x
theorem word1 (zm:z≠"main"){F:Addr→Bool}(h:∀ sub,wGo F sub us1'=wGo F sub us1)(d:Nat)(x:Str):wC F (csOf z us0 us1' fr) d x=wC F (csOf z us0 us1 fr) d x:=qxo (fun x sub=>by
 rw [qv9 zm,qv9 zm]
 split
 ·rfl
 ·split
  ·exact h sub
  ·rfl) d x
end
theorem qs6 {z:Str}{us:List Ru}:∀ {cs:Chs},cs.lookup z=some us→(z,us)∈cs
 | c::cs,h=>by
  rw [List.lookup_cons] at h
  by_cases e:z=c.1
  ·rw [beq_iff_eq.mpr e] at h
   cases h;rw [e];exact List.mem_cons_self
  ·rw [beq_eq_false_iff_ne.mpr e] at h
   exact List.mem_cons_of_mem _ (qs6 h)
section
variable {j:Nat}{H H':Hp}{z:Str}{hs hs':List V}{us us0 us1 us0' us1':List Ru}{fr:Chs}{es new:List Bxn}
theorem S4.end (g:S4 j H z hs us0 us1 fr es){df:Str}(dw:df≠"")(nb:NewB H new)(hp:∃ e∈new++es,e.1=p)(al:All2 (HaX H (bxH H)) hs' (csOf z (us0++[(.word df,p)]) us1 fr)):S4 (j+1) H z hs' (us0++[(.word df,p)]) us1 fr (new++es):=by
 refine ⟨al,by have:=g.l0; rw [List.length_append]; show _+1≤_; omega,by have:=g.l1; omega,by have:=g.lf; omega,g.fw,g.fn,g.fd,fun n hn=>?_,g.c1,fun u hu w ew=>?_,qtf (qua nb es) g.ws,fun e he=>?_,fun c hc u hu=>?_⟩
 ·unfold qu at hn
  rw [List.filterMap_append] at hn
  rcases List.mem_append.mp hn with hn | hn
  ·exact g.c0 n hn
  ·cases hn
 ·rcases List.mem_append.mp hu with hu | hu
  ·rcases List.mem_append.mp hu with hu | hu
   ·exact g.wd u (List.mem_append_left _ hu) w ew
   ·obtain rfl:=List.mem_singleton.mp hu
    cases ew;exact dw
  ·exact g.wd u (List.mem_append_right _ hu) w ew
 ·rcases List.mem_append.mp he with he | he
  ·exact ⟨(nb.2 e he).1,(nb.2 e he).2.1⟩
  ·exact g.eb e he
 ·have old:∀ c∈csOf z us0 us1 fr,u∈c.2→∃ e∈new++es,e.1=u.2:=fun c hc hu=>by
   obtain ⟨e,he,ee⟩:=g.ec c hc u hu;exact ⟨e,List.mem_append_right _ he,ee⟩
  rcases List.mem_cons.mp hc with rfl | hc
  ·rcases List.mem_append.mp hu with hu | hu
   ·exact old _ List.mem_cons_self hu
   ·obtain rfl:=List.mem_singleton.mp hu
    exact hp
  ·exact old c (List.mem_cons_of_mem _ hc) hu
theorem own_mem {u u':Ru}(h:u∈us.take k++u'::us.drop (k+1)):u=u'∨u∈us:=by
 rcases List.mem_append.mp h with h | h
 ·exact .inr (List.mem_of_mem_take h)
 ·rcases List.mem_cons.mp h with h | h
  ·exact .inl h
  ·exact .inr (List.mem_of_mem_drop h)
theorem own_len {u':Ru}(h:k<us.length):(us.take k++u'::us.drop (k+1)).length=us.length:=by
 rw [List.length_append,List.length_cons,List.length_take,List.length_drop];omega
theorem S4.own (g:S4 j H z hs us0 us1 fr es){fz w:Str}{pw:Addr}(fzo:NmOk fz∧¬ NoZ fz)(nf:fz∉fr.map (·.1))(wn:w≠"")(hw:IsBox H pw wholeU)(l0:us0'.length≤us0.length)(l1:us1'.length≤us1.length)(m0:∀ u∈us0',(∃ p,u=(.call fz,p)∧∃ u0∈us0,u0.2=p)∨u∈us0)(m1:∀ u∈us1',(∃ p,u=(.call fz,p)∧∃ u0∈us1,u0.2=p)∨u∈us1)
  (al:All2 (HaX H (bxH H)) hs' (csOf z us0' us1' (fr++[(fz,[(.word w,pw)])]))):S4 (j+1) H z hs' us0' us1' (fr++[(fz,[(.word w,pw)])]) ([(pw,wholeU,6)]++es):=by
 have nb:NewB H [(pw,wholeU,6)]:=⟨by simp,fun e he=>by
  obtain rfl:=List.mem_singleton.mp he
  exact ⟨hw,qv8,rfl⟩⟩
 have inf:∀ n,n∈fr.map (·.1)→n∈(fr++[(fz,[((.word w,pw):Ru)])]).map (·.1):=fun n hn=>by
  rw [List.map_append];exact List.mem_append_left _ hn
 have fin:fz∈(fr++[(fz,[((.word w,pw):Ru)])]).map (·.1):=by
  rw [List.map_append];exact List.mem_append_right _ List.mem_cons_self
 have cal:∀ {us us':List Ru},(∀ u∈us',(∃ p,u=(.call fz,p)∧∃ u0∈us,u0.2=p)∨u∈us)→∀ n∈qu us',n=fz∨n∈qu us:=fun m n hn=>by
  obtain ⟨u,hu,e⟩:=List.mem_filterMap.mp hn
  rcases m u hu with ⟨p,rfl,_⟩ | hu
  ·cases e
   exact .inl rfl
  ·exact .inr (List.mem_filterMap.mpr ⟨u,hu,e⟩)
 refine ⟨al,by have:=g.l0; omega,by have:=g.l1; omega,by rw [List.length_append]; have:=g.lf; show _+1≤_; omega,fun c hc=>?_,fun c hc=>?_,?_,fun n hn=>?_,fun n hn=>?_,fun u hu w' ew=>?_,qtf (qua nb es) g.ws,fun e he=>?_,fun c hc u hu=>?_⟩
 ·rcases List.mem_append.mp hc with hc | hc
  ·exact g.fw c hc
  ·obtain rfl:=List.mem_singleton.mp hc
   exact ⟨w,pw,rfl,wn⟩
 ·rcases List.mem_append.mp hc with hc | hc
  ·exact g.fn c hc
  ·obtain rfl:=List.mem_singleton.mp hc
   exact fzo
 ·rw [List.map_append]
  exact qnk g.fd nf
 ·rcases cal m0 n hn with rfl | h
  ·exact .inr fin
  ·exact (g.c0 n h).imp id (inf n)
 ·rcases cal m1 n hn with rfl | h
  ·exact fin
  ·exact inf n (g.c1 n h)
 ·rcases List.mem_append.mp hu with hu | hu
  ·rcases m0 u hu with ⟨p,rfl,_⟩ | hu
   ·cases ew
   ·exact g.wd u (List.mem_append_left _ hu) w' ew
  ·rcases m1 u hu with ⟨p,rfl,_⟩ | hu
   ·cases ew
   ·exact g.wd u (List.mem_append_right _ hu) w' ew
 ·rcases List.mem_append.mp he with he | he
  ·exact ⟨(nb.2 e he).1,(nb.2 e he).2.1⟩
  ·exact g.eb e he
 ·have old:∀ c∈csOf z us0 us1 fr,∀ u∈c.2,∃ e∈[(pw,wholeU,6)]++es,e.1=u.2:=fun c hc u hu=>by
   obtain ⟨e,he,ee⟩:=g.ec c hc u hu;exact ⟨e,List.mem_append_right _ he,ee⟩
  rcases List.mem_cons.mp hc with rfl | hc
  ·rcases m0 u hu with ⟨p,rfl,u0,h0,rfl⟩ | hu
   ·exact old _ List.mem_cons_self u0 h0
   ·exact old _ List.mem_cons_self u hu
  ·rcases List.mem_cons.mp hc with rfl | hc
   ·rcases m1 u hu with ⟨p,rfl,u0,h0,rfl⟩ | hu
    ·exact old (z,us1) (List.mem_cons_of_mem _ List.mem_cons_self) u0 h0
    ·exact old (z,us1) (List.mem_cons_of_mem _ List.mem_cons_self) u hu
   ·rcases List.mem_append.mp hc with hc | hc
    ·exact old c (List.mem_cons_of_mem _ (List.mem_cons_of_mem _ hc)) u hu
    ·obtain rfl:=List.mem_singleton.mp hc
     obtain rfl:=List.mem_singleton.mp hu;exact ⟨(pw,wholeU,6),List.mem_cons_self,rfl⟩
def qg3 (z x:Str):Nat:=if x="main" then 2 else if x=z then 1 else 0
theorem qwa:NoZ "main":=by
 unfold NoZ;decide +kernel
theorem S4.rank (g:S4 j H z hs us0 us1 fr es)(zn:NoZ z)(zm:z≠"main"):∀ x,∀ n∈qu (chOf (csOf z us0 us1 fr) x),(n=z∨n∈fr.map (·.1))∧qg3 z n<qg3 z x:=by
 have frn:∀ n∈fr.map (·.1),qg3 z n=0:=fun n hn=>by
  obtain ⟨c,hc,rfl⟩:=List.mem_map.mp hn;have:=(g.fn c hc).2;unfold qg3;have n1:c.1≠"main":=fun e=>this (by rw [e]; exact qwa);have n2:c.1≠z:=fun e=>this (by rw [e]; exact zn);rw [if_neg n1,if_neg n2]
 have rz:qg3 z z=1:=by
  unfold qg3;rw [if_neg zm,if_pos rfl]
 intro x n hn;rw [qv9 zm] at hn
 have rx:qg3 z x=if x="main" then 2 else if x=z then 1 else 0:=rfl
 split at hn
 ·rename_i e
  rw [if_pos e] at rx;refine ⟨g.c0 n hn,?_⟩
  rcases g.c0 n hn with rfl | h
  ·omega
  ·have:=frn n h
   omega
 ·rename_i e
  rw [if_neg e] at rx
  split at hn
  ·rename_i e
   rw [if_pos e] at rx;have h:=g.c1 n hn;have:=frn n h;exact ⟨.inr h,by omega⟩
  ·exfalso
   unfold chOf at hn
   cases hl:fr.lookup x with
   | none =>
    rw [hl] at hn;cases hn
   | some us =>
    rw [hl] at hn;have hm:(x,us)∈fr:=qs6 hl;obtain ⟨w,p,e,_⟩:=g.fw _ hm;have e:us=[(.word w,p)]:=e;rw [e] at hn;cases hn
theorem qgt {fz:Str}{vs:List Ru}(nf:fz∉fr.map (·.1))(x:Str):chOf (fr++[(fz,vs)]) x=if x=fz then vs else chOf fr x:=by
 unfold chOf;rw [List.lookup_append]
 by_cases e:x=fz
 ·rw [if_pos e]
  have:fr.lookup x=none:=by
   rw [List.lookup_eq_none_iff];intro c hc;rw [bne_iff_ne]
   rintro rfl
   exact nf (e▸List.mem_map_of_mem hc)
  rw [this,e];simp
 ·rw [if_neg e]
  have:([(fz,vs)]:Chs).lookup x=none:=by
   rw [List.lookup_cons,beq_eq_false_iff_ne.mpr e];rfl
  rw [this]
  cases fr.lookup x <;> rfl
theorem S4.wown (g:S4 j H z hs us0 us1 fr es)(zn:NoZ z)(zm:z≠"main"){fz w:Str}{pw:Addr}(fzo:¬ NoZ fz)(nf:fz∉fr.map (·.1)){F:Addr→Bool}(hq:F pw=true)
  (h0:us0'=us0∨∃ vs ws p,us0=vs++(.word w,p)::ws∧us0'=vs++(.call fz,p)::ws) (h1:us1'=us1∨∃ vs ws p,us1=vs++(.word w,p)::ws∧us1'=vs++(.call fz,p)::ws):wC F (csOf z us0' us1' (fr++[(fz,[(.word w,pw)])])) 3 "main"=wC F (csOf z us0 us1 fr) 3 "main":=by
 have nm:fz≠"main":=fun e=>fzo (e▸qwa);have nz:fz≠z:=fun e=>fzo (e▸zn);refine wC_own (rank:=qg3 z) (w:=w) (fz:=fz) hq ?_ (fun x nx=>?_) (fun x n hn=>?_) 3 "main" (Ne.symm nm) (by unfold qg3; rw [if_pos rfl]; decide)
 ·rw [qv9 zm,if_neg nm,if_neg nz,qgt nf,if_pos rfl]
 ·rw [qv9 zm,qv9 zm]
  have rx:qg3 z x=if x="main" then 2 else if x=z then 1 else 0:=rfl
  split
  ·rename_i e
   rw [if_pos e] at rx
   rcases h0 with h | ⟨vs,ws,p,e1,e2⟩
   ·exact .inl h
   ·exact .inr ⟨by omega,vs,ws,p,e1,e2⟩
  ·rename_i e
   rw [if_neg e] at rx
   split
   ·rename_i e
    rw [if_pos e] at rx
    rcases h1 with h | ⟨vs,ws,p,e1,e2⟩
    ·exact .inl h
    ·exact .inr ⟨by omega,vs,ws,p,e1,e2⟩
   ·rw [qgt nf,if_neg nx]
    exact .inl rfl
 ·obtain ⟨h,r⟩:=g.rank zn zm x n hn
  refine ⟨fun e=>?_,r⟩;subst e
  rcases h with h | h
  ·exact nz h
  ·exact nf h
end
def qak:Sp:=fun vs H Q _=>∃ (hl:Addr) (df fz:Str) (c:Int) (j:Nat) (z:Str) (hs:List V) (us0 us1:List Ru) (fr:Chs) (es:List Bxn),vs=[.str df,.ref hl,.int c,.str fz]∧H hl=some (.lst hs)∧S4 j H z hs us0 us1 fr es∧j≤2∧z≠"main"∧NoZ z∧WdOk df∧NmOk fz∧¬ NoZ fz∧fz∉fr.map (·.1) ∧
 ∀ hl' hs' us0' us1' fr' new H',Same H H'→H' hl'=some (.lst hs')→S4 (j+1) H' z hs' us0' us1' fr' (new++es)→(∀ c∈fr',c∈fr∨c.1=fz)→(∀ (pn:List Int) (F:Addr→Bool),pn.length=6→qr0 wholeU pn=true→FH H' pn F→(wC F (csOf z us0' us1' fr') 3 "main").getD df=(wC F (csOf z us0 us1 fr) 3 "main").getD df)→Q (.ref hl') H'
theorem qvv (F:Fun K "_law_changed" "_law_changed" qt2 f fd)(g__law_whole:Fn P w K mg base "_law_whole" 2 [] qib)(g__law_new:Fn P w K mg base "_law_new" 2 ["_law_rules","_law_k","_law_way","_law_cell","_law_fresh"] qtj)(b_len:mg "len"=none):FnOk P w K mg base CX0 3 f fd ["_law_default","_law_chains_here","_law_cell","_law_fresh"] qak:=by
 refine F.ok qp1 (by walk_at "l") (fun cdv A outer s H vs Q E hr h=>?_);obtain ⟨hl,df,fz,c,j,z,hs,us0,us1,fr,es,rfl,hhl,g,j2,zm,zn,dfo,fzk,fzn,nf,q⟩:=h;have al:=g.al;unfold csOf at al
 cases al with
 | @cons v0 _ hs1 _ a0 al =>
 cases al with
 | @cons v1 _ vf _ a1 af =>
 obtain ⟨t0,l0,ts0,rfl,ht0,hl0,tal0⟩:=id a0;obtain ⟨t1,l1,ts1,rfl,ht1,hl1,tal1⟩:=id a1;have n0:ts0.length=us0.length:=All2.len tal0;have n1:ts1.length=us1.length:=All2.len tal1
 have nf3:vf.length≤3:=by have:=All2.len af; have:=g.lf; omega
 have b0:=g.l0;have b1:=g.l1;have d0:=Int.emod_nonneg (c / 5) (show (2:Int)≠0 by decide);have d1:=Int.emod_lt_of_pos (c / 5) (show (0:Int)<2 by decide)
 -- the chain that is taken
 obtain ⟨a,ea,ta,la,tsa,usa,na,eta,hta,hla,tala,mema⟩:∃ (a:Nat),c / 5 % 2=(a:Int)∧∃ (ta la:Addr) (tsa:List V) (usa:List Ru) (na:Str),(V.ref t0::V.ref t1::vf)[a]?=some (.ref ta)∧H ta=some (.tup [.str na,.ref la])∧H la=some (.lst tsa)∧All2 (RtX H (bxH H)) tsa usa∧(na,usa)∈csOf z us0 us1 fr∧(a=0∧na="main"∧usa=us0∨a=1∧na=z∧usa=us1):=by
  rcases (show c / 5 % 2=0∨c / 5 % 2=1 by omega) with e | e
  ·exact ⟨0,e,t0,l0,ts0,us0,_,rfl,ht0,hl0,tal0,List.mem_cons_self,.inl ⟨rfl,rfl,rfl⟩⟩
  ·exact ⟨1,e,t1,l1,ts1,us1,_,rfl,ht1,hl1,tal1,List.mem_cons_of_mem _ List.mem_cons_self,.inr ⟨rfl,rfl,rfl⟩⟩
 obtain ⟨mema,wa⟩:=mema
 have na9:tsa.length≤20:=by
  rw [All2.len tala]
  rcases wa with ⟨_,_,rfl⟩ | ⟨_,_,rfl⟩ <;> omega
 refine ⟨_,(qc (qi (i:=4) qp1.nd rfl (Or.inl rfl) (qj qu1 (qj qv3 (pv 2) qf) qf)) (qc (qi (i:=5) qp1.nd rfl (Or.inl rfl) (qq ql0 (qq qb2 (pv 1) (pv 4) (fun _ _=>rfl)) qf (fun _ _=>rfl))) (qc (ql1 (qk qq4 (qj qu1 (pv 2) qf) qf (qs0 _)) (qc (qi (i:=6) qp1.nd rfl (Or.inl rfl) (qj qv2 (qa6 (T:=["_law_rule_here"]) (cap:=[0]) rfl (COk.of (out:=qh qt2) (N:=["_law_default","_law_chains_here","_law_cell","_law_fresh","_law_at","_law_rules","_law_last","_law_k","_law_new_here","_law_more"]) rfl rfl (by decide +kernel)) (ql3 (qj1 qs3 (pv 5) qa2 (qz1 qf))) (fun _ _ _=>(qp (i:=0) (show List.Nodup (["_law_rule_here","_law_default"]:List Str) by decide +kernel) rfl (Or.inl rfl))) (fun _ _ _=>ql4) (fun _ _ _=>(qv0 (qa (pv 1) (qa (qq (qds (K:=K) rfl) (pv 0) qf (fun _ _=>rfl)) qd))))) (qe1 (qa (qv0 (qa (pv 0) (qa (qwq g__law_whole hr (by decide) rfl) qd))) qd)))) (qg (qm (qj qv2 (qe1 (qa (qv0 (qa qq1 (qa (qj qv2 (qq ql0 (qq qb2 (pv 1) qf (fun _ _=>rfl)) qf (fun _ _=>rfl)) (qj1 qs3 (pv 6) qa2 (qz1 qf))) qd))) qd)) (qj1 qs3 (pv 1) (qz1 qf) qa2))))) qn0) (qc (ql1 (qk qq4 (qy qb5 rfl b_len qg8 (qa (pv 5) qd)) qf (qs0 _)) (qg (qm (pv 1))) qn0) (qc (qi (i:=7) qp1.nd rfl (Or.inl rfl) (qj qu1 (qj qv3 (pv 2) qf) (qy qb5 rfl b_len qg8 (qa (pv 5) qd)))) (qc (qi (i:=8) qp1.nd rfl (Or.inl rfl) (qf1 g__law_new hr (by decide) rfl (qa (pv 5) (qa (pv 7) (qa (qj qu1 (pv 2) qf) (qa (qj qv3 (pv 2) qf) (qa (pv 3) qd))))))) (qc (qi (i:=9) qp1.nd rfl (Or.inl rfl) (qe1 qd)) (qc (ql1 (PW.pt (qfa (qk qq4 (qj qu1 (pv 2) qf) qf (qs0 _)) (qm8 (qk (qfr (K:=K) rfl) (qq ql0 (qq qb2 (pv 5) (pv 7) (fun _ _=>rfl)) qf (fun _ _=>rfl)) (qv0 (qa qq1 (qa qq1 qd))) (by with_unfolding_all rfl))))) (qg (qi (i:=9) qp1.nd rfl (Or.inl rfl) (qe1 (qa (qv0 (qa (pv 3) (qa (qe1 (qa (qv0 (qa (qq ql0 (qq qb2 (pv 5) (pv 7) (fun _ _=>rfl)) qf (fun _ _=>rfl)) (qa (qwq g__law_whole hr (by decide) rfl) qd))) qd)) qd))) qd)))) qn0) (qg (qm (qj qv2 (qj qv2 (qj qv2 (qj1 qs3 (pv 1) qa2 (qz1 (pv 4))) (qe1 (qa (qv0 (qa (qq ql0 (qq qb2 (pv 1) (pv 4) (fun _ _=>rfl)) qf (fun _ _=>rfl)) (qa (pv 8) qd))) qd))) (qj1 qs3 (pv 1) (qz1 (qj qb1 (pv 4) qf)) qa2)) (pv 9)))))))))))),?_⟩;rw [qfb];refine qc1 fun N go=>?_;walk_at "s";refine ⟨⟨by decide,by decide⟩,by decide,?_⟩;rw [ea];refine go _ _ ?_;clear go N;refine qc1 fun N go=>?_;walk_at "s";refine qw2 (SqL.of hhl) eta ?_;refine ixT_go (i:=1) (SqT.of hta) rfl ?_;refine go _ _ ?_;clear go N;refine qc1 fun N go=>?_
 suffices rest:c % 5≠3→∀ y6:Option V,N [some (.str df),some (.ref hl),some (.int c),some (.str fz),some (.int (a:Int)),some (.ref la),y6,none,none,none] H by
  walk_at "s";refine ⟨by decide,?_⟩;refine BrS.dec (fun c3=>?_) (fun c3=>?_)
  ·refine qc1 fun N' go'=>?_
   walk_at "s";refine PartR.go ?_;refine qt7 (k:=1) (SqL.of hla) fun lh nlh=>?_;have s1:=qe nlh (.lst (tsa.take 1));have hlh:upd H lh (.lst (tsa.take 1)) lh=some (.lst (tsa.take 1)):=qb0;generalize upd H lh (.lst (tsa.take 1))=H1 at *;refine IlR.go (SqL.of hlh) ?_;refine CmpR.rel (fun D H' x v=>∃ t u,v=.ref t∧t≠D∧u∈usa∧H' t=some (.tup [.str df,.ref u.2])) (fun D H' H'' x v kp r=>?_) itl (by rw [List.length_take]; omega) (fun H' s=>SqL.of (s _ _ hlh)) (fun D x H' ys Q' hx nD s2 hD k=>?_) fun D H2 vs nD s2 hD al2=>?_
   ·obtain ⟨t,u,e,n,m,h⟩:=r
    exact ⟨t,u,e,n,m,kp _ _ n h⟩
   ·obtain ⟨i,hi⟩:=List.getElem?_of_mem (List.mem_of_mem_take hx)
    obtain ⟨u,eu,tu,rfl,htu,_⟩:=All2.at tala hi;walk_at "s";refine ixT_go (i:=1) (SqT.of (s2 _ _ (s1 _ _ htu))) (qr5 _ _) ?_;refine TupR.go (by simp) fun t nt=>?_;refine k _ _ (qe nt _) ⟨t,u,rfl,fun e=>?_,List.mem_of_getElem? eu,qb0⟩;rw [e,hD] at nt;cases nt
   refine ⟨rfl,fun pw H3 s3 hpw=>?_⟩;refine TupR.go (by simp) fun tw ntw=>?_;have s4:=qe ntw (.tup [.str df,.ref pw]);have htw:upd H3 tw (.tup [.str df,.ref pw]) tw=some (.tup [.str df,.ref pw]):=qb0;generalize upd H3 tw (.tup [.str df,.ref pw])=H4 at *;refine LstR.go (by simp) fun lw nlw=>?_;have s5:=qe nlw (.lst [.ref tw]);have hlw:upd H4 lw (.lst [.ref tw]) lw=some (.lst [.ref tw]):=qb0;generalize upd H4 lw (.lst [.ref tw])=H5 at *;have z25:=(s3.trans s4).trans s5
   have vl:vs.length≤1:=by
    rw [← All2.len al2,List.length_take];omega
   refine qe5 (SqL.of (z25 _ _ hD)) (SqL.of hlw) (by show _+1≤_; omega) fun lq nlq=>?_;have s6:=qe nlq (.lst (vs++[.ref tw]));have hlq:upd H5 lq (.lst (vs++[.ref tw])) lq=some (.lst (vs++[.ref tw])):=qb0;generalize upd H5 lq (.lst (vs++[.ref tw]))=H6 at *;have z26:=z25.trans s6;have z6:=(s1.trans s2).trans z26
   obtain ⟨tx,p,ex,htx,hpx⟩:∃ (tx p:Addr),(vs++[V.ref tw]).take 1=[V.ref tx]∧H6 tx=some (.tup [.str df,.ref p])∧((∃ u∈usa,u.2=p)∨p=pw):=by
    generalize tsa.take 1=xs at al2
    cases al2 with
    | nil=>exact ⟨tw,pw,rfl,(s5.trans s6) _ _ htw,.inr rfl⟩
    | cons h _ =>
     obtain ⟨t,u,rfl,_,m,h⟩:=h;exact ⟨t,u.2,rfl,z26 _ _ h,.inl ⟨u,m,rfl⟩⟩
   have hpw6:=hpw.same ((s4.trans s5).trans s6)
   obtain ⟨bp,hbp,iup⟩:∃ bp,IsBox H6 p bp∧InU bp:=by
    rcases hpx with ⟨u,m,rfl⟩ | rfl
    ·obtain ⟨e,he,ee⟩:=g.ec _ mema u m
     obtain ⟨hb,n⟩:=g.eb e he;exact ⟨e.2.1,ee▸hb.same z6,qmi n.six n.low⟩
    ·exact ⟨_,hpw6,qv8⟩
   refine go' _ _ ?_;clear go' N';walk_at "s";refine qw2 (i:=0) (SqL.of (z6 _ _ hhl)) rfl ?_;refine ixT_go (i:=1) (SqT.of (z6 _ _ ht0)) rfl ?_;refine PartR.go ?_;refine qt7 (k:=1) (SqL.of hlq) fun lr nlr=>?_;rw [ex];have s7:=qe nlr (.lst [.ref tx]);have hlr:upd H6 lr (.lst [.ref tx]) lr=some (.lst [.ref tx]):=qb0;generalize upd H6 lr (.lst [.ref tx])=H7 at *;have z7:=z6.trans s7;refine qe5 (SqL.of (z7 _ _ hl0)) (SqL.of hlr) (by show _+1≤_; omega) fun lm nlm=>?_;have s8:=qe nlm (.lst (ts0++[.ref tx]));have hlm:upd H7 lm (.lst (ts0++[.ref tx])) lm=some (.lst (ts0++[.ref tx])):=qb0;generalize upd H7 lm (.lst (ts0++[.ref tx]))=H8 at *;refine TupR.go (by simp) fun tm ntm=>?_;have s9:=qe ntm (.tup [.str "main",.ref lm]);have htm:upd H8 tm (.tup [.str "main",.ref lm]) tm=some (.tup [.str "main",.ref lm]):=qb0;generalize upd H8 tm (.tup [.str "main",.ref lm])=H9 at *;refine LstR.go (by simp) fun ly nly=>?_;have s10:=qe nly (.lst [.ref tm]);have hly:upd H9 ly (.lst [.ref tm]) ly=some (.lst [.ref tm]):=qb0;generalize upd H9 ly (.lst [.ref tm])=H10 at *;have z10:=((z7.trans s8).trans s9).trans s10;refine PartR.go ?_;refine qu7 (k:=1) (SqL.of (z10 _ _ hhl)) fun lz nlz=>?_;have s11:=qe nlz (.lst (List.drop 1 (V.ref t0::V.ref t1::vf)));have hlz:upd H10 lz (.lst (List.drop 1 (V.ref t0::V.ref t1::vf))) lz=some (.lst (V.ref t1::vf)):=qb0;generalize upd H10 lz (.lst (List.drop 1 (V.ref t0::V.ref t1::vf)))=H11 at *;refine qe5 (SqL.of (s11 _ _ hly)) (SqL.of hlz) (by show 1+(_+1)≤_; omega) fun lf nlf=>?_;have s12:=qe nlf (.lst ([.ref tm]++(V.ref t1::vf)));have z12:=(z10.trans s11).trans s12;have z612:=((((s7.trans s8).trans s9).trans s10).trans s11).trans s12
   have nb:NewB (upd H11 lf (.lst ([.ref tm]++(V.ref t1::vf)))) [(pw,wholeU,6)]:=⟨by simp,fun e he=>by
    obtain rfl:=List.mem_singleton.mp he
    exact ⟨hpw6.same z612,qv8,rfl⟩⟩
   have hpe:∃ e∈[(pw,wholeU,6)]++es,e.1=p:=by
    rcases hpx with ⟨u,m,rfl⟩ | rfl
    ·obtain ⟨e,he,ee⟩:=g.ec _ mema u m
     exact ⟨e,List.mem_append_right _ he,ee⟩
    ·exact ⟨_,List.mem_cons_self,rfl⟩
   refine q lf (.ref tm::.ref t1::vf) (us0++[(.word df,p)]) us1 fr [(pw,wholeU,6)] _ z12 qb0 ((g.same z12).end (qvo dfo) nb hpe (.cons ⟨tm,lm,_,rfl,((s10.trans s11).trans s12) _ _ htm,(((s9.trans s10).trans s11).trans s12) _ _ hlm,(All2.imp tal0 fun _ _ r=>r.on z12).snoc (qec (z612 _ _ htx) dfo.1 (hbp.same z612) iup)⟩ (.cons (a1.on z12) (All2.imp af fun _ _ r=>r.on z12)))) (fun c hc=>.inl hc) fun pn F n6 hu fh=>?_;refine wC_end (p:=p) ?_ (fun x nx=>?_) (fun x n hn=>?_) 2
   ·rw [qv9 zm,qv9 zm,if_pos rfl,if_pos rfl]
   ·rw [qv9 zm,qv9 zm,if_neg nx,if_neg nx]
   ·rcases (g.rank zn zm x n hn).1 with rfl | h
    ·exact zm
    ·obtain ⟨c,hc,rfl⟩:=List.mem_map.mp h
     exact fun e=>(g.fn c hc).2 (by rw [e]; exact qwa)
  ·walk_at "s"
   exact rest c3 _
 intro c3 y6;refine go _ _ ?_;clear go N;refine qc1 fun N go=>?_;have nla:tsa.length=usa.length:=All2.len tala
 suffices rest:0<usa.length→N [some (.str df),some (.ref hl),some (.int c),some (.str fz),some (.int (a:Int)),some (.ref la),y6,none,none,none] H by
  walk_at "s";refine LenR.lst (SqL.of hla) ?_;walk_at "s";refine BrS.dec (fun e0=>?_) (fun e0=>?_)
  ·walk_at "s"
   exact q hl _ us0 us1 fr [] H (Same.refl _) hhl g.more (fun c hc=>.inl hc) fun _ _ _ _ _=>rfl
  ·walk_at "s"
   exact rest (by omega)
 intro lpos;refine go _ _ ?_;clear go N;refine qc1 fun N go=>?_;walk_at "s";refine ⟨⟨by decide,by decide⟩,?_⟩;refine LenR.lst (SqL.of hla) ?_;rw [nla];walk_at "s";have k0:=Int.emod_nonneg (c / 10) (show ((usa.length:Nat):Int)≠0 by omega);have k1:=Int.emod_lt_of_pos (c / 10) (show 0<((usa.length:Nat):Int) by omega);obtain ⟨k,ek⟩:=Int.eq_ofNat_of_zero_le k0;have ek:c / 10 % ((usa.length:Nat):Int)=(k:Int):=ek;refine ⟨by omega,?_⟩;rw [ek]
 have kl:k<usa.length:=by omega
 refine go _ _ ?_;clear go N;have eu:=List.getElem?_eq_getElem kl;generalize usa[k]=u at *;obtain ⟨tu,etu,htu,uok,hpu,rtu⟩:=RtX.mem tala eu;have iuu:=g.inU mema (List.mem_of_getElem? eu);obtain ⟨r,p⟩:=u;obtain ⟨z0,ez0,_⟩:=qw8 p r
 have isw:z0∈[("pass":Str),"stop"]→r=.word z0:=fun m=>by
  cases r with
  | word w =>
   injection ez0 with e
   injection e with e
   rw [e]
  | back =>
   have e:("back":Str)=z0:=by injection ez0 with e; injection e
   rw [← e] at m;exact absurd m (by decide)
  | call n =>
   have e:("call":Str)=z0:=by injection ez0 with e; injection e
   rw [← e] at m;exact absurd m (by decide)
 have usub:usa.length≤100:=by omega
 have a2:a<2:=by rcases wa with ⟨h,_⟩ | ⟨h,_⟩ <;> omega
 have ret:∀ (J:Hp) (l' lo:Addr) (ms:List V),Same H J→J lo=some (.lst ms)→ms.length≤1→(∀ lf tn J',Same J J'→J' tn=some (.tup [.str na,.ref l'])→J' lf=some (.lst ((V.ref t0::V.ref t1::vf).take a++[.ref tn]++(V.ref t0::V.ref t1::vf).drop (a+1)++ms))→Q (.ref lf) J')→PartR (.int (a:Int)) J fun u J=>rSlL K (.ref hl) none u J fun x J=>rIxL K (.ref hl) (.int (a:Int)) J fun y J=>rIxT K y (.int 0) J fun y J=>TupR [y,.ref l'] J fun y J=>LstR [y] J fun y J=>qrf K x y J fun x J=>PartR (.int ((a:Int)+1)) J fun u J=>rSlL K (.ref hl) u none J fun y J=>qrf K x y J fun x J=>qrf K x (.ref lo) J Q:=fun J l' lo ms sJ hlo ml k'=>by
  refine PartR.go ?_;refine qt7 (SqL.of (sJ _ _ hhl)) fun l1 nl1=>?_;have s1:=qe nl1 (.lst ((V.ref t0::V.ref t1::vf).take a));have h1:upd J l1 (.lst ((V.ref t0::V.ref t1::vf).take a)) l1=some (.lst ((V.ref t0::V.ref t1::vf).take a)):=qb0;generalize upd J l1 (.lst ((V.ref t0::V.ref t1::vf).take a))=J1 at *;refine qw2 (SqL.of ((sJ.trans s1) _ _ hhl)) eta ?_;refine ixT_go (i:=0) (SqT.of ((sJ.trans s1) _ _ hta)) rfl ?_;refine TupR.go (by simp) fun tn ntn=>?_;have s2:=qe ntn (.tup [.str na,.ref l']);have h2:upd J1 tn (.tup [.str na,.ref l']) tn=some (.tup [.str na,.ref l']):=qb0;generalize upd J1 tn (.tup [.str na,.ref l'])=J2 at *;refine LstR.go (by simp) fun l3 nl3=>?_;have s3:=qe nl3 (.lst [.ref tn]);have h3:upd J2 l3 (.lst [.ref tn]) l3=some (.lst [.ref tn]):=qb0;generalize upd J2 l3 (.lst [.ref tn])=J3 at *;refine qe5 (SqL.of ((s2.trans s3) _ _ h1)) (SqL.of h3) (by rw [List.length_take]; show _+1≤_; omega) fun l4 nl4=>?_;have s4:=qe nl4 (.lst ((V.ref t0::V.ref t1::vf).take a++[.ref tn]));have h4:upd J3 l4 (.lst ((V.ref t0::V.ref t1::vf).take a++[.ref tn])) l4=some (.lst ((V.ref t0::V.ref t1::vf).take a++[.ref tn])):=qb0;generalize upd J3 l4 (.lst ((V.ref t0::V.ref t1::vf).take a++[.ref tn]))=J4 at *;have z4:=((s1.trans s2).trans s3).trans s4;refine PartR.go ?_;refine qu7 (k:=a+1) (SqL.of ((sJ.trans z4) _ _ hhl)) fun l5 nl5=>?_;have s5:=qe nl5 (.lst ((V.ref t0::V.ref t1::vf).drop (a+1)));have h5:upd J4 l5 (.lst ((V.ref t0::V.ref t1::vf).drop (a+1))) l5=some (.lst ((V.ref t0::V.ref t1::vf).drop (a+1))):=qb0;generalize upd J4 l5 (.lst ((V.ref t0::V.ref t1::vf).drop (a+1)))=J5 at *
  have lh:(V.ref t0::V.ref t1::vf).length≤5:=by
   show vf.length+1+1≤5;omega
  refine qe5 (SqL.of (s5 _ _ h4)) (SqL.of h5) (by rw [List.length_append,List.length_take,List.length_drop]; show _+1+_≤_; omega) fun l6 nl6=>?_;have s6:=qe nl6 (.lst ((V.ref t0::V.ref t1::vf).take a++[.ref tn]++(V.ref t0::V.ref t1::vf).drop (a+1)));have h6:upd J5 l6 (.lst ((V.ref t0::V.ref t1::vf).take a++[.ref tn]++(V.ref t0::V.ref t1::vf).drop (a+1))) l6=some (.lst ((V.ref t0::V.ref t1::vf).take a++[.ref tn]++(V.ref t0::V.ref t1::vf).drop (a+1))):=qb0;generalize upd J5 l6 (.lst ((V.ref t0::V.ref t1::vf).take a++[.ref tn]++(V.ref t0::V.ref t1::vf).drop (a+1)))=J6 at *;have z6:=(z4.trans s5).trans s6;refine qe5 (SqL.of h6) (SqL.of (z6 _ _ hlo)) (by rw [List.length_append,List.length_append,List.length_take,List.length_drop]; show _+1+_+_≤_; omega) fun l7 nl7=>?_;have s7:=qe nl7 (.lst ((V.ref t0::V.ref t1::vf).take a++[.ref tn]++(V.ref t0::V.ref t1::vf).drop (a+1)++ms));exact k' l7 tn _ (z6.trans s7) (((((s3.trans s4).trans s5).trans s6).trans s7) _ _ h2) qb0
 refine qc1 fun N go=>?_;walk_at "s";refine ⟨by decide,⟨by decide,by decide⟩,?_⟩;refine ⟨la,k,_,_,fz,tsa,usa,rfl,hla,tala,fun u hu=>g.inU mema hu,kl,usub,Nat.le_trans fzk.2 (by decide),fzk.1,fun l' ts' us' new H1 s1 hl' tal' nb like w4=>?_,fun l' ts' p' w' H1 s1 c4 eu' hw' hl' tal'=>?_⟩
 ·refine go _ _ ?_
  clear go N;refine qc1 fun N go=>?_;walk_at "s";refine LstR.go (by simp) fun lo nlo=>?_;have s2:=qe nlo (.lst []);have hlo:upd H1 lo (.lst []) lo=some (.lst []):=qb0;generalize upd H1 lo (.lst [])=H2 at *;have z2:=s1.trans s2;refine go _ _ ?_;clear go N;refine qc1 fun N go=>?_
  suffices rest:∀ J,Same H2 J→N [some (.str df),some (.ref hl),some (.int c),some (.str fz),some (.int (a:Int)),some (.ref la),y6,some (.int (k:Int)),some (.ref l'),some (.ref lo)] J by
   walk_at "s";refine ⟨by decide,?_⟩;refine BrA.dec (fun c4=>?_) (fun c4=>?_)
   ·walk_at "s"
    refine qw2 (SqL.of (z2 _ _ hla)) etu ?_;refine ixT_go (i:=0) (SqT.of (z2 _ _ htu)) ez0 ?_;refine TupR.go (by simp) fun tt ntt=>?_;have s3:=qe ntt (.tup [.str "pass",.str "stop"]);have htt:upd H2 tt (.tup [.str "pass",.str "stop"]) tt=some (.tup ([("pass":Str),"stop"].map V.str)):=qb0;generalize upd H2 tt (.tup [.str "pass",.str "stop"])=H3 at *;refine qls htt ?_;have nm:z0∉[("pass":Str),"stop"]:=fun m=>w4 c4 _ eu z0 (isw m) (by simpa using m);rw [decide_eq_false nm];walk_at "s";exact rest _ s3
   ·walk_at "s"
    exact rest _ (Same.refl _)
  intro J sJ;refine go _ _ ?_;clear go N;walk_at "s";have zJ:=z2.trans sJ;refine ret J l' lo [] zJ (sJ _ _ hlo) (by simp) fun lf tn J' sJ' htn hlf=>?_;have z1:=(s2.trans sJ).trans sJ';have zz:=s1.trans z1;have like':Like J' usa us' new:=⟨like.len,like.kind,like.box,fun pn F n6 fh sub=>like.word pn F n6 (fh.back z1) sub⟩;have hx:∀ nm:Str,na=nm→HaX J' (bxH J') (.ref tn) (nm,us'):=fun nm e=>⟨tn,l',ts',rfl,e▸htn,z1 _ _ hl',All2.imp tal' fun _ _ r=>r.on z1⟩
  rcases wa with ⟨rfl,e1,rfl⟩ | ⟨rfl,e1,rfl⟩
  ·refine q lf (.ref tn::.ref t1::vf) us' us1 fr new J' zz (by simpa using hlf) ((g.same zz).upd0 like' (nb.same z1) (.cons (hx _ e1) (.cons (a1.on zz) (All2.imp af fun _ _ r=>r.on zz)))) (fun c hc=>.inl hc) fun pn F n6 hu fh=>?_
   rw [word0 zm (fun sub=>like'.word pn F n6 fh sub)]
  ·refine q lf (.ref t0::.ref tn::vf) us0 us' fr new J' zz (by simpa using hlf) ((g.same zz).upd1 like' (nb.same z1) (.cons (a0.on zz) (.cons (hx _ e1) (All2.imp af fun _ _ r=>r.on zz)))) (fun c hc=>.inl hc) fun pn F n6 hu fh=>?_
   rw [word1 zm (fun sub=>like'.word pn F n6 fh sub)]
 ·rw [eu] at eu'
  cases eu'
  obtain rfl:w'=z0:=by
   injection ez0 with e
   injection e
  have mz:w'∈[("pass":Str),"stop"]:=by simpa using hw'
  refine go _ _ ?_;clear go N;refine qc1 fun N go=>?_;walk_at "s";refine LstR.go (by simp) fun lo nlo=>?_;have s2:=qe nlo (.lst []);generalize upd H1 lo (.lst [])=H2 at *;have z2:=s1.trans s2;refine go _ _ ?_;clear go N;refine qc1 fun N go=>?_;walk_at "s";refine ⟨by decide,?_⟩;rw [decide_eq_true c4];walk_at "s";refine qw2 (SqL.of (z2 _ _ hla)) etu ?_;refine ixT_go (i:=0) (SqT.of (z2 _ _ htu)) ez0 ?_;refine TupR.go (by simp) fun tt ntt=>?_;have s3:=qe ntt (.tup [.str "pass",.str "stop"]);have htt:upd H2 tt (.tup [.str "pass",.str "stop"]) tt=some (.tup ([("pass":Str),"stop"].map V.str)):=qb0;generalize upd H2 tt (.tup [.str "pass",.str "stop"])=H3 at *;have z3:=z2.trans s3;refine qls htt ?_;rw [decide_eq_true mz];walk_at "s";refine qw2 (SqL.of (z3 _ _ hla)) etu ?_;refine ixT_go (i:=0) (SqT.of (z3 _ _ htu)) ez0 ?_;refine ⟨rfl,fun pw H4 s4 hpw=>?_⟩;refine TupR.go (by simp) fun t5 nt5=>?_;have s5:=qe nt5 (.tup [.str w',.ref pw]);have ht5:upd H4 t5 (.tup [.str w',.ref pw]) t5=some (.tup (Rl.told pw (.word w'))):=qb0;generalize upd H4 t5 (.tup [.str w',.ref pw])=H5 at *;refine LstR.go (by simp) fun l6 nl6=>?_;have s6:=qe nl6 (.lst [.ref t5]);have hl6:upd H5 l6 (.lst [.ref t5]) l6=some (.lst [.ref t5]):=qb0;generalize upd H5 l6 (.lst [.ref t5])=H6 at *;refine TupR.go (by simp) fun t7 nt7=>?_;have s7:=qe nt7 (.tup [.str fz,.ref l6]);have ht7:upd H6 t7 (.tup [.str fz,.ref l6]) t7=some (.tup [.str fz,.ref l6]):=qb0;generalize upd H6 t7 (.tup [.str fz,.ref l6])=H7 at *;refine LstR.go (by simp) fun l8 nl8=>?_;have s8:=qe nl8 (.lst [.ref t7]);have hl8:upd H7 l8 (.lst [.ref t7]) l8=some (.lst [.ref t7]):=qb0;generalize upd H7 l8 (.lst [.ref t7])=H8 at *;refine go _ _ ?_;clear go N;walk_at "s";have z48:=((s5.trans s6).trans s7).trans s8;have z38:=s4.trans z48;refine ret H8 l' l8 [.ref t7] (z3.trans z38) hl8 (by simp) fun lf tn J' sJ' htn hlf=>?_;have z1:=((s2.trans s3).trans z38).trans sJ';have zz:=s1.trans z1
  have wne:w'≠"":=by
   rcases hw' with rfl | rfl
   ·exact qvo qqe
   ·exact qvo qpe
  have hpw':=hpw.same (z48.trans sJ');have hx:∀ nm:Str,na=nm→HaX J' (bxH J') (.ref tn) (nm,usa.take k++(.call fz,p)::usa.drop (k+1)):=fun nm e=>⟨tn,l',ts',rfl,e▸htn,z1 _ _ hl',All2.imp tal' fun _ _ r=>r.on z1⟩;have hy:HaX J' (bxH J') (.ref t7) (fz,[(.word w',pw)]):=⟨t7,l6,[.ref t5],rfl,(s8.trans sJ') _ _ ht7,((s7.trans s8).trans sJ') _ _ hl6,.cons (qec (((s6.trans s7).trans (s8.trans sJ')) _ _ ht5) uok hpw' qv8) .nil⟩;have hq:∀ (pn:List Int) (F:Addr→Bool),qr0 wholeU pn=true→FH J' pn F→F pw=true:=fun pn F hu fh=>(fh _ _ hpw').trans hu;have es':=qrl eu
  have mm:∀ u∈usa.take k++(.call fz,p)::usa.drop (k+1),(∃ p,u=(.call fz,p)∧∃ u0∈usa,u0.2=p)∨u∈usa:=fun u hu=>by
   rcases own_mem hu with rfl | h
   ·exact .inl ⟨p,rfl,_,List.mem_of_getElem? eu,rfl⟩
   ·exact .inr h
  have le:=own_len (u':=((.call fz,p):Ru)) kl
  have frs:∀ c∈fr++[(fz,[((.word w',pw):Ru)])],c∈fr∨c.1=fz:=fun c hc=>by
   rcases List.mem_append.mp hc with h | h
   ·exact .inl h
   ·obtain rfl:=List.mem_singleton.mp h
    exact .inr rfl
  have af':All2 (HaX J' (bxH J')) (vf++[.ref t7]) (fr++[(fz,[(.word w',pw)])]):=(All2.imp af fun _ _ r=>r.on zz).snoc hy
  rcases wa with ⟨rfl,e1,rfl⟩ | ⟨rfl,e1,rfl⟩
  ·refine q lf (.ref tn::.ref t1::(vf++[.ref t7])) _ us1 _ [(pw,wholeU,6)] J' zz (by simpa using hlf) ((g.same zz).own ⟨fzk,fzn⟩ nf wne hpw' (Nat.le_of_eq le) (Nat.le_refl _) mm (fun u hu=>.inr hu) (.cons (hx _ e1) (.cons (a1.on zz) af'))) frs fun pn F n6 hu fh=>?_
   rw [g.wown zn zm fzn nf (hq pn F hu fh) (.inr ⟨_,_,_,es'.symm,rfl⟩) (.inl rfl)]
  ·refine q lf (.ref t0::.ref tn::(vf++[.ref t7])) us0 _ _ [(pw,wholeU,6)] J' zz (by simpa using hlf) ((g.same zz).own ⟨fzk,fzn⟩ nf wne hpw' (Nat.le_refl _) (Nat.le_of_eq le) (fun u hu=>.inr hu) mm (.cons (a0.on zz) (.cons (hx _ e1) af'))) frs fun pn F n6 hu fh=>?_
   rw [g.wown zn zm fzn nf (hq pn F hu fh) (.inl rfl) (.inr ⟨_,_,_,es'.symm,rfl⟩)]
section
variable {j:Nat}{H H':Hp}{z:Str}{hs hs':List V}{us0 us1 us0' us1':List Ru}{fr:Chs}{es new:List Bxn}
theorem S4.three (g:S4 j H z hs us0 us1 fr es)(h:j≤2):S4 3 H z hs us0 us1 fr es:=⟨g.al,by have:=g.l0; omega,by have:=g.l1; omega,by have:=g.lf; omega,g.fw,g.fn,g.fd,g.c0,g.c1,g.wd,Nat.le_trans g.ws (Nat.mul_le_mul (Nat.le_refl _) (Nat.pow_le_pow_right (by decide) (by omega))),g.eb,g.ec⟩
theorem gen4 (g:S4 3 H z hs us0 us1 fr es)(h1:us1.length≤6)(hf:fr.length≤2)(hw:qo8 es≤16708185)(zo:NmOk z)(zn:NoZ z)(zm:z≠"main"):Gen H hs (csOf z us0 us1 fr) (bxH H) (qg3 z):=by
 have fn:∀ n:Str,n∈fr.map (·.1)→n≠"main"∧n≠z:=fun n hn=>by
  obtain ⟨c,hc,rfl⟩:=List.mem_map.mp hn;have:=(g.fn c hc).2;exact ⟨fun e=>this (by rw [e]; exact qwa),fun e=>this (by rw [e]; exact zn)⟩
 have nd:((csOf z us0 us1 fr).map (·.1)).Nodup:=by
  show (("main":Str)::z::fr.map (·.1)).Nodup;rw [List.nodup_cons,List.nodup_cons];refine ⟨fun h=>?_,fun h=>(fn z h).2 rfl,g.fd⟩
  rcases List.mem_cons.mp h with h | h
  ·exact zm h.symm
  ·exact (fn _ h).1 rfl
 have names:∀ n,n=z∨n∈fr.map (·.1)→n∈(csOf z us0 us1 fr).map (·.1):=fun n h=>by
  rcases h with rfl | h
  ·exact List.mem_cons_of_mem _ List.mem_cons_self
  ·exact List.mem_cons_of_mem _ (List.mem_cons_of_mem _ h)
 refine ⟨g.al,nd,fun c hc=>?_,⟨us0,rfl⟩,?_,fun c hc n hn=>?_,fun c hc=>?_,fun c hc=>?_,⟨es,hw,fun e he=>⟨qf8 (g.eb e he).1,(g.eb e he).2⟩,g.ec⟩,fun c hc u hu w ew=>?_⟩
 ·rcases List.mem_cons.mp hc with rfl | hc
  ·exact (show NmOk "main" from ⟨by decide +kernel,by decide⟩)
  ·rcases List.mem_cons.mp hc with rfl | hc
   ·exact zo
   ·exact (g.fn c hc).1
 ·show fr.length+1+1≤4
  omega
 ·rw [← qo7 nd hc] at hn
  obtain ⟨a,b⟩:=g.rank zn zm c.1 n hn;exact ⟨names n a,b⟩
 ·show (if c.1="main" then 2 else if c.1=z then 1 else 0)≤2
  split
  ·decide
  ·split <;> decide
 ·have rx:qg3 z c.1=if c.1="main" then 2 else if c.1=z then 1 else 0:=rfl
  rcases List.mem_cons.mp hc with rfl | hc
  ·rw [if_pos rfl] at rx
   rw [rx];show us0.length≤7;have:=g.l0;omega
  ·rcases List.mem_cons.mp hc with rfl | hc
   ·rw [if_neg zm,if_pos rfl] at rx
    rw [rx];exact h1
   ·obtain ⟨n1,n2⟩:=fn c.1 (List.mem_map_of_mem hc)
    rw [if_neg n1,if_neg n2] at rx;rw [rx];obtain ⟨w,p,e,_⟩:=g.fw c hc;rw [e];exact Nat.le_refl 1
 ·rcases List.mem_cons.mp hc with rfl | hc
  ·exact g.wd u (List.mem_append_left _ hu) w ew
  ·rcases List.mem_cons.mp hc with rfl | hc
   ·exact g.wd u (List.mem_append_right _ hu) w ew
   ·obtain ⟨w',p,e,wn⟩:=g.fw c hc
    rw [e] at hu;obtain rfl:=List.mem_singleton.mp hu;cases ew;exact wn
theorem S4.gen (g:S4 j H z hs us0 us1 fr es)(j2:j≤2)(zo:NmOk z)(zn:NoZ z)(zm:z≠"main"):Gen H hs (csOf z us0 us1 fr) (bxH H) (qg3 z):=by
 refine gen4 (g.three j2) (by have:=g.l1; omega) (by have:=g.lf; omega) (Nat.le_trans g.ws ?_) zo zn zm;exact Nat.le_trans (Nat.mul_le_mul (Nat.le_refl 45) (Nat.pow_le_pow_right (by decide) j2)) (by decide)
theorem S4.spo (g:S4 j H z hs us0 us1 fr es)(j2:j≤2)(zo:NmOk z)(zn:NoZ z)(zm:z≠"main"){t:Str}{pt:Addr}{bp:Bsx}(tn:t≠"")(hp:IsBox H pt bp)(iu:InU bp)(al:All2 (HaX H (bxH H)) hs' (csOf z ((.word t,pt)::us0) us1 fr)):Gen H hs' (csOf z ((.word t,pt)::us0) us1 fr) (bxH H) (qg3 z)∧∀ cs:Chs,(∀ c∈cs,∀ u∈c.2,∃ e∈es,e.1=u.2)→GWts (cs++csOf z ((.word t,pt)::us0) us1 fr) (bxH H):=by
 have pr:qo8 ((pt,bp,6)::es)≤16708185:=by
  show (1+2 * 6) * qo8 es≤_;have:qo8 es≤45 * 169 ^ 2:=Nat.le_trans g.ws (Nat.mul_le_mul (Nat.le_refl 45) (Nat.pow_le_pow_right (by decide) j2))
  have e:45 * 169 ^ 2=1285245:=by decide
  omega
 have eb:∀ e∈(pt,bp,6)::es,IsBox H e.1 e.2.1∧Nar e.2.2 e.2.1:=fun e he=>by
  rcases List.mem_cons.mp he with rfl | he
  ·exact ⟨hp,iu⟩
  ·exact g.eb e he
 have ec:∀ c∈csOf z ((.word t,pt)::us0) us1 fr,∀ u∈c.2,∃ e∈(pt,bp,6)::es,e.1=u.2:=fun c hc u hu=>by
  have old:∀ c∈csOf z us0 us1 fr,u∈c.2→∃ e∈(pt,bp,6)::es,e.1=u.2:=fun c hc hu=>by
   obtain ⟨e,he,ee⟩:=g.ec c hc u hu;exact ⟨e,List.mem_cons_of_mem _ he,ee⟩
  rcases List.mem_cons.mp hc with rfl | hc
  ·rcases List.mem_cons.mp hu with rfl | hu
   ·exact ⟨_,List.mem_cons_self,rfl⟩
   ·exact old _ List.mem_cons_self hu
  ·exact old c (List.mem_cons_of_mem _ hc) hu
 have g3:=g.three j2;refine ⟨gen4 (es:=(pt,bp,6)::es) ⟨al,by have:=g.l0; show _+1≤_; omega,g3.l1,g3.lf,g.fw,g.fn,g.fd,g.c0,g.c1,fun u hu w ew=>?_,Nat.le_trans pr (by decide),eb,ec⟩ (by have:=g.l1; omega) (by have:=g.lf; omega) pr zo zn zm,fun cs hcs=>⟨_,pr,fun e he=>⟨qf8 (eb e he).1,(eb e he).2⟩,fun c hc u hu=>?_⟩⟩
 ·rcases List.mem_cons.mp hu with rfl | hu
  ·cases ew
   exact tn
  ·exact g.wd u hu w ew
 ·rcases List.mem_append.mp hc with hc | hc
  ·obtain ⟨e,he,ee⟩:=hcs c hc u hu
   exact ⟨e,List.mem_cons_of_mem _ he,ee⟩
  ·exact ec c hc u hu
end
theorem qwo {F:Addr→Bool}{sub:Str→Option Str}(hs:∀ n w,sub n=some w→Pw w):∀ {us:List Ru} {w:Str},(∀ u∈us,∀ w,u.1=.word w→Pw w)→wGo F sub us=some w→Pw w
 | [],w,_,e=>by cases e
 | u::us,w,h,e=>by
  have ih:=fun e=>qwo (F:=F) hs (us:=us) (w:=w) (fun u hu=>h u (List.mem_cons_of_mem _ hu)) e;rw [wGo] at e
  split at e
  ·split at e
   ·rename_i w' ew
    cases e;exact h u List.mem_cons_self _ ew
   ·cases e
   ·rename_i n en
    split at e
    ·rename_i w' ew
     cases e;exact hs n _ ew
    ·exact ih e
  ·exact ih e
theorem qol {F:Addr→Bool}{cs:Chs}(h:∀ c∈cs,∀ u∈c.2,∀ w,u.1=.word w→Pw w):∀ (d:Nat) (z w:Str),wC F cs d z=some w→Pw w
 | 0,_,_,e=>by cases e
 | d+1,z,w,e=>by
  rw [qr4] at e;refine qwo (fun n w e=>qol h d n w e) (fun u hu w ew=>?_) e;unfold chOf at hu
  cases hl:cs.lookup z with
  | none =>
   rw [hl] at hu;cases hu
  | some us =>
   rw [hl] at hu;exact h _ (qs6 hl) u hu w ew
theorem wGo_F {F:Addr→Bool}{sub:Str→Option Str}(hs:∀ n,sub n=sub' n):∀ {us:List Ru},(∀ u∈us,F u.2=F' u.2)→wGo F sub us=wGo F' sub' us
 | [],_=>rfl
 | u::us,h=>by
  rw [wGo,wGo,wGo_F hs fun u hu=>h u (List.mem_cons_of_mem _ hu),h u List.mem_cons_self];simp only [hs]
theorem wC_F {F:Addr→Bool}{cs:Chs}(h:∀ c∈cs,∀ u∈c.2,F u.2=F' u.2):∀ (d:Nat) (z:Str),wC F cs d z=wC F' cs d z
 | 0,_=>rfl
 | d+1,z=>by
  rw [qr4,qr4];refine wGo_F (fun n=>wC_F h d n) fun u hu=>?_;unfold chOf at hu
  cases hl:cs.lookup z with
  | none =>
   rw [hl] at hu;cases hu
  | some us =>
   rw [hl] at hu;exact h _ (qs6 hl) u hu
theorem Gen.rdIn {H:Hp}{hs:List V}{cs:Chs}{bx:Addr→Bsx}{rank:Str→Nat}(g:Gen H hs cs bx rank){hl sn pq:Addr}{pn:List Int}(hhl:H hl=some (.lst hs))(nsn:H sn=none)(hpq:IsPt H pq pn)(n6:pn.length=6):RdIn sn (upd H sn (.lst [])) hl pq hs cs bx rank pn []:=by
 have s1:=qe nsn (.lst []);refine ⟨qz hhl nsn,s1 _ _ hhl,All2.imp g.al fun _ _ r=>?_,g.nd,g.rk,g.wd,g.lim,hpq.same s1,n6,qb0⟩;obtain ⟨t,l,ts,e,h1,h2,h3⟩:=r;exact ⟨t,l,ts,e,s1 _ _ h1,qz h2 nsn,s1 _ _ h2,All2.imp h3 fun _ _ r=>r.same s1⟩
theorem Gen.main3 {H:Hp}{hs:List V}{cs:Chs}{bx:Addr→Bsx}{rank:Str→Nat}(g:Gen H hs cs bx rank):rank "main"<3:=by
 obtain ⟨us0,em⟩:=g.main;exact Nat.lt_succ_of_le (g.r2 _ (List.mem_of_getElem? em))
def ptB (pn:List Int):Bsx:=pn.map fun n=>(n,n)
theorem ptB_in {pn qn:List Int}(h:qn.length=pn.length):qr0 (ptB pn) qn=true↔qn=pn:=by
 constructor
 ·intro hb
  refine List.ext_getElem? fun i=>?_
  by_cases l:i<pn.length
  ·have e1:=List.getElem?_eq_getElem l
   have e2:=List.getElem?_eq_getElem (show i<qn.length by omega);have:=qn4 hb (show (ptB pn)[i]?=some (pn[i],pn[i]) by unfold ptB; rw [List.getElem?_map,e1]; rfl) e2;unfold qw at this;rw [Bool.and_eq_true,decide_eq_true_eq,decide_eq_true_eq] at this;rw [e1,e2]
   congr 1
   omega
  ·rw [List.getElem?_eq_none (by omega),List.getElem?_eq_none (by omega)]
 ·rintro rfl
  refine qe2 fun i b n e1 e2=>?_;unfold ptB at e1;rw [List.getElem?_map,e2] at e1;cases e1;unfold qw;rw [decide_eq_true (Int.le_refl _)];rfl
theorem qmq {pn:List Int}(n6:pn.length=6)(hu:qr0 wholeU pn=true):InU (ptB pn):=qmi (by unfold ptB; rw [List.length_map]; exact n6) fun i b t eb et=>by
 unfold ptB at eb;rw [List.getElem?_map] at eb;obtain ⟨n,en,rfl⟩:=Option.map_eq_some_iff.mp eb;have:=qn4 hu (qx6 et) en;unfold qw at this;rw [Bool.and_eq_true,decide_eq_true_eq,decide_eq_true_eq] at this;exact ⟨this.1,Int.le_refl _,this.2⟩
theorem qzo {z:Str}(h:WdOk z):qh8 z≠z∧qh8 z≠""∧(Rl.word (qh8 z)).ok:=by
 rcases h.2 with rfl | rfl
 ·exact ⟨by decide,by decide,qpe.1⟩
 ·exact ⟨by decide,by decide,qqe.1⟩
theorem qyl {H:Hp}:∀ {pn:List Int} {vs:List V},All2 (fun x v=>∃ t,v=V.ref t∧t≠D∧∃ n:Int,x=V.int n∧H t=some (.tup [.int n,.int n])) (pn.map V.int) vs→Strs H vs (ptB pn)
 | [],_,h=>by
  cases h;exact .nil
 | n::pn,_,h=>by
  rw [List.map_cons] at h
  cases h with
  | cons h1 h2 =>
   obtain ⟨t,rfl,_,m,e,ht⟩:=h1
   injection e with e
   subst e;exact .cons ht (qyl h2)
def qoj:Sp:=fun vs H Q _=>∃ (hl dl pq:Addr) (df:Str) (j:Nat) (z:Str) (hs ds:List V) (cs:Chs) (rank:Str→Nat) (us0 us1:List Ru) (fr:Chs) (es:List Bxn) (pn:List Int),vs=[.str df,.ref hl,.ref dl,.ref pq]∧H hl=some (.lst hs)∧Gen H hs cs (bxH H) rank∧(∀ c∈cs,∀ u∈c.2,∀ w,u.1=.word w→WdOk w)∧H dl=some (.lst ds)∧S4 j H z ds us0 us1 fr es∧j≤2∧WdOk df∧IsPt H pq pn∧pn.length=6∧qr0 wholeU pn=true ∧
 ∀ dl' ds' pt H',Same H H'→H' dl'=some (.lst ds')→IsBox H' pt (ptB pn)→All2 (HaX H' (bxH H')) ds' (csOf z ((.word (qh8 (qm1 cs (bxH H) df pn)),pt)::us0) us1 fr)→WdOk (qm1 cs (bxH H) df pn)→Q (.ref dl') H'
theorem qjv (F:Fun K "_law_spoiled" "_law_spoiled" qs2 f fd)(g__law_read:Fn P w K mg base "_law_read" 5 ["_law_chains_here","_law_name_here","_law_parcel_here","_law_seen"] (spRd 3))(g__law_turned:Fn P w K mg base "_law_turned" 1 ["_law_word"] qbf)(b_tuple:mg "tuple"=none):FnOk P w K mg base CX0 6 f fd ["_law_default","_law_chains_here","_law_turned_here","_law_parcel_here"] qoj:=by
 refine F.ok qf4 (by walk_at "l") (fun cdv A outer s H vs Q E hr h=>?_);obtain ⟨hl,dl,pq,df,j,z,hs,ds,cs,rank,us0,us1,fr,es,pn,rfl,hhl,g,wo,hdl,t4,j2,dfo,hpq,n6,hu,q⟩:=h;have al:=t4.al;unfold csOf at al
 cases al with
 | @cons v0 _ ds1 _ a0 al =>
 obtain ⟨t0,l0,ts0,rfl,ht0,hl0,tal0⟩:=id a0;have n0:ts0.length=us0.length:=All2.len tal0;have b0:=t4.l0
 have nds:ds1.length≤4:=by
  have:=All2.len al;have:=t4.lf;rw [‹ds1.length=_›];show fr.length+1≤4;omega
 have wok:WdOk (qm1 cs (bxH H) df pn):=by
  unfold qm1
  cases eo:(rdC (fun p=>qr0 (bxH H p) pn) cs 3 "main").2 with
  | none=>exact dfo
  | some w=>exact qol wo 3 "main" w eo
 have rne:=fun w e=>qhq (F:=fun p=>qr0 (bxH H p) pn) g.wd 3 "main" w e;obtain ⟨tn1,tn2,tok⟩:=qzo wok;refine ⟨_,(qc (qi (i:=4) qf4.nd rfl (Or.inl rfl) (qf1 g__law_read hr (by omega) rfl (qa (pv 1) (qa qq1 (qa (pv 3) (qa (qe1 qd) qd)))))) (qc (ql1 (qk qq4 (pv 4) qq1 (qs0 _)) (qg (qi (i:=4) qf4.nd rfl (Or.inl rfl) (pv 0))) qn0) (qc (qi (i:=5) qf4.nd rfl (Or.inl rfl) (qv0 (qa (qf1 g__law_turned hr (by decide) rfl (qa (pv 4) qd)) (qa (qm4 qw4 rfl b_tuple qv6 (qa (qa6 (T:=["_law_number"]) (cap:=[]) rfl (COk.of (out:=qh qs2) (N:=["_law_default","_law_chains_here","_law_turned_here","_law_parcel_here","_law_word","_law_rule_here"]) rfl rfl (by decide +kernel)) (pi_tup (pv 3)) (fun _ _ _=>(qp (i:=0) (show List.Nodup (["_law_number"]:List Str) by decide +kernel) rfl (Or.inl rfl))) (fun _ _ _=>ql4) (fun _ _ _=>(qv0 (qa (pv 0) (qa (pv 0) qd))))) qd)) qd)))) (qg (qm (qj qv2 (qe1 (qa (qv0 (qa qq1 (qa (qj qv2 (qe1 (qa (pv 5) qd)) (qq ql0 (qq qb2 (pv 2) qf (fun _ _=>rfl)) qf (fun _ _=>rfl))) qd))) qd)) (qj1 qs3 (pv 2) (qz1 qf) qa2))))))),?_⟩;rw [qeb];refine qc1 fun N go=>?_;walk_at "s";refine LstR.go (by simp) fun sn nsn=>?_;refine ⟨hl,pq,sn,hs,cs,bxH H,rank,"main",pn,[],rfl,g.rdIn hhl nsn hpq n6,g.main3,by simp,fun vs1 H1 b1 hs1 sal=>?_⟩;have s1:Same H H1:=fun x o e=>b1 x o (qz e nsn) (qe nsn _ _ _ e);refine go _ _ ?_;clear go N;refine qc1 fun N go=>?_
 suffices rest:N [some (.str df),some (.ref hl),some (.ref dl),some (.ref pq),some (.str (qm1 cs (bxH H) df pn)),none] H1 by
  unfold qm1 at rest
  cases eo:(rdC (fun p=>qr0 (bxH H p) pn) cs 3 "main").2 with
  | none =>
   rw [eo] at rest;walk_at "s";show BrS (decide (("":Str)="")) _ _ _ _;rw [decide_eq_true rfl];walk_at "s";exact rest
  | some w0 =>
   rw [eo] at rest;have wn:=rne w0 eo;walk_at "s";show BrS (decide (w0="")) _ _ _ _;rw [decide_eq_false wn];walk_at "s";exact rest
 refine go _ _ ?_;clear go N;refine qc1 fun N go=>?_;walk_at "s";refine ⟨_,rfl,?_⟩;generalize qm1 cs (bxH H) df pn=W at *;refine ItR.go (SqT.of (hpq.same s1)) ?_;refine CmpR.rel (fun D H' x v=>∃ t,v=V.ref t∧t≠D∧∃ n:Int,x=V.int n∧H' t=some (.tup [.int n,.int n])) (fun D H' H'' x v kp r=>?_) itt (by rw [List.length_map]; omega) (fun H' s=>SqT.of ((hpq.same s1).same s)) (fun D x H' ys Q' hx nD s2 hD k=>?_) fun D H2 vs nD s2 hD al2=>?_
 ·obtain ⟨t,e,n,m,e2,h⟩:=r
  exact ⟨t,e,n,m,e2,kp _ _ n h⟩
 ·obtain ⟨n,_,rfl⟩:=List.mem_map.mp hx
  walk_at "s";refine TupR.go (by simp) fun t nt=>?_;refine k _ _ (qe nt _) ⟨t,rfl,fun e=>?_,n,rfl,qb0⟩;rw [e,hD] at nt;cases nt
 have st:=qyl al2;refine TupOf.lst (SqL.of hD) fun pt npt=>?_;have s3:=qe npt (.tup vs);have hpt:IsBox (upd H2 pt (.tup vs)) pt (ptB pn):=⟨vs,qb0,st.same s3⟩;generalize upd H2 pt (.tup vs)=H3 at *;refine TupR.go (by simp) fun tr ntr=>?_;have s4:=qe ntr (.tup [.str (qh8 W),.ref pt]);have htr:upd H3 tr (.tup [.str (qh8 W),.ref pt]) tr=some (.tup (Rl.told pt (.word (qh8 W)))):=qb0;generalize upd H3 tr (.tup [.str (qh8 W),.ref pt])=H4 at *;have z4:=((s1.trans s2).trans s3).trans s4;refine go _ _ ?_;clear go N;walk_at "s";refine LstR.go (by simp) fun l5 nl5=>?_;have s5:=qe nl5 (.lst [.ref tr]);have hl5:upd H4 l5 (.lst [.ref tr]) l5=some (.lst [.ref tr]):=qb0;generalize upd H4 l5 (.lst [.ref tr])=H5 at *;have z5:=z4.trans s5;refine qw2 (i:=0) (SqL.of (z5 _ _ hdl)) rfl ?_;refine ixT_go (i:=1) (SqT.of (z5 _ _ ht0)) rfl ?_;refine qe5 (SqL.of hl5) (SqL.of (z5 _ _ hl0)) (by show 1+_≤_; omega) fun l6 nl6=>?_;have s6:=qe nl6 (.lst ([.ref tr]++ts0));have hl6:upd H5 l6 (.lst ([.ref tr]++ts0)) l6=some (.lst (.ref tr::ts0)):=qb0;generalize upd H5 l6 (.lst ([.ref tr]++ts0))=H6 at *;refine TupR.go (by simp) fun t7 nt7=>?_;have s7:=qe nt7 (.tup [.str "main",.ref l6]);have ht7:upd H6 t7 (.tup [.str "main",.ref l6]) t7=some (.tup [.str "main",.ref l6]):=qb0;generalize upd H6 t7 (.tup [.str "main",.ref l6])=H7 at *;refine LstR.go (by simp) fun l8 nl8=>?_;have s8:=qe nl8 (.lst [.ref t7]);have hl8:upd H7 l8 (.lst [.ref t7]) l8=some (.lst [.ref t7]):=qb0;generalize upd H7 l8 (.lst [.ref t7])=H8 at *;have z58:=(s6.trans s7).trans s8;have z8:=z5.trans z58;refine PartR.go ?_;refine qu7 (k:=1) (SqL.of (z8 _ _ hdl)) fun l9 nl9=>?_;have s9:=qe nl9 (.lst (List.drop 1 (V.ref t0::ds1)));have hl9:upd H8 l9 (.lst (List.drop 1 (V.ref t0::ds1))) l9=some (.lst ds1):=qb0;generalize upd H8 l9 (.lst (List.drop 1 (V.ref t0::ds1)))=H9 at *;refine qe5 (SqL.of (s9 _ _ hl8)) (SqL.of hl9) (by show 1+_≤_; omega) fun lf nlf=>?_;have s10:=qe nlf (.lst ([.ref t7]++ds1));have z10:=(z8.trans s9).trans s10;have z410:=((s5.trans z58).trans s9).trans s10;exact q lf (.ref t7::ds1) pt _ z10 qb0 (hpt.same (s4.trans z410)) (.cons ⟨t7,l6,.ref tr::ts0,rfl,((s8.trans s9).trans s10) _ _ ht7,(((s7.trans s8).trans s9).trans s10) _ _ hl6,.cons (qec (z410 _ _ htr) tok (hpt.same (s4.trans z410)) (qmq n6 hu)) (All2.imp tal0 fun _ _ r=>r.on z10)⟩ (All2.imp al fun _ _ r=>r.on z10)) wok
theorem fold_z:∀ (n:Nat) (b:Array Nat),((List.replicate n (#[122]:Array Nat)).foldl (·++·) b).toList=b.toList++List.replicate n 122
 | 0,b=>by simp
 | n+1,b=>by
  rw [List.replicate_succ,List.foldl_cons,fold_z n,List.replicate_succ,Array.toList_append,List.append_assoc];rfl
theorem mul_z (n:Nat):(Txt.mul "z" (n:Int)).cps.toList=List.replicate n 122:=by
 unfold Txt.mul
 by_cases c:(n:Int)<1
 ·rw [if_pos c,show n=0 by omega]
  rfl
 ·rw [if_neg c]
  by_cases c1:n=1
  ·subst c1
   rfl
  ·rw [if_neg (by
    have e1:((n:Int) == 1)=false:=beq_eq_false_iff_ne.mpr (by omega)
    have e2:(("z":Str).length == 0)=false:=by decide
    rw [e1,e2]
    simp),Int.toNat_natCast]
   exact fold_z n #[]
def Rl.data (bs:Bsx):Rl→PyData
 | .word w=>.tuple [.str w,boxD bs]
 | .back=>.tuple [.str "back",boxD bs]
 | .call n=>.tuple [.str "call",boxD bs,.str n]
theorem qdp {H:Hp}{t:Addr}{bs:Bsx}{r:Rl}(h:H t=some (.tup (r.told p)))(hp:IsBox H p bs):Dt H (.ref t) (r.data bs):=by
 cases r with
 | word w=>exact .tup (.inl h) (.cons (.str w) (.cons hp.dt .nil))
 | back=>exact .tup (.inl h) (.cons (.str _) (.cons hp.dt .nil))
 | call n=>exact .tup (.inl h) (.cons (.str _) (.cons hp.dt (.cons (.str n) .nil)))
theorem told_shaped (bs:Bsx){r:Rl}(ok:r.ok):SeqAt.shaped (r.data bs)=true:=by
 have d:=qs7 bs
 have o1:PyData.strOk "back"=true:=by decide +kernel
 have o2:PyData.strOk "call"=true:=by decide +kernel
 have l:=qya bs;refine qc4 ?_ ?_
 ·cases r with
  | word w=>simp [Rl.data,PyData.canLay0,PyData.canLayAll0,l,ok.2.2.2]
  | back=>simp [Rl.data,PyData.canLay0,PyData.canLayAll0,l,o1]
  | call n=>simp [Rl.data,PyData.canLay0,PyData.canLayAll0,l,o2,ok.2]
 ·cases r <;> simp [Rl.data,PyData.depth,PyData.depthAll] <;> omega
theorem qfu (bs:Bsx)(r:Rl):PyData.eqv (r.data bs) (r.data bs)=true:=by
 have b:=(qot bs bs).mpr rfl
 cases r <;> simp [Rl.data,PyData.eqv,PyData.eqvAll,b]
theorem ru_lay (bs:Bsx){r:Rl}(ok:r.ok):PyData.canLay0 (r.data bs)=true:=by
 have o1:PyData.strOk "back"=true:=by decide +kernel
 have o2:PyData.strOk "call"=true:=by decide +kernel
 have l:=qya bs
 cases r with
 | word w=>simp [Rl.data,PyData.canLay0,PyData.canLayAll0,l,ok.2.2.2]
 | back=>simp [Rl.data,PyData.canLay0,PyData.canLayAll0,l,o1]
 | call n=>simp [Rl.data,PyData.canLay0,PyData.canLayAll0,l,o2,ok.2]
def chD (bx:Addr→Bsx)(c:Str×List Ru):PyData:=.tuple [.str c.1,.list (c.2.map fun u=>u.1.data (bx u.2))]
def bkD (bx:Addr→Bsx)(df:Str)(cs:Chs):PyData:=.tuple [.str df,.list (cs.map (chD bx))]
theorem qii {f:α→PyData}:∀ {l:List α},(∀ x∈l,PyData.canLay0 (f x)=true)→PyData.canLayAll0 (l.map f)=true
 | [],_=>by simp [PyData.canLayAll0]
 | x::l,h=>by
  rw [List.map_cons,PyData.canLayAll0.eq_2,qii fun y hy=>h y (List.mem_cons_of_mem _ hy),h x List.mem_cons_self];rfl
theorem qzk {f:α→PyData}:∀ {l:List α},(∀ x∈l,PyData.eqv (f x) (f x)=true)→PyData.eqvAll (l.map f) (l.map f)=true
 | [],_=>by simp [PyData.eqvAll]
 | x::l,h=>by
  rw [List.map_cons,PyData.eqvAll,h x List.mem_cons_self,qzk fun y hy=>h y (List.mem_cons_of_mem _ hy)];rfl
theorem bk_shaped {bx:Addr→Bsx}{df:Str}{cs:Chs}(hd:PyData.strOk df=true)(hn:∀ c∈cs,PyData.strOk c.1=true)(ok:∀ c∈cs,∀ u∈c.2,u.1.ok):SeqAt.shaped (bkD bx df cs)=true:=by
 have a:PyData.canLayAll0 (cs.map (chD bx))=true:=qii fun c hc=>by
  have:=qii (f:=fun u:Ru=>u.1.data (bx u.2)) (l:=c.2) fun u hu=>ru_lay _ (ok c hc u hu);simp [chD,PyData.canLay0,PyData.canLayAll0,hn c hc,this]
 have b:=qc2 (chD bx) (n:=8) (fun c=>by
  have:=qc2 (fun u:Ru=>u.1.data (bx u.2)) (n:=5) (fun u=>by
   have d:=qs7 (bx u.2)
   cases u.1 <;> simp [Rl.data,PyData.depth,PyData.depthAll] <;> omega) c.2
  simp [chD,PyData.depth,PyData.depthAll]
  omega) cs
 refine qc4 (by simp [bkD,PyData.canLay0,PyData.canLayAll0,hd,a]) ?_;simp only [bkD,PyData.depth,PyData.depthAll];omega
theorem rt_dts {H:Hp}{bx:Addr→Bsx}{us:List Ru}(h:All2 (RtX H bx) ts us):Dts H ts (us.map fun u=>u.1.data (bx u.2)):=by
 induction h with
 | nil=>exact .nil
 | cons h _ ih =>
  obtain ⟨t,rfl,h1,_,h2,_⟩:=h;exact .cons (qdp h1 h2) ih
theorem hax_dts {H:Hp}{bx:Addr→Bsx}{hs:List V}{cs:Chs}(h:All2 (HaX H bx) hs cs):Dts H hs (cs.map (chD bx)):=by
 induction h with
 | nil=>exact .nil
 | cons h _ ih =>
  obtain ⟨t,l,ts,rfl,h1,h2,h3⟩:=h;exact .cons (.tup (.inl h1) (.cons (.str _) (.cons (.lst (.inl h2) (rt_dts h3)) .nil))) ih
theorem fh_bx (H:Hp)(pn:List Int):FH H pn (fun p=>qr0 (bxH H p) pn):=fun p bs hb=>by
 show qr0 (bxH H p) pn=_;rw [qf8 hb]
theorem qsu {H:Hp}{z t df:Str}{us0 us1:List Ru}{fr:Chs}{pt:Addr}{pn c:List Int}(zm:z≠"main")(hp:IsBox H pt (ptB pn))(l:c.length=pn.length):qm1 (csOf z ((.word t,pt)::us0) us1 fr) (bxH H) df c=if c=pn then t else qm1 (csOf z us0 us1 fr) (bxH H) df c:=by
 have fp:qr0 (bxH H pt) c=true↔c=pn:=by
  rw [qf8 hp];exact ptB_in l
 show (wC (fun p=>qr0 (bxH H p) c) (csOf z ((.word t,pt)::us0) us1 fr) 3 "main").getD df=_
 by_cases e:c=pn
 ·rw [if_pos e,qr4,qv9 zm,if_pos rfl,wGo,if_pos (fp.mpr e)]
  rfl
 ·rw [if_neg e,word0 zm (us0:=us0) (fun sub=>?_)]
  ·rfl
  ·rw [wGo,if_neg fun h=>e (fp.mp h)]
section
variable {cs1 cs3:Chs}{bx:Addr→Bsx}{df t:Str}{pn:List Int}
theorem part_pt (two:Two (Gen.rows cs1) (Gen.rows cs3) bx df df)(n6:pn.length=6)(hu:qr0 wholeU pn=true)(h:∀ c:List Int,c.length=6→qr0 wholeU c=true→qm1 cs3 bx df c=if c=pn then t else qm1 cs1 bx df c)(ne:t≠qm1 cs1 bx df pn):qi6 (qh3 (Gen.rows cs1) (Gen.rows cs3) bx df df)=some pn:=by
 cases e:qi6 (qh3 (Gen.rows cs1) (Gen.rows cs3) bx df df) with
 | none =>
  have:=qar two e n6 hu;rw [h pn n6 hu,if_pos rfl] at this;exact absurd this.symm ne
 | some c =>
  obtain ⟨c6,cu,d⟩:=qlc two e
  by_cases ec:c=pn
  ·rw [ec]
  ·rw [h c c6 cu,if_neg ec] at d
   exact absurd rfl d
theorem qev (two:Two (Gen.rows cs3) (Gen.rows cs1) bx df df)(n6:pn.length=6)(hu:qr0 wholeU pn=true)(h:∀ c:List Int,c.length=6→qr0 wholeU c=true→qm1 cs3 bx df c=if c=pn then t else qm1 cs1 bx df c)(ne:t≠qm1 cs1 bx df pn):qi6 (qh3 (Gen.rows cs3) (Gen.rows cs1) bx df df)=some pn:=by
 cases e:qi6 (qh3 (Gen.rows cs3) (Gen.rows cs1) bx df df) with
 | none =>
  have:=qar two e n6 hu;rw [h pn n6 hu,if_pos rfl] at this;exact absurd this ne
 | some c =>
  obtain ⟨c6,cu,d⟩:=qlc two e
  by_cases ec:c=pn
  ·rw [ec]
  ·rw [h c c6 cu,if_neg ec] at d
   exact absurd rfl d
theorem qbr {cs2:Chs}(two:Two (Gen.rows cs1) (Gen.rows cs2) bx df df)(h:∀ c:List Int,c.length=6→qr0 wholeU c=true→qm1 cs1 bx df c=qm1 cs2 bx df c):qi6 (qh3 (Gen.rows cs1) (Gen.rows cs2) bx df df)=none:=by
 cases e:qi6 (qh3 (Gen.rows cs1) (Gen.rows cs2) bx df df) with
 | none=>rfl
 | some c =>
  obtain ⟨c6,hu,d⟩:=qlc two e;exact absurd (h c c6 hu) d
end
theorem base4 {H:Hp}{hs:List V}{cs:Chs}{bx:Addr→Bsx}{es:List Bxn}(h:Ch2 es cs)(e45:qo8 es≤45)(eb:∀ e∈es,IsBox H e.1 e.2.1∧Nar e.2.2 e.2.1)(al:All2 (HaX H bx) hs cs):∃ z us0 us1,cs=csOf z us0 us1 []∧NmOk z∧z≠"main"∧NoZ z∧S4 0 H z hs us0 us1 [] es∧∀ c∈cs,∀ u∈c.2,∀ w,u.1=.word w→WdOk w:=by
 obtain ⟨z,zok,⟨zm,zn⟩,l2,ok⟩:=h
 match cs,l2 with
 | [c0,c1],_ =>
  obtain ⟨n0,f0,r0,b0⟩:=ok 0 c0 rfl;obtain ⟨n1,f1,r1,b1⟩:=ok 1 c1 rfl
  injection n0 with n0
  have n0:("main":Str)=c0.1:=n0
  injection n1 with n1
  have n1:z=c1.1:=n1;obtain ⟨m0,us0⟩:=c0;obtain ⟨m1,us1⟩:=c1;have n0:("main":Str)=m0:=n0;have n1:z=m1:=n1;subst n0 n1
  have mem:∀ c,c∈csOf z us0 us1 []↔c=(("main":Str),us0)∨c=(z,us1):=fun c=>by simp [csOf]
  have wd:∀ c∈csOf z us0 us1 [],∀ u∈c.2,∀ w,u.1=.word w→WdOk w:=fun c hc u hu w ew=>by
   rcases (mem c).mp hc with rfl | rfl
   ·exact (r0 u hu).2.2 w ew
   ·exact (r1 u hu).2.2 w ew
  refine ⟨z,us0,us1,rfl,zok,zm,zn,⟨All2.imp al fun _ _ r=>r.on (Same.refl _),f0,f1,Nat.le_refl _,(fun c hc=>by cases hc),(fun c hc=>by cases hc),List.nodup_nil,fun n hn=>?_,fun n hn=>?_,fun u hu w ew=>?_,e45,eb,fun c hc u hu=>?_⟩,wd⟩
  ·obtain ⟨u,hu,eu⟩:=qed hn
   exact .inl ((r0 u hu).2.1 n eu).2
  ·obtain ⟨u,hu,eu⟩:=qed hn
   cases ((r1 u hu).2.1 n eu).1
  ·rcases List.mem_append.mp hu with hu | hu
   ·exact qvo ((r0 u hu).2.2 w ew)
   ·exact qvo ((r1 u hu).2.2 w ew)
  ·rcases (mem c).mp hc with rfl | rfl
   ·exact b0 u hu
   ·exact b1 u hu
def zN (k:Nat):Str:=Txt.mul "z" ((1+5 * k:Nat):Int)
theorem qqo (k:Nat):(zN k).cps.toList=List.replicate (1+5 * k) 122:=mul_z _
theorem zN_ok (h:k≤1):NmOk (zN k)∧¬ NoZ (zN k):=by
 have e:=qqo k;refine ⟨⟨?_,?_⟩,fun n=>n ?_⟩
 ·show (zN k).cps.all _=true
  rw [← Array.all_toList,e,List.all_eq_true];intro x hx;rw [(List.mem_replicate.mp hx).2];decide
 ·show (zN k).cps.size≤40
  rw [← Array.length_toList,e,List.length_replicate];omega
 ·rw [e,Nat.add_comm,List.replicate_succ]
  rfl
theorem zN_ne:zN 1≠zN 0:=fun h=>by
 have:=congrArg (fun x:Str=>x.cps.toList.length) h;simp only [qqo,List.length_replicate] at this;omega
theorem ra_dts {H:Hp}{bx:Addr→Bsx}{us:List Ru}(h:All2 (RtAt H) ts us)(hb:∀ u∈us,IsBox H u.2 (bx u.2)):Dts H ts (us.map fun u=>u.1.data (bx u.2)):=by
 induction h with
 | nil=>exact .nil
 | cons h _ ih =>
  obtain ⟨t,rfl,h1,_⟩:=h;exact .cons (qdp h1 (hb _ List.mem_cons_self)) (ih fun u hu=>hb u (List.mem_cons_of_mem _ hu))
theorem ha_dts {H:Hp}{bx:Addr→Bsx}{hs:List V}{cs:Chs}(h:All2 (HaAt H) hs cs)(hb:∀ c∈cs,∀ u∈c.2,IsBox H u.2 (bx u.2)):Dts H hs (cs.map (chD bx)):=by
 induction h with
 | nil=>exact .nil
 | cons h _ ih =>
  obtain ⟨t,l,ts,rfl,h1,h2,h3,_⟩:=h;exact .cons (.tup (.inl h1) (.cons (.str _) (.cons (.lst (.inl h2) (ra_dts h3 (hb _ List.mem_cons_self))) .nil))) (ih fun c hc=>hb c (List.mem_cons_of_mem _ hc))
theorem qct {bx:Addr→Bsx}{cs:Chs}(hn:∀ c∈cs,PyData.strOk c.1=true)(ok:∀ c∈cs,∀ u∈c.2,u.1.ok):SeqAt.shaped (.list (cs.map (chD bx)))=true:=by
 have a:PyData.canLayAll0 (cs.map (chD bx))=true:=qii fun c hc=>by
  have:=qii (f:=fun u:Ru=>u.1.data (bx u.2)) (l:=c.2) fun u hu=>ru_lay _ (ok c hc u hu);simp [chD,PyData.canLay0,PyData.canLayAll0,hn c hc,this]
 have b:=qc2 (chD bx) (n:=8) (fun c=>by
  have:=qc2 (fun u:Ru=>u.1.data (bx u.2)) (n:=5) (fun u=>by
   have d:=qs7 (bx u.2)
   cases u.1 <;> simp [Rl.data,PyData.depth,PyData.depthAll] <;> omega) c.2
  simp [chD,PyData.depth,PyData.depthAll]
  omega) cs
 refine qc4 (by simp [PyData.canLay0,a]) ?_;simp only [PyData.depth];omega
theorem cs_eqv (bx:Addr→Bsx)(cs:Chs):PyData.eqv (.list (cs.map (chD bx))) (.list (cs.map (chD bx)))=true:=by
 have a:PyData.eqvAll (cs.map (chD bx)) (cs.map (chD bx))=true:=qzk fun c _=>by
  have:=qzk (f:=fun u:Ru=>u.1.data (bx u.2)) (l:=c.2) fun u _=>qfu _ _;simp [chD,PyData.eqv,PyData.eqvAll,this]
 simp [PyData.eqv,a]
theorem op_isB :OpR X (compareOp .Is) (fun x y H Q=>∃ a b,x=.bl a∧y=.bl b∧Q (.bl (a == b)) H):=by
 intro pins s σ H x y v u Q I rx ry h;obtain ⟨a,b,rfl,rfl,q⟩:=h;obtain rfl:v=.bool a:=rx;obtain rfl:u=.bool b:=ry;exact wpAny_pure ⟨.bl (a == b),H,I,by cases a <;> cases b <;> rfl,q⟩
theorem qcm :OpR X (compareOp .IsNot) (fun x y H Q=>∃ a b,x=.bl a∧y=.bl b∧Q (.bl (a != b)) H):=by
 intro pins s σ H x y v u Q I rx ry h;obtain ⟨a,b,rfl,rfl,q⟩:=h;obtain rfl:v=.bool a:=rx;obtain rfl:u=.bool b:=ry;exact wpAny_pure ⟨.bl (a != b),H,I,by cases a <;> cases b <;> rfl,q⟩
def labD:Option (List Int)→PyData
 | none=>.none
 | some c=>qga c
theorem LabO.dt {H:Hp}{w:V}(h:LabO H w o):Dt H w (labD o):=by
 cases o with
 | none =>
  obtain rfl:w=.non:=h;exact .non
 | some c =>
  obtain ⟨a,rfl,h⟩:=h;exact h.dt
theorem qim {H:Hp}{v u:V}(hv:LabO H v o)(hu:LabO H u o)(q:Q (.bl false) H):rEqD true v u H Q:=by
 have sh:SeqAt.shaped (labD o)=true:=by
  cases o with
  | none=>exact qc4 (by simp [labD,PyData.canLay0]) (by simp [labD,PyData.depth])
  | some c=>exact quf c
 refine ⟨_,_,hv.dt,hu.dt,sh,sh,?_⟩
 have e:PyData.eqv (labD o) (labD o)=true:=by
  cases o with
  | none=>simp [labD,PyData.eqv]
  | some c=>exact (qpq c c).mpr rfl
 rw [e];exact q
theorem Gen.han {H:Hp}{hs:List V}{cs:Chs}{bx:Addr→Bsx}{rank:Str→Nat}(g:Gen H hs cs bx rank):All2 (HaAt H) hs cs:=by
 have al:=g.al;have f4:∀ c∈cs,c.2.length≤7:=fun c hc=>Nat.le_trans (g.four c hc) (qvk _);clear g
 induction al with
 | nil=>exact .nil
 | cons h _ ih =>
  obtain ⟨t,l,ts,e,h1,h2,h3⟩:=h;refine .cons ⟨t,l,ts,e,h1,h2,All2.imp h3 fun v u r=>?_,Nat.le_trans (f4 _ List.mem_cons_self) (by decide)⟩ (ih fun c hc=>f4 c (List.mem_cons_of_mem _ hc));obtain ⟨t',e',k1,k2,_⟩:=r;exact ⟨t',e',k1,k2⟩
section
variable {cRu cWo cBa cCa cBo:Addr}
theorem ok_law (F:Fun K "law" "law" qpf f fd)(g__law_cell_at:Fn P w K mg base "_law_cell_at" 1 ["_law_script","_law_k"] (spCell K))(g__law_marks:Fn P w K mg base "_law_marks" 2 ["_law_script"] (qvj K))(g__law_boxes:Fn P w K mg base "_law_boxes" 3 ["_law_script","_law_marks_here","_law_many"] (qbk K))(g__law_chains:Fn P w K mg base "_law_chains" 2 ["_law_script","_law_sizes","_law_boxes_here","_law_at"] (spCh1 K))(g__law_changed:Fn P w K mg base "_law_changed" 3 ["_law_default","_law_chains_here","_law_cell","_law_fresh"] qak)(gi_Book:FnI P w K mg base cBo 5 ["self","default","chains"] (qvp cWo cBa cCa cBo))(g_alike:Fn P w K mg base "alike" 10 ["one","other"] (qjf cWo cBa cCa cBo))(g_parting:Fn P w K mg base "parting" 9 ["one","other"] (qch cWo cBa cCa cBo))
  (g__law_parcel:Fn P w K mg base "_law_parcel" 2 ["_law_marks_here","_law_cell","_law_at"] qsj) (g__law_spoiled:Fn P w K mg base "_law_spoiled" 6 ["_law_default","_law_chains_here","_law_turned_here","_law_parcel_here"] qoj) (b_range:mg "range"=none) (b_list:mg "list"=none) (b_sum:mg "sum"=none) (b_isinstance:mg "isinstance"=none) (b_tuple:mg "tuple"=none) (m_Book:mg "Book"=some (.ref cBo)) (T:TxB K cRu cWo cBa cCa cBo):FnOk P w K mg base CX0 13 f fd ["_law_script"] (quu K):=by
 refine F.ok qk5 (fun vs H Q E h=>?_) (fun _ _ _ _ H _ Q E hr h=>?_)
 ·obtain ⟨a,ns,rfl,_⟩:=h
  rfl
 obtain ⟨a,ns,rfl,hS,h63,q⟩:=h;refine ⟨_,(qc (qi (i:=1) qk5.nd rfl (Or.inl rfl) (qf1 g__law_cell_at hr (by decide) rfl (qa (pv 0) (qa qf qd)))) (qc (qi (i:=2) qk5.nd rfl (Or.inl rfl) (qq qb2 (qe1 (qa qq1 (qa qq1 qd))) (qj qu1 (pv 1) qf) (fun _ _=>rfl))) (qc (qi (i:=3) qk5.nd rfl (Or.inl rfl) (qe1 (qa (qj qu1 (qj qv3 (pv 1) qf) qf) (qa (qj qu1 (qj qv3 (pv 1) qf) qf) qd)))) (qc (qi (i:=4) qk5.nd rfl (Or.inl rfl) (qf1 g__law_marks hr (by decide) rfl (qa (pv 0) qd))) (qc (qi (i:=5) qk5.nd rfl (Or.inl rfl) (qf1 g__law_chains hr (by decide) rfl (qa (pv 0) (qa (pv 3) (qa (qf1 g__law_boxes hr (by decide) rfl (qa (pv 0) (qa (pv 4) (qa (qy (qui (K:=K) rfl rfl) rfl b_sum bo_sum (qa (pv 3) qd)) qd)))) (qa qf qd)))))) (qc (qi (i:=6) qk5.nd rfl (Or.inl rfl) (pv 5)) (qc (qb3 PassesOwn.never rfl (qc3 rfl b_range (qa (qj qb1 qf (qj qu1 (qf1 g__law_cell_at hr (by decide) rfl (qa (pv 0) (qa qf qd))) qf)) qd)) (qp (i:=7) qk5.nd rfl (Or.inl rfl)) (qg (qi (i:=6) qk5.nd rfl (Or.inl rfl) (qf1 g__law_changed hr (by decide) rfl (qa (pv 2) (qa (pv 6) (qa (qf1 g__law_cell_at hr (by decide) rfl (qa (pv 0) (qa (qj qb1 qf (pv 7)) qd))) (qa (qj qkk qq1 (qj qb1 qf (qj qw6 qf (pv 7)))) qd)))))))) (qc (qo9 (T:=["_law_name_here","_law_rules"]) (cap:=[]) (i:=8) rfl (COk.of (out:=qh qpf) (N:=["_law_script","_law_shape","_law_default","_law_sizes","_law_marks_here","_law_chains_here","_law_turned_here","_law_k","_law_held","_law_one","_law_other","_law_parcel_here","_law_third","_law_found"]) rfl rfl (by decide +kernel)) qk5.nd rfl (Or.inl rfl) (ql3 (pv 6)) (fun _ _ _=>(quq (K:=K) (n:=2) rfl rfl (qx (qp (i:=0) (show List.Nodup (["_law_name_here","_law_rules"]:List Str) by decide +kernel) rfl (Or.inl rfl)) (qx (qp (i:=1) (show List.Nodup (["_law_name_here","_law_rules"]:List Str) by decide +kernel) rfl (Or.inl rfl)) qc5)))) (fun _ _ _=>ql4) (fun _ _ _=>(qv0 (qa (pv 0) (qa (qm4 (qdl (K:=K) rfl) rfl b_list qpt (qa (pv 1) qd)) qd))))) (qc (qi (i:=9) qk5.nd rfl (Or.inl rfl) (qbe gi_Book hr (by decide) rfl m_Book (qa (pv 2) (qa (pv 5) qd)))) (qc (qi (i:=10) qk5.nd rfl (Or.inl rfl) (qbe gi_Book hr (by decide) rfl m_Book (qa (pv 2) (qa (pv 6) qd)))) (qc (ql1 (PW.pt (qfk (qk qcm (qf1 g_alike hr (by decide) rfl (qa (pv 9) (qa (pv 10) qd))) qf9 (qs0 _)) (qfk (qk qcm (qf1 g_alike hr (by decide) rfl (qa (pv 10) (qa (pv 9) qd))) qf9 (qs0 _)) (qqh (qk qdr (qf1 g_parting hr (by decide) rfl (qa (pv 9) (qa (pv 10) qd))) qw5 (qs0 _)))))) (qg (qm qf9)) qn0) (qc (qi (i:=11) qk5.nd rfl (Or.inl rfl) (qf1 g__law_parcel hr (by decide) rfl (qa (pv 4) (qa (qf1 g__law_cell_at hr (by decide) rfl (qa (pv 0) (qa qf qd))) (qa qf qd))))) (qc (qi (i:=12) qk5.nd rfl (Or.inl rfl) (qbe gi_Book hr (by decide) rfl m_Book (qa (pv 2) (qa (qf1 g__law_spoiled hr (by decide) rfl (qa (pv 2) (qa (pv 5) (qa (pv 6) (qa (pv 11) qd))))) qd)))) (qc (qi (i:=13) qk5.nd rfl (Or.inl rfl) (qf1 g_parting hr (by decide) rfl (qa (pv 9) (qa (pv 12) qd)))) (qc (ql1 (PW.pt (qfk (pt_not (qh6 (qy qvm rfl b_isinstance qo2 (qa (pv 13) (qa (qxq (v:=.ty "tuple") (u:=.type "tuple") rfl b_tuple qv6 rfl) qd))))) (qfk (qk (qzh hr.units) (pv 13) (pv 11) (qs0 _)) (qqh (qk (qzh hr.units) (qf1 g_parting hr (by decide) rfl (qa (pv 12) (qa (pv 9) qd))) (pv 11) (qs0 _)))))) (qg (qm qf9)) qn0) (qg (qm (pe_and (qq9 op_isB (qf1 g_alike hr (by decide) rfl (qa (pv 9) (qa (pv 12) qd))) qf9 (qs0 _)) (pe_one (qq9 (qgr hr.units) (pv 6) (pv 8) (qs0 _))))))))))))))))))))),?_⟩;rw [st_law];refine qc1 fun N go=>?_;walk_at "s";refine spCell.go hS (by decide) ?_;refine go _ _ ?_;clear go N;generalize cell ns 0=sh at *;refine qc1 fun N go=>?_;walk_at "s";refine LstR.go (by simp) fun lv nlv=>?_;have s3:=qe nlv (.lst [.str "pass",.str "stop"]);have hlv:=qb0 (H:=H) (a:=lv) (o:=.lst [.str "pass",.str "stop"]);generalize upd H lv (.lst [.str "pass",.str "stop"])=H1 at *;refine ⟨by decide,?_⟩
 obtain ⟨m',df,em',ed,dfo⟩:∃ (m:Nat) (z:Str),sh % 2=(m:Int)∧([.str "pass",.str "stop"]:List V)[m]?=some (.str z)∧WdOk z:=by
  have d0:=Int.emod_nonneg sh (show (2:Int)≠0 by decide);have d1:=Int.emod_lt_of_pos sh (show (0:Int)<2 by decide);obtain ⟨m,em⟩:=Int.eq_ofNat_of_zero_le d0
  have:m=0∨m=1:=by omega
  rcases this with rfl | rfl
  ·exact ⟨_,_,em,rfl,qqe⟩
  ·exact ⟨_,_,em,rfl,qpe⟩
 rw [em'];refine qw2 (SqL.of hlv) ed ?_;refine go _ _ ?_;clear go N;refine qc1 fun N go=>?_;walk_at "s";have y0:=Int.emod_nonneg (sh / 2) (show (5:Int)≠0 by decide);have y1:=Int.emod_lt_of_pos (sh / 2) (show (0:Int)<5 by decide);have x0:=Int.emod_nonneg (sh / 10) (show (3:Int)≠0 by decide);have x1:=Int.emod_lt_of_pos (sh / 10) (show (0:Int)<3 by decide);obtain ⟨z0,ez0⟩:=Int.eq_ofNat_of_zero_le y0;obtain ⟨z1,ez1⟩:=Int.eq_ofNat_of_zero_le x0;have ez0:sh / 2 % 5=(z0:Int):=ez0;have ez1:sh / 10 % 3=(z1:Int):=ez1;refine ⟨⟨by decide,by decide⟩,by decide,⟨by decide,by decide⟩,by decide,?_⟩;rw [ez0,ez1];refine LstR.go (by simp) fun sz nsz=>?_;have s4:=qe nsz (.lst [.int (z0:Int),.int (z1:Int)]);have hsz:upd H1 sz (.lst [.int (z0:Int),.int (z1:Int)]) sz=some (.lst (([z0,z1].map fun (n:Nat)=>(n:Int)).map V.int)):=qb0;generalize upd H1 sz (.lst [.int (z0:Int),.int (z1:Int)])=H2 at *;have u2:=s3.trans s4;refine go _ _ ?_;clear go N;refine qc1 fun N go=>?_;walk_at "s";refine ⟨a,ns,rfl,u2.seq hS,fun ml ms H3 nml s5 hml mok=>?_⟩;have u3:=u2.trans s5;refine go _ _ ?_;clear go N;refine qc1 fun N go=>?_;walk_at "s";refine ⟨sz,_,rfl,SqL.of (s5 _ _ hsz),?_⟩;rw [show (([z0,z1].map fun (n:Nat)=>(n:Int))).sum=((z0+z1:Nat):Int) by simp];refine ⟨a,ml,ns,ms,z0+z1,rfl,u3.seq hS,hml,mok,by omega,fun bl es H4 nbl s6 hbl esl eok e45=>?_⟩;have u4:=u3.trans s6;refine ⟨a,sz,bl,ns,z0,z1,0,es,bxH H4,rfl,u4.seq hS,(s5.trans s6) _ _ hsz,by omega,by omega,hbl,by omega,by omega,fun e he=>⟨(eok e he).1,(eok e he).2,qf8 (eok e he).1⟩,fun hl hs cs H5 nhl s7 hhl hal ch2=>?_⟩;have u5:=u4.trans s7;obtain ⟨z,us0,us1,rfl,zo,zm,zn,g0,wo⟩:=base4 ch2 e45 (fun e he=>⟨(eok e he).1.same s7,(eok e he).2⟩) hal;refine go _ _ ?_;clear go N;refine qc1 fun N go=>?_;walk_at "s";refine go _ _ ?_;clear go N;refine qc1 fun N go=>?_;walk_at "s";refine spCell.go (u5.seq hS) (by decide) ?_;walk_at "s";refine ⟨by decide,?_⟩;have e0:=Int.emod_nonneg (cell ns 20) (show (2:Int)≠0 by decide);have e1:=Int.emod_lt_of_pos (cell ns 20) (show (0:Int)<2 by decide);have hS5:SqL K H5 a (ns.map V.int):=u5.seq hS;have hml5:=(s6.trans s7) _ _ hml;refine RngR.go (by omega) (by omega) ?_;obtain ⟨n,en⟩:∃ n:Nat,(1+cell ns 20 % 2).toNat=n∧n≤2:=⟨_,rfl,by omega⟩;obtain ⟨en,n2⟩:=en;rw [en];refine ForR.range (n:=n) (fun i σ H'=>Same H5 H'∧∃ (dl:Addr) (ds:List V) (vs0 vs1:List Ru) (fr:Chs) (new:List Bxn) (y7:Option V),σ=[some (.ref a),some (.int sh),some (.str df),some (.ref sz),some (.ref ml),some (.ref hl),some (.ref dl),y7,none,none,none,none,none,none]∧H' dl=some (.lst ds)∧S4 i H' z ds vs0 vs1 fr (new++es)∧(∀ c∈fr,c.1=zN 0∨i=2)∧∀ (pn:List Int) (F:Addr→Bool),pn.length=6→qr0 wholeU pn=true→FH H' pn F→(wC F (csOf z vs0 vs1 fr) 3 "main").getD df=(wC F (csOf z us0 us1 []) 3 "main").getD df)
  ⟨Same.refl _,hl,hs,us0,us1,[],[],none,rfl,hhl,g0,(fun c hc=>by cases hc),fun _ _ _ _ _=>rfl⟩ (fun i σ H6 hi pv=>?_) (fun σ H6 pv=>?_)
 ·obtain ⟨sm,dl,ds,vs0,vs1,fr,new,y7,rfl,hdl,g,frn,we⟩:=pv
  rw [Int.zero_add];walk_at "s";refine spCell.go (sm.seq hS5) (by omega) ?_;walk_at "s";refine ⟨.inl ⟨by decide,by decide⟩,?_⟩;rw [show (1+5 * (i:Int))=((1+5 * i:Nat):Int) by omega];refine qpk rfl (by omega) (by omega) ?_;obtain ⟨zk,zz⟩:=zN_ok (k:=i) (by omega)
  have nf:zN i∉fr.map (·.1):=fun hm=>by
   obtain ⟨c,hc,e⟩:=List.mem_map.mp hm
   rcases frn c hc with h | h
   ·rcases (show i=0∨i=1 by omega) with rfl | rfl
    ·have:=g.lf
     have:=List.length_pos_of_mem hc;omega
    ·exact zN_ne (e.symm.trans h)
   ·omega
  refine ⟨dl,df,zN i,_,i,z,ds,vs0,vs1,fr,new++es,rfl,hdl,g,by omega,zm,zn,dfo,zk,zz,nf,fun dl' ds' us0' us1' fr' new' H7 s8 hdl' g' frn' we'=>?_⟩;rw [← List.append_assoc] at g';refine ⟨sm.trans s8,dl',ds',us0',us1',fr',new'++new,_,rfl,hdl',g',fun c hc=>?_,fun pn F n6 hu fh=>(we' pn F n6 hu fh).trans (we pn F n6 hu (fh.back s8))⟩
  rcases (show i=0∨i=1 by omega) with rfl | rfl
  ·rcases frn' c hc with h | h
   ·exact .inl ((frn c h).resolve_right (by decide))
   ·exact .inl h
  ·exact .inr rfl
 ·obtain ⟨sm,dl,ds,vs0,vs1,fr,new,y7,rfl,hdl,g,frn,we⟩:=pv
  refine go _ _ ?_;clear go N;have gA:Gen H6 hs (csOf z us0 us1 []) (bxH H6) (qg3 z):=(g0.same sm).gen (by decide) zo zn zm;have gB:Gen H6 ds (csOf z vs0 vs1 fr) (bxH H6) (qg3 z):=g.gen n2 zo zn zm;have hhl6:=sm _ _ hhl;have hml6:=sm _ _ hml5;have hS6:=sm.seq hS5;have gs:=g0.same sm;generalize hcsA:csOf z us0 us1 []=csA at *;refine qc1 fun N go=>?_;walk_at "s";refine IlR.go (SqL.of hdl) ?_;refine made_go hdl gB.al (by rw [All2.len gB.al]; exact Nat.le_trans gB.len (by decide)) (fun c hc=>Nat.le_trans (gB.four c hc) (Nat.le_trans (qvk _) (by decide))) (fun z l ts H' Q' hl' k=>?_) fun hd hv H7 nhd s8 hhd ha=>?_
  ·walk_at "s"
   refine LstOf.lst (SqL.of hl') fun l5 nl5=>?_;refine TupR.go (by simp) fun t5 nt5=>?_;exact k t5 l5 nl5 nt5
  refine go _ _ ?_;clear go N;refine qc1 fun N go=>?_;walk_at "s";intro b1 dx1 nb1 ndx1 nbd1;have si1:=qw7 (o:=.own b1) (o':=.ins cBo dx1 []) nb1 ndx1 nbd1;have gA7:Gen H7 hs csA (bxH H6) (qg3 z):=gA.same s8;refine ⟨b1,dx1,hl,df,hs,csA,Gen.len3 csA,qg3 z,rfl,qb0,si1 _ _ (s8 _ _ hhl6),All2.imp gA7.han fun _ _ r=>r.same si1,gA.names,gA.lensB,gA.inMain,gA.m120,fun H8 kp bk=>⟨rfl,?_⟩⟩;have s9:Same H7 H8:=fun x o e=>kp x o (qz e nb1) (si1 _ _ e);have bk1:=bk.same qyc;clear bk kp si1;refine go _ _ ?_;clear go N;refine qc1 fun N go=>?_;walk_at "s";intro b2 dx2 nb2 ndx2 nbd2;have si2:=qw7 (o:=.own b2) (o':=.ins cBo dx2 []) nb2 ndx2 nbd2;have z68:=s8.trans s9;refine ⟨b2,dx2,dl,df,ds,csOf z vs0 vs1 fr,Gen.len3 (csOf z vs0 vs1 fr),qg3 z,rfl,qb0,si2 _ _ (z68 _ _ hdl),All2.imp (gB.same z68).han fun _ _ r=>r.same si2,gB.names,gB.lensB,gB.inMain,gB.m120,fun H9 kp bk=>⟨rfl,?_⟩⟩;have s10:Same H8 H9:=fun x o e=>kp x o (qz e nb2) (si2 _ _ e);have bk2:=bk.same qyc;clear bk kp si2;have z69:=z68.trans s10;have bk1:=bk1.same s10;refine go _ _ ?_;clear go N;generalize hcsB:csOf z vs0 vs1 fr=csB at *;have we2:∀ c:List Int,c.length=6→qr0 wholeU c=true→qm1 csA (bxH H6) df c=qm1 csB (bxH H6) df c:=fun c c6 hu=>(we c _ c6 hu (fh_bx H6 c)).symm
  have wsAB:GWts (csA++csB) (bxH H6):=⟨new++es,Nat.le_trans g.ws (Nat.le_trans (Nat.mul_le_mul (Nat.le_refl 45) (Nat.pow_le_pow_right (by decide) n2)) (by decide)),fun e he=>⟨qf8 (g.eb e he).1,(g.eb e he).2⟩,fun c hc u hu=>by
   rcases List.mem_append.mp hc with hc | hc
   ·obtain ⟨e,he,ee⟩:=gs.ec c (hcsA▸hc) u hu
    exact ⟨e,List.mem_append_right _ he,ee⟩
   ·exact g.ec c (hcsB▸hc) u hu⟩
  have wsBA:GWts (csB++csA) (bxH H6):=by
   obtain ⟨es',h1,h2,h3⟩:=wsAB;exact ⟨es',h1,h2,fun c hc u hu=>h3 c (by rw [List.mem_append] at hc ⊢; exact hc.symm) u hu⟩
  have twAB:=Gen.two gA gB wsAB df df;have twBA:=Gen.two gB gA wsBA df df;have pAB:=qbr twAB we2;have pBA:=qbr twBA fun c c6 hu=>(we2 c c6 hu).symm;have few:∀ {J:Hp} {hz:List V} {cz:Chs},Gen J hz cz (bxH H6) (qg3 z)→(qa4 (Gen.rows cz) (bxH H6) df wholeU).length≤16770000:=fun g=>Nat.le_trans (g.few nar_whole df ((Gen.rows _).length+1) (.goto 0)) (by decide);have alik:∀ {J:Hp} {Q':VK} {E':XK} {x y:Addr} {hx hy:List V} {cx cy:Chs},IsBook cWo cBa cCa cBo J x df cx (Gen.len3 cx)→IsBook cWo cBa cCa cBo J y df cy (Gen.len3 cy)→Gen J hx cx (bxH H6) (qg3 z)→Gen J hy cy (bxH H6) (qg3 z)→Two (Gen.rows cx) (Gen.rows cy) (bxH H6) df df→(∀ J',Same J J'→Q' (.bl (qi6 (qh3 (Gen.rows cx) (Gen.rows cy) (bxH H6) df df)).isNone) J')→qjf cWo cBa cCa cBo [.ref x,.ref y] J Q' E':=fun bx by' gx gy tw q'=>⟨_,_,df,df,_,_,_,_,qg3 z,qg3 z,3,3,bxH H6,rfl,bx,gx.bl,by',gy.bl,tw,few gx,q'⟩;refine qc1 fun N go=>?_;walk_at "s";refine alik bk1 bk2 (gA.same z69) (gB.same z69) twAB fun H10 s11=>?_;rw [pAB];walk_at "s";refine ⟨true,true,rfl,rfl,?_⟩;rw [show (true != true)=false from rfl];have z10:=z69.trans s11;walk_at "s";refine alik (bk2.same s11) (bk1.same s11) (gB.same z10) (gA.same z10) twBA fun H11 s12=>?_;rw [pBA];walk_at "s";refine ⟨true,true,rfl,rfl,?_⟩;rw [show (true != true)=false from rfl];have s911:=s11.trans s12;have z11:=z69.trans s911;walk_at "s";have part:∀ {J:Hp} {Q':VK} {E':XK} {x y:Addr} {bx:Addr→Bsx} {hx hy:List V} {cx cy:Chs},IsBook cWo cBa cCa cBo J x df cx (Gen.len3 cx)→IsBook cWo cBa cCa cBo J y df cy (Gen.len3 cy)→Gen J hx cx bx (qg3 z)→Gen J hy cy bx (qg3 z)→Two (Gen.rows cx) (Gen.rows cy) bx df df→(∀ v J',Same J J'→LabO J' v (qi6 (qh3 (Gen.rows cx) (Gen.rows cy) bx df df))→Q' v J')→qch cWo cBa cCa cBo [.ref x,.ref y] J Q' E':=fun {J Q' E' x y bx hx hy cx cy} bx' by' gx gy tw q'=>⟨_,_,df,df,_,_,_,_,qg3 z,qg3 z,3,3,bx,rfl,bx',gx.bl,by',gy.bl,tw,Nat.le_trans (gx.few nar_whole df ((Gen.rows _).length+1) (.goto 0)) (by decide),q'⟩;refine part (bk1.same s911) (bk2.same s911) (gA.same z11) (gB.same z11) twAB fun v H12 s13 lab=>?_;rw [pAB] at lab;obtain rfl:v=.non:=lab;walk_at "s";refine go _ _ ?_;clear go N;have s912:=s911.trans s13;have z12:=z69.trans s912;refine qc1 fun N go=>?_;walk_at "s";refine spCell.go (z12.seq hS6) (by decide) ?_;refine ⟨ml,ms,_,24,rfl,z12 _ _ hml6,mok,by decide,fun pq pn H13 npq s14 hpq n6 hin=>?_⟩;refine go _ _ ?_;clear go N;have z13:=z12.trans s14;have gA13:Gen H13 hs csA (bxH H13) (qg3 z):=hcsA▸(g0.same (sm.trans z13)).gen (by decide) zo zn zm;have g13:=g.same z13;refine qc1 fun N go=>?_;walk_at "s";refine ⟨hl,dl,pq,df,n,z,hs,ds,csA,qg3 z,vs0,vs1,fr,new++es,pn,rfl,z13 _ _ hhl6,gA13,wo,z13 _ _ hdl,g13,n2,dfo,hpq,n6,hin,fun tl tv pt H14 s15 htl hpt tal wW=>?_⟩;obtain ⟨tn1,tn2,tok⟩:=qzo wW;have z14:=z13.trans s15;have g14:=g.same z14;have gs14:=g0.same (sm.trans z14);obtain ⟨gC,wsC⟩:=g14.spo n2 zo zn zm tn2 hpt (qmq n6 hin) tal;have gA14:Gen H14 hs csA (bxH H14) (qg3 z):=hcsA▸gs14.gen (by decide) zo zn zm
  have eW:qm1 csA (bxH H13) df pn=qm1 csA (bxH H14) df pn:=by
   show (wC _ csA 3 "main").getD df=(wC _ csA 3 "main").getD df;rw [wC_F (F':=fun p=>qr0 (bxH H14 p) pn) (fun c hc u hu=>?_)];show qr0 (bxH H13 u.2) pn=qr0 (bxH H14 u.2) pn;rw [qf8 ((gA13.box hc hu).1.same s15)]
  have hC:∀ c:List Int,c.length=6→qr0 wholeU c=true→qm1 (csOf z ((.word (qh8 (qm1 csA (bxH H13) df pn)),pt)::vs0) vs1 fr) (bxH H14) df c=if c=pn then qh8 (qm1 csA (bxH H13) df pn) else qm1 csA (bxH H14) df c:=fun c c6 cu=>by
   rw [qsu zm hpt (c6.trans n6.symm),hcsB]
   split
   ·rfl
   ·exact we c _ c6 cu ((fh_bx H14 c).back z14)
  have ne:qh8 (qm1 csA (bxH H13) df pn)≠qm1 csA (bxH H14) df pn:=eW▸tn1
  have wsAC:=wsC csA fun c hc u hu=>by
   obtain ⟨e,he,ee⟩:=gs14.ec c (hcsA▸hc) u hu;exact ⟨e,List.mem_append_right _ he,ee⟩
  generalize csOf z ((.word (qh8 (qm1 csA (bxH H13) df pn)),pt)::vs0) vs1 fr=csC at *;generalize qh8 (qm1 csA (bxH H13) df pn)=tW at *
  have wsCA:GWts (csC++csA) (bxH H14):=by
   obtain ⟨es',h1,h2,h3⟩:=wsAC;exact ⟨es',h1,h2,fun c hc u hu=>h3 c (by rw [List.mem_append] at hc ⊢; exact hc.symm) u hu⟩
  have twAC:=Gen.two gA14 gC wsAC df df;have twCA:=Gen.two gC gA14 wsCA df df;have pAC:=part_pt twAC n6 hin hC ne;have pCA:=qev twCA n6 hin hC ne;intro b3 dx3 nb3 ndx3 nbd3;have si3:=qw7 (o:=.own b3) (o':=.ins cBo dx3 []) nb3 ndx3 nbd3;refine ⟨b3,dx3,tl,df,tv,csC,Gen.len3 csC,qg3 z,rfl,qb0,si3 _ _ htl,All2.imp gC.han fun _ _ r=>r.same si3,gC.names,gC.lensB,gC.inMain,gC.m120,fun H15 kp bk=>⟨rfl,?_⟩⟩;have s16:Same H14 H15:=fun x o e=>kp x o (qz e nb3) (si3 _ _ e);have bk3:=bk.same qyc;clear bk kp si3;have s915:=((s912.trans s14).trans s15).trans s16;have bk1:=bk1.same s915;have hpq:=hpq.same (s15.trans s16);have gA15:=gA14.same s16;have gC15:=gC.same s16;refine go _ _ ?_;clear go N;refine qc1 fun N go=>?_;walk_at "s";refine part bk1 bk3 gA15 gC15 twAC fun v H16 s17 lab=>?_;rw [pAC] at lab;obtain ⟨pf,rfl,hpf⟩:=lab;refine go _ _ ?_;clear go N;have hpq:=hpq.same s17;refine qc1 fun N go=>?_;walk_at "s";refine isi_tup hpf ?_;walk_at "s";refine qim (o:=some pn) ⟨pf,rfl,hpf⟩ ⟨pq,rfl,hpq⟩ ?_;walk_at "s";refine part (bk3.same s17) (bk1.same s17) (gC15.same s17) (gA15.same s17) twCA fun v H17 s18 lab=>?_;rw [pCA] at lab;refine qim (o:=some pn) lab ⟨pq,rfl,hpq.same s18⟩ ?_;walk_at "s";refine go _ _ ?_;clear go N;have s1517:=s17.trans s18;walk_at "s";refine ⟨b1,b3,df,df,csA,csC,_,_,qg3 z,qg3 z,3,3,bxH H14,rfl,bk1.same s1517,(gA15.same s1517).bl,bk3.same s1517,(gC15.same s1517).bl,twAC,Nat.le_trans (gA15.few nar_whole df ((Gen.rows _).length+1) (.goto 0)) (by decide),fun H18 s19=>?_⟩
  have e0:(qi6 (qh3 (qd1 csA 3 "main" 0) (qd1 csC 3 "main" 0) (bxH H14) df df)).isNone=false:=by
   show (qi6 (qh3 (Gen.rows csA) (Gen.rows csC) (bxH H14) df df)).isNone=false;rw [pAC];rfl
  rw [e0];walk_at "s";refine ⟨false,false,rfl,rfl,?_⟩;rw [show (false == false)=true from rfl];walk_at "s";have zE:=((z14.trans s16).trans s1517).trans s19;have gE:=gB.same zE;have sh:=qct (bx:=bxH H6) (cs:=csB) (fun c hc=>(gB.nm c hc).1) fun c hc u hu=>gB.bl.ok c hc u hu;have hvE:All2 (HaAt H18) hv csB:=All2.imp ha fun _ _ r=>r.same (((((s9.trans s10).trans s912).trans s14).trans (s15.trans s16)).trans (s1517.trans s19));refine ⟨_,_,.lst (.inl (zE _ _ hdl)) (hax_dts gE.al),.lst (.inl ((((((s9.trans s10).trans s912).trans s14).trans (s15.trans s16)).trans (s1517.trans s19)) _ _ hhd)) (ha_dts hvE fun c hc u hu=>(gE.box hc hu).1),sh,sh,?_⟩;rw [cs_eqv];exact q _
end
end
theorem asm {w:World}{K:PySem.W.Frag}{mg:Str→Option Value}{fa:Addr}(hfa:mg "law"=some (.ref fa)){cRu:Addr}{cWo:Addr}{cBa:Addr}{cCa:Addr}{cBo:Addr}(D_meet:Def K mg "meet" qih)(D_common:Def K mg "common" qc9)(D_outside:Def K mg "outside" qf7)(D_rests:Def K mg "rests" qrb)(D_ended:Def K mg "ended" qvb)(D_step_from:Def K mg "step_from" qm5)(D_pieces:Def K mg "pieces" qx7)(D_looked:Def K mg "looked" qb9)(D_rule_of:Def K mg "rule_of" qd7)(D_called_names:Def K mg "called_names" qr2)(D_refuse_two_chains:Def K mg "refuse_two_chains" qw1)(D_refuse_missing_chains:Def K mg "refuse_missing_chains" qi1)(D_ready_names:Def K mg "ready_names" qf3)(D_chain_lengths:Def K mg "chain_lengths" ql2)(D_yes_of:Def K mg "yes_of" qa9)(D_no_of:Def K mg "no_of" qsb)(D_unfolded:Def K mg "unfolded" qc6)(D_every:Def K mg "every" qub)(D_corner:Def K mg "corner" qy7)(D_looked_by:Def K mg "looked_by" qn5)(D_joint:Def K mg "joint" qtb)(D_parting:Def K mg "parting" qe7)(D_alike:Def K mg "alike" qwb)(D__law_cell_at:Def K mg "_law_cell_at" qo3)(D__law_top:Def K mg "_law_top" qe6)(D__law_marks:Def K mg "_law_marks" qy3)(D__law_stretch:Def K mg "_law_stretch" qn3)(D__law_box:Def K mg "_law_box" qi5)(D__law_boxes:Def K mg "_law_boxes" qz4)(D__law_name:Def K mg "_law_name" qp5)(D__law_rule:Def K mg "_law_rule" qo5)(D__law_chains:Def K mg "_law_chains" qj4)(D__law_turned:Def K mg "_law_turned" qg4)(D__law_has:Def K mg "_law_has" qg6)(D__law_parcel:Def K mg "_law_parcel" qh4)(D__law_read:Def K mg "_law_read" qs4)(D__law_apart:Def K mg "_law_apart" qa5)(D__law_halves:Def K mg "_law_halves" qi4)(D__law_whole:Def K mg "_law_whole" qx3)(D__law_new:Def K mg "_law_new" qf6)(D__law_changed:Def K mg "_law_changed" qt2)(D__law_spoiled:Def K mg "_law_spoiled" qs2)(D_law:Def K mg "law" qpf)(c_MAIN:∃ u,mg "MAIN"=some u∧RelV (.str "main") u)(c_MOST_LENGTH:∃ u,mg "MOST_LENGTH"=some u∧RelV (.int 120) u)(c_GREATEST_ADDRESS:∃ u,mg "GREATEST_ADDRESS"=some u∧RelV (.int 4294967295) u)(c_GREATEST_DOOR:∃ u,mg "GREATEST_DOOR"=some u∧RelV (.int 65535) u)(c_GREATEST_TURN:∃ u,mg "GREATEST_TURN"=some u∧RelV (.int 3) u)(c_GREATEST_KIND:∃ u,mg "GREATEST_KIND"=some u∧RelV (.int 255) u)(b_len:mg "len"=none)(b_range:mg "range"=none)(b_max:mg "max"=none)(b_min:mg "min"=none)(b_isinstance:mg "isinstance"=none)(b_tuple:mg "tuple"=none)(b_list:mg "list"=none)(b_str:mg "str"=none)(b_zip:mg "zip"=none)(b_enumerate:mg "enumerate"=none)(b_reversed:mg "reversed"=none)(b_sum:mg "sum"=none)(b_int:mg "int"=none)(b_bool:mg "bool"=none)(b_all:mg "all"=none)(m_Rule:mg "Rule"=some (.ref cRu))(m_Word:mg "Word"=some (.ref cWo))(m_Back:mg "Back"=some (.ref cBa))(m_Call:mg "Call"=some (.ref cCa))(m_Book:mg "Book"=some (.ref cBo))  (N_Rule___init__:ClsDef K cRu "__init__" "Rule.__init__" qx1)(I_Rule___init__:MDef K cRu "__init__" "Rule.__init__" qx1)(I_Back___init__:MDef K cBa "__init__" "Rule.__init__" qx1)(I_Word___init__:MDef K cWo "__init__" "Word.__init__" qy2)(I_Call___init__:MDef K cCa "__init__" "Call.__init__" qz2)(I_Book___init__:MDef K cBo "__init__" "Book.__init__" qy1)(M_Book_length_of:MDef K cBo "length_of" "Book.length_of" qq2)(M_Book_length:MDef K cBo "length" "Book.length" qk4)(M_Book_rule_at:MDef K cBo "rule_at" "Book.rule_at" qp3)(T:TxB K cRu cWo cBa cCa cBo)  :
  ∃ fd:FuncData,(∀ (s:Shared) (v:Value),BindsTo s fd ⟨[v],[]⟩ [("_law_script",v)])∧∀ base:Heap,K.In base→base.Ns mainGlobals mg→FnOk l.prog w K mg base CX0 13 fa fd ["_law_script"] (quu K):=by
 obtain ⟨f,fd,F,m⟩:=D_law.ex;cases (hfa.symm.trans m);obtain ⟨oc,od,kV,doc,pm,an,cdv,ct,osl,e,lk,hcd⟩:=id F.ex;subst e;refine ⟨PySem.W.fnOf "law" "law" (qo4 qpf) (qw3 qpf) (qh qpf) .none kV doc pm an cdv ct,fun s v=>.of_eq rfl,fun base _ _=>?_⟩;have g_meet:Fn l.prog w K mg base "meet" 1 ["one","other"] qup:=D_meet.fn (by walk_at "u2") fun _ _ F=>ok_meet F b_max b_min;have g_common:Fn l.prog w K mg base "common" 2 ["box","other"] spCommon:=D_common.fn (by walk_at "u2") fun _ _ F=>qor F g_meet b_zip b_tuple;have g_outside:Fn l.prog w K mg base "outside" 1 ["stretch","inner"] qkb:=D_outside.fn (by walk_at "u2") fun _ _ F=>qxn F;have g_rests:Fn l.prog w K mg base "rests" 3 ["box","other"] qqj:=D_rests.fn (by walk_at "u2") fun _ _ F=>qlv F g_common g_outside b_enumerate;have g_ended:Fn l.prog w K mg base "ended" 1 ["rows","default","step"] qzj:=D_ended.fn (by walk_at "u3") fun _ _ F=>quv F b_len b_isinstance b_str;have g_step_from:Fn l.prog w K mg base "step_from" 1 ["row","fits"] qsp:=D_step_from.fn (by walk_at "u2") fun _ _ F=>ok_step F;have g_pieces:Fn l.prog w K mg base "pieces" 4 ["box","other"] qef:=D_pieces.fn (by walk_at "u2") fun _ _ F=>qkr F g_common g_rests;have g_looked:Fn l.prog w K mg base "looked" 6 ["rows","default","box"] qsa:=D_looked.fn (by walk_at "u3") fun _ _ F=>qlr F g_ended g_step_from g_pieces b_reversed;have gc_Rule___init__:FnC l.prog w K mg base cRu "__init__" 1 ["self","box"] (qnb K):=N_Rule___init__.fnC (by walk_at "u2") fun _ _ F=>qm7 F;have gi_Rule:FnI l.prog w K mg base cRu 1 ["self","box"] (qnb K):=I_Rule___init__.fnI T.mk_Rule T.kp_Rule (by walk_at "u2") fun _ _ F=>qm7 F;have gi_Back:FnI l.prog w K mg base cBa 1 ["self","box"] (qnb K):=I_Back___init__.fnI T.mk_Back T.kp_Back (by walk_at "u2") fun _ _ F=>qm7 F;have gi_Word:FnI l.prog w K mg base cWo 2 ["self","box","word"] (qm9 K cWo "word"):=I_Word___init__.fnI T.mk_Word T.kp_Word (by walk_at "u3") fun _ _ F=>qci F gc_Rule___init__ m_Rule T.toTxt;have gi_Call:FnI l.prog w K mg base cCa 2 ["self","box","name"] (qm9 K cCa "name"):=I_Call___init__.fnI T.mk_Call T.kp_Call (by walk_at "u3") fun _ _ F=>qdi F gc_Rule___init__ m_Rule T.toTxt;have g_rule_of:Fn l.prog w K mg base "rule_of" 4 ["told"] (qcf cWo cBa cCa):=D_rule_of.fn (by walk_at "u1") fun _ _ F=>qvn F gi_Back gi_Word gi_Call m_Back m_Word m_Call T.toTxt;have g_called_names:Fn l.prog w K mg base "called_names" 1 ["rules"] (qy8 cWo cBa cCa):=D_called_names.fn (by walk_at "u1") fun _ _ F=>qnc F b_isinstance m_Call T.toTxt;have g_refuse_two_chains:Fn l.prog w K mg base "refuse_two_chains" 1 ["names"] spTwo:=D_refuse_two_chains.fn (by walk_at "u1") fun _ _ F=>ok_two F b_enumerate;have g_refuse_missing_chains:Fn l.prog w K mg base "refuse_missing_chains" 2 ["chains"] (qlb cWo cBa cCa):=D_refuse_missing_chains.fn (by walk_at "u1") fun _ _ F=>qyn F g_called_names;have g_ready_names:Fn l.prog w K mg base "ready_names" 2 ["chains","lengths"] (qrj cWo cBa cCa):=D_ready_names.fn (by walk_at "u2") fun _ _ F=>qmv F g_called_names;have g_chain_lengths:Fn l.prog w K mg base "chain_lengths" 3 ["chains"] (qmb cWo cBa cCa):=D_chain_lengths.fn (by walk_at "u1") fun _ _ F=>qzn F g_called_names g_ready_names b_len b_sum;have gi_Book:FnI l.prog w K mg base cBo 5 ["self","default","chains"] (qvp cWo cBa cCa cBo):=I_Book___init__.fnI T.mk_Book T.kp_Book (by walk_at "u3") fun _ _ F=>qei F g_refuse_two_chains g_refuse_missing_chains g_chain_lengths g_rule_of c_MAIN c_MOST_LENGTH b_len T;have gm_Book_length_of:FnM l.prog w K mg base cBo "length_of" 1 ["self","name"] (qwj cWo cBa cCa cBo):=M_Book_length_of.fnM (by walk_at "u2") fun _ _ F=>qr9 F T;have gm_Book_length:FnM l.prog w K mg base cBo "length" 1 ["self"] (qff cWo cBa cCa cBo):=M_Book_length.fnM (by walk_at "u1") fun _ _ F=>qpd F c_MAIN T;have gm_Book_rule_at:FnM l.prog w K mg base cBo "rule_at" 1 ["self","name","index"] (qdf cWo cBa cCa cBo):=M_Book_rule_at.fnM (by walk_at "u3") fun _ _ F=>qoc F b_len T;have g_yes_of:Fn l.prog w K mg base "yes_of" 1 ["rule","number","end"] (qnj cWo cBa cCa):=D_yes_of.fn (by walk_at "u3") fun _ _ F=>qir F b_isinstance m_Word m_Back T.toTxt;have g_no_of:Fn l.prog w K mg base "no_of" 2 ["book","rule","number"] (qtp cWo cBa cCa cBo):=D_no_of.fn (by walk_at "u3") fun _ _ F=>qov F gm_Book_length_of b_isinstance m_Call T;have g_unfolded:Fn l.prog w K mg base "unfolded" 3 ["book"] (qtu cWo cBa cCa cBo):=D_unfolded.fn (by walk_at "u1") fun _ _ F=>qlk F gm_Book_length gm_Book_rule_at g_yes_of g_no_of c_MAIN b_isinstance b_len m_Call T;have g_every:Fn l.prog w K mg base "every" 1 [] qyj:=D_every.fn (fun _ _ _ _ _ _ us hl=>match us,hl with | [],_=>rfl) fun _ _ F=>qtv F c_GREATEST_ADDRESS c_GREATEST_DOOR c_GREATEST_TURN c_GREATEST_KIND;have g_corner:Fn l.prog w K mg base "corner" 1 ["box"] qhf:=D_corner.fn (by walk_at "u1") fun _ _ F=>qnr F b_tuple;have g_looked_by:Fn l.prog w K mg base "looked_by" 7 ["book","box"] (ql9 cWo cBa cCa cBo):=D_looked_by.fn (by walk_at "u2") fun _ _ F=>qbi F g_unfolded g_looked T;have g_joint:Fn l.prog w K mg base "joint" 8 ["one","other"] (qxj cWo cBa cCa cBo):=D_joint.fn (by walk_at "u2") fun _ _ F=>qsv F g_unfolded g_looked g_looked_by g_every b_list T;have g_parting:Fn l.prog w K mg base "parting" 9 ["one","other"] (qch cWo cBa cCa cBo):=D_parting.fn (by walk_at "u2") fun _ _ F=>qwn F g_joint g_corner;have g_alike:Fn l.prog w K mg base "alike" 10 ["one","other"] (qjf cWo cBa cCa cBo):=D_alike.fn (by walk_at "u2") fun _ _ F=>qyv F g_parting;have g__law_cell_at:Fn l.prog w K mg base "_law_cell_at" 1 ["_law_script","_law_k"] (spCell K):=D__law_cell_at.fn (by walk_at "u2") fun _ _ F=>ok_cell F b_len;have g__law_top:Fn l.prog w K mg base "_law_top" 1 ["_law_d"] qen:=D__law_top.fn (by walk_at "u1") fun _ _ F=>ok_top F;have g__law_marks:Fn l.prog w K mg base "_law_marks" 2 ["_law_script"] (qvj K):=D__law_marks.fn (by walk_at "u1") fun _ _ F=>qrv F g__law_cell_at g__law_top b_range;have g__law_stretch:Fn l.prog w K mg base "_law_stretch" 1 ["_law_mark","_law_top_here","_law_cell"] qjb:=D__law_stretch.fn (by walk_at "u3") fun _ _ F=>qun F b_min b_max;have g__law_box:Fn l.prog w K mg base "_law_box" 2 ["_law_marks_here","_law_cell","_law_wish"] spBox:=D__law_box.fn (by walk_at "u3") fun _ _ F=>ok_box F g__law_top g__law_stretch b_range b_tuple;have g__law_boxes:Fn l.prog w K mg base "_law_boxes" 3 ["_law_script","_law_marks_here","_law_many"] (qbk K):=D__law_boxes.fn (by walk_at "u3") fun _ _ F=>qwv F g__law_cell_at g__law_box b_range;have g__law_name:Fn l.prog w K mg base "_law_name" 1 ["_law_cell"] quj:=D__law_name.fn (by walk_at "u1") fun _ _ F=>qqv F;have g__law_rule:Fn l.prog w K mg base "_law_rule" 1 ["_law_cell","_law_level","_law_box_here","_law_name_here","_law_calls"] qpj:=D__law_rule.fn (by walk_at "u5") fun _ _ F=>qkv F;have g__law_chains:Fn l.prog w K mg base "_law_chains" 2 ["_law_script","_law_sizes","_law_boxes_here","_law_at"] (spCh1 K):=D__law_chains.fn (by walk_at "u4") fun _ _ F=>qao F g__law_cell_at g__law_name g__law_rule b_range b_int;have g__law_turned:Fn l.prog w K mg base "_law_turned" 1 ["_law_word"] qbf:=D__law_turned.fn (by walk_at "u1") fun _ _ F=>qjr F;have g__law_has:Fn l.prog w K mg base "_law_has" 1 ["_law_box_here","_law_parcel_here"] spIn:=D__law_has.fn (by walk_at "u2") fun _ _ F=>ok_in F b_range;have g__law_parcel:Fn l.prog w K mg base "_law_parcel" 2 ["_law_marks_here","_law_cell","_law_at"] qsj:=D__law_parcel.fn (by walk_at "u3") fun _ _ F=>qnv F g__law_top b_range b_min b_max b_tuple;have grd0:Fn l.prog w K mg base "_law_read" 2 ["_law_chains_here","_law_name_here","_law_parcel_here","_law_seen"] (spRd 0):=D__law_read.fn (by walk_at "u4") fun _ _ F=>ok_rd0 F;have grd1:Fn l.prog w K mg base "_law_read" 3 ["_law_chains_here","_law_name_here","_law_parcel_here","_law_seen"] (spRd 1):=D__law_read.fn (by walk_at "u4") fun _ _ F=>ok_rd 0 F g__law_has grd0 b_enumerate;have grd2:Fn l.prog w K mg base "_law_read" 4 ["_law_chains_here","_law_name_here","_law_parcel_here","_law_seen"] (spRd 2):=D__law_read.fn (by walk_at "u4") fun _ _ F=>ok_rd 1 F g__law_has grd1 b_enumerate;have g__law_read:Fn l.prog w K mg base "_law_read" 5 ["_law_chains_here","_law_name_here","_law_parcel_here","_law_seen"] (spRd 3):=D__law_read.fn (by walk_at "u4") fun _ _ F=>ok_rd 2 F g__law_has grd2 b_enumerate;have g__law_apart:Fn l.prog w K mg base "_law_apart" 1 ["_law_box_here","_law_other"] qif:=D__law_apart.fn (by walk_at "u2") fun _ _ F=>qxv F b_range;have g__law_halves:Fn l.prog w K mg base "_law_halves" 1 ["_law_rule_here","_law_cell"] qgf:=D__law_halves.fn (by walk_at "u2") fun _ _ F=>qmr F;have g__law_whole:Fn l.prog w K mg base "_law_whole" 2 [] qib:=D__law_whole.fn (fun _ _ _ _ _ _ us hl=>match us,hl with | [],_=>rfl) fun _ _ F=>qtn F g__law_top b_range b_tuple;have g__law_new:Fn l.prog w K mg base "_law_new" 2 ["_law_rules","_law_k","_law_way","_law_cell","_law_fresh"] qtj:=D__law_new.fn (by walk_at "u5") fun _ _ F=>qpv F g__law_apart g__law_halves b_len;have g__law_changed:Fn l.prog w K mg base "_law_changed" 3 ["_law_default","_law_chains_here","_law_cell","_law_fresh"] qak:=D__law_changed.fn (by walk_at "u4") fun _ _ F=>qvv F g__law_whole g__law_new b_len;have g__law_spoiled:Fn l.prog w K mg base "_law_spoiled" 6 ["_law_default","_law_chains_here","_law_turned_here","_law_parcel_here"] qoj:=D__law_spoiled.fn (by walk_at "u4") fun _ _ F=>qjv F g__law_read g__law_turned b_tuple;exact ok_law F g__law_cell_at g__law_marks g__law_boxes g__law_chains g__law_changed gi_Book g_alike g_parting g__law_parcel g__law_spoiled b_range b_list b_sum b_isinstance b_tuple m_Book T
theorem walk {l:W.OpenLaw}{q:Program}{loose:List Str}{XP:(Str→Option Value)→Heap→Prop}{YP:World→Heap→Prop}{d:DefRec}{K:Params→W.Frag}(hn:l.most=some 63)(hdf:d.params.defaults=[])
  (hY:∀ (w:World) (h:Heap),YP w h→(K w.params).In h)
  (F:∀ (w:World) (mg:Str→Option Value) (fa:Addr) (h:Heap),(K w.params).In h→h.Ns mainGlobals mg→mg d.name=some (.ref fa) →
   ∃ fd:FuncData,(∀ (s:Shared) (u:Value),BindsTo s fd ⟨[u],[]⟩ [("_law_script",u)])∧∀ base:Heap,(K w.params).In base→base.Ns mainGlobals mg→FnOk l.prog w (K w.params) mg base CX0 13 fa fd ["_law_script"] (quu (K w.params))) :
  PySem.W.WalkO q loose XP YP l.row.toRowW d [] (fun f vs=>PySem.call f vs) :=
 L2.walk_of (n:=63) (k:=13) (x:="_law_script") (CX:=fun _=>CX0) (sp:=fun w=>quu (K w.params)) hn (by decide) hdf ⟨rfl,by decide,by decide,rfl⟩ hY F (fun _ _ a ns hl _ hS=>⟨a,ns,rfl,hS,hl,fun _=>rfl⟩) fun _ _ _ _ _ z=>z
namespace Hd
open PySem PySem.W
noncomputable section
def en (P:Params)(x:Str)(n:Nat)(v:Value):DictEntry:=⟨PyData.keyHash P x,.str x n,v⟩
def tO (xs:List Value):Obj:=⟨.type "tuple",none,.seq ⟨xs⟩ 0,⟨[]⟩⟩
def dO (es:List DictEntry)(n:Nat):Obj:=⟨.type "dict",none,.dict ⟨es⟩ n,⟨[]⟩⟩
def nO (xs:List Value):Obj:=⟨.none,none,.fields ⟨xs⟩,⟨[]⟩⟩
def nF (n q:Str)(s:Stmt):Obj:=⟨.none,none,.func ⟨n,q,qo4 s,.stmts (qw3 s),qh s,0,[],.none,.none,.none,.none,none,.none,.none,0⟩,⟨[]⟩⟩
def uF (n q:Str)(s:Stmt)(a b c d e f:Value):Obj:=⟨.type "function",none,.func ⟨n,q,qo4 s,.stmts (qw3 s),qh s,3,[],a,b,c,d,none,e,f,0⟩,⟨[]⟩⟩
def cO (n:Str)(a:Nat)(q:Str)(b c:Nat)(x1 x2 x3 x4 x5:Int)(r1:Nat)(v:Bool)(x6:Int)(r2:Nat)(u1 u2 u3 u4:Value)(x7 x8:Int)(d:Nat):Obj:=⟨.type "code",none,.fields ⟨[.str n a,.str q b,.str "/claim/cut.py" c,.int x1 0,.int x2 0,.int x3 0,.int x4 0,.int x5 0,.ref r1,.bool v,.int x6 0,.ref r2,u1,u2,u3,u4,.int x7 0,.int x8 0,.str "/claim/cut.py" d]⟩,⟨[]⟩⟩
def rO (a b c:Nat)(v:Value):Obj:=⟨.type "frame",none,.plain,⟨[some (.ref a),some (.ref b),some (.ref c),none,some v,none,some (.ref 0)]⟩⟩
def alt (l:List Obj):Bool→List Obj:=@List.rec Obj (fun _=>Bool→List Obj) (fun _=>[]) (fun x _ ih b=>@Bool.rec (fun _=>List Obj) (ih true) (x::ih false) b) l
def mkT (n:Nat):List Obj→BT:=@Nat.rec (fun _=>List Obj→BT) (fun _=>.nil) (fun _ ih l=>@List.rec Obj (fun _=>BT) .nil (fun x r _=>.node x (ih (alt r true)) (ih (alt r false))) l) n
def cF (n:Str)(a:Nat)(q:Str)(l k:Int)(r t:Nat):Obj:=cO n a q (a+1) (a+2) l k 0 0 3 r true 181 (r+1) .none (.ref (r+2)) (.ref (r+3)) (.ref (r+4)) (t:Int) l (t+1)
def cG (n:Str)(a:Nat)(q:Str)(l k:Int)(r t:Nat):Obj:=cO n a q (a+1) (a+2) l k 0 0 3 r true 181 (r+1) .none .none .none (.ref (r+2)) (t:Int) l (t+1)
def cH (n:Str)(a:Nat)(l:Int)(r t:Nat):Obj:=cO n a n (a+1) (a+2) l 0 0 0 0 r false 181 (r+1) .none .none .none .none (t:Int) l (t+1)
def uG (n q:Str)(s:Stmt)(d:Value)(e:Nat):Obj:=uF n q s .none .none .none d (.ref e) .none
def uH (n:Str)(s:Stmt)(d:Value)(e:Nat):Obj:=uG n n s d e
def nG (n:Str)(s:Stmt):Obj:=nF n n s
def sO (r:Nat):Obj:=⟨.type "super",none,.fields ⟨[.ref r,.ref r,.ref r]⟩,⟨[]⟩⟩
def bO (r:Nat):Obj:=⟨.type "builtin_function_or_method",none,.fields ⟨[.builtin "object.__init_subclass__",.ref r]⟩,⟨[]⟩⟩
def sq (l:List Str):Nat→List Value:=@List.rec Str (fun _=>Nat→List Value) (fun _=>[]) (fun x _ ih a=>.str x a::ih (a+1)) l
def tS (l:List Str)(a:Nat):Obj:=tO (sq l a)
def t3 (l:List (Int×Int×Nat)):List Value:=@List.rec (Int×Int×Nat) (fun _=>List Value) [] (fun x _ ih=>.int x.1 0::.int x.2.1 0::.ref x.2.2::ih) l
def m0:Value:=.str "__main__" 164
def m1:Value:=.str "sieve.stretches" 194
def m2:Value:=.str "sieve.boxes" 214
def m3:Value:=.str "sieve.errors" 262
def m4:Value:=.str "sieve.rules" 385
def m5:Value:=.str "sieve.books" 555
def m6:Value:=.str "sieve.rows" 688
def m7:Value:=.str "sieve.looking" 738
def m8:Value:=.str "sieve.comparing" 771
def m9:Value:=.str "law_sieve_k34_whole_same_meaning" 810
abbrev b7 (P:Params):Obj:=boot_o_7 P
abbrev b8 (P:Params):Obj:=boot_o_8 P
def z0:Obj:=cH "<module>" 182 1 11 185
def z1:Obj:=rO 13 3 3 (.str "__main__" 164)
def z2 (P:Params):Obj:=dO [en P "__name__" 165 (.str "sieve.rules" 385),en P "__doc__" 166 .none,en P "__package__" 167 .none,en P "__loader__" 168 (.builtin "__main__.__loader__#opaque"),en P "__spec__" 169 .none,en P "__annotations__" 170 (.ref 6),en P "__builtins__" 171 (.ref 4),en P "__file__" 173 (.str "/claim/cut.py" 172),en P "__cached__" 174 .none,en P "_wall" 193 (.ref 21),en P "holds" 203 (.ref 28),en P "meet" 213 (.ref 35),en P "has" 221 (.ref 40),en P "common" 233 (.ref 47),en P "corner" 239 (.ref 52),en P "outside" 248 (.ref 59),en P "rests" 261 (.ref 66),en P "SieveError" 281 (.ref 76),en P "TwoChains" 306 (.ref 96),en P "NoChain" 331 (.ref 115),en P "Ring" 357 (.ref 134),en P "TooLong" 382 (.ref 153),en P "GREATEST_ADDRESS" 384 (.int 4294967295 383),en P "GREATEST_TURN" 388 (.int 3 387),en P "GREATEST_KIND" 390 (.int 255 389),en P "GREATEST_DOOR" 392 (.int 65535 391)] 26
def z3:Obj:=nO (t3 [(1,0,20),(5,0,27),(7,0,34),(14,0,39),(16,0,46),(24,0,51),(26,0,58),(33,0,65),(43,0,72),(45,0,85),(50,0,104),(55,0,123),(61,0,142)])
def z4:Obj:=tS ["k"] 190
def z5:Obj:=nG "_wall" qeq
def z6:Obj:=cF "_wall" 187 "_wall" 1 1 15 191
def z7:Obj:=uH "_wall" qeq m0 20
def z8:Obj:=tS ["stretch","number"] 199
def z9:Obj:=nG "holds" qdq
def za:Obj:=cF "holds" 196 "holds" 5 2 22 201
def zb:Obj:=uH "holds" qdq m1 27
def zc:Obj:=tS ["one","other","low","high"] 207
def zd:Obj:=nG "meet" qih
def ze:Obj:=cF "meet" 204 "meet" 7 2 29 211
def zf:Obj:=uH "meet" qih m1 34
def z10:Obj:=nG "has" s_has
def z11:Obj:=cG "has" 216 "has" 14 2 36 219
def z12:Obj:=uH "has" s_has m2 39
def z13:Obj:=tS ["box","other","stretches","stretch","beside","both"] 225
def z14:Obj:=nG "common" qc9
def z15:Obj:=cF "common" 222 "common" 16 2 41 231
def z16:Obj:=uH "common" qc9 m2 46
def z17:Obj:=nG "corner" qy7
def z18:Obj:=cG "corner" 234 "corner" 24 1 48 237
def z19:Obj:=uH "corner" qy7 m2 51
def z1a:Obj:=tS ["stretch","inner","sides"] 243
def z1b:Obj:=nG "outside" qf7
def z1c:Obj:=cF "outside" 240 "outside" 26 2 53 246
def z1d:Obj:=uH "outside" qf7 m2 58
def z1e:Obj:=tS ["box","other","both","told","place","stretch","side"] 252
def z1f:Obj:=nG "rests" qrb
def z20:Obj:=cF "rests" 249 "rests" 33 2 60 259
def z21:Obj:=uH "rests" qrb m2 65
def z22:Obj:=tO [.type "ValueError"]
def z23:Obj:=⟨.type "builtin_function_or_method",none,(.fields ⟨[.builtin "type.__prepare__",.type "type"]⟩),⟨[]⟩⟩
def z24 (P:Params):Obj:=dO [en P "__module__" 271 (.str "sieve.errors" 262),en P "__qualname__" 273 (.str "SieveError" 272),en P "__firstlineno__" 275 (.int 43 274),en P "__static_attributes__" 276 (.ref 74)] 4
def z25:Obj:=cH "SieveError" 266 43 70 269
def z26:Obj:=rO 72 3 69 (.str "sieve.errors" 262)
def z27 (P:Params):Obj:=dO [en P "__module__" 271 (.str "sieve.errors" 262),en P "__firstlineno__" 275 (.int 43 274),en P "__static_attributes__" 276 (.ref 74),en P "__weakref__" 278 (.ref 77),en P "__doc__" 279 .none] 3
def z28:Obj:=⟨.type "type",none,(.cls ⟨"SieveError",[.type "ValueError"],[.ref 76,.type "ValueError",.type "Exception",.type "BaseException",.type "object"],75,"SieveError",true,[],[.ref 96,.ref 115,.ref 134,.ref 153],false,none,false⟩),⟨[(some (.ref 67)),none,(some (.str "SieveError" 264)),(some (.str "SieveError" 272)),(some (.builtin "ValueError.__new__")),(some (.bool true))]⟩⟩
def z29:Obj:=⟨.type "getset_descriptor",none,(.fields ⟨[.str "__weakref__" 277,.ref 76,.builtin "ExceptionGroup.__weakref__",.none]⟩),⟨[]⟩⟩
def z2a:Obj:=sO 76
def z2b:Obj:=bO 76
def z2c:Obj:=tO [.ref 76]
def z2d (P:Params):Obj:=dO [en P "__module__" 289 (.str "sieve.errors" 262),en P "__qualname__" 291 (.str "TwoChains" 290),en P "__firstlineno__" 293 (.int 45 292),en P "__init__" 301 (.ref 93),en P "__static_attributes__" 303 (.ref 94)] 5
def z2e:Obj:=nO (t3 [(47,4,92)])
def z2f:Obj:=cH "TwoChains" 284 45 83 287
def z30:Obj:=rO 85 3 82 (.str "sieve.errors" 262)
def z31:Obj:=tS ["self","name"] 297
def z32:Obj:=nF "__init__" "TwoChains.__init__" qj3
def z33:Obj:=cF "__init__" 294 "TwoChains.__init__" 47 2 87 299
def z34:Obj:=uG "__init__" "TwoChains.__init__" qj3 m3 92
def z35:Obj:=tS ["name"] 302
def z36 (P:Params):Obj:=dO [en P "__module__" 289 (.str "sieve.errors" 262),en P "__firstlineno__" 293 (.int 45 292),en P "__init__" 301 (.ref 93),en P "__static_attributes__" 303 (.ref 94),en P "__doc__" 304 .none] 2
def z37:Obj:=⟨.type "type",none,(.cls ⟨"TwoChains",[.ref 76],[.ref 96,.ref 76,.type "ValueError",.type "Exception",.type "BaseException",.type "object"],95,"TwoChains",true,[],[],false,none,false⟩),⟨[(some (.ref 80)),none,(some (.str "TwoChains" 282)),(some (.str "TwoChains" 290)),(some (.builtin "ValueError.__new__")),(some (.bool true))]⟩⟩
def z38:Obj:=sO 96
def z39:Obj:=bO 96
def z3a (P:Params):Obj:=dO [en P "__module__" 314 (.str "sieve.errors" 262),en P "__qualname__" 316 (.str "NoChain" 315),en P "__firstlineno__" 318 (.int 50 317),en P "__init__" 326 (.ref 112),en P "__static_attributes__" 328 (.ref 113)] 5
def z3b:Obj:=nO (t3 [(52,4,111)])
def z3c:Obj:=cH "NoChain" 309 50 102 312
def z3d:Obj:=rO 104 3 101 (.str "sieve.errors" 262)
def z3e:Obj:=tS ["self","name"] 322
def z3f:Obj:=nF "__init__" "NoChain.__init__" qu5
def z40:Obj:=cF "__init__" 319 "NoChain.__init__" 52 2 106 324
def z41:Obj:=uG "__init__" "NoChain.__init__" qu5 m3 111
def z42:Obj:=tS ["name"] 327
def z43 (P:Params):Obj:=dO [en P "__module__" 314 (.str "sieve.errors" 262),en P "__firstlineno__" 318 (.int 50 317),en P "__init__" 326 (.ref 112),en P "__static_attributes__" 328 (.ref 113),en P "__doc__" 329 .none] 2
def z44:Obj:=⟨.type "type",none,(.cls ⟨"NoChain",[.ref 76],[.ref 115,.ref 76,.type "ValueError",.type "Exception",.type "BaseException",.type "object"],114,"NoChain",true,[],[],false,none,false⟩),⟨[(some (.ref 99)),none,(some (.str "NoChain" 307)),(some (.str "NoChain" 315)),(some (.builtin "ValueError.__new__")),(some (.bool true))]⟩⟩
def z45:Obj:=sO 115
def z46:Obj:=bO 115
def z47 (P:Params):Obj:=dO [en P "__module__" 339 (.str "sieve.errors" 262),en P "__qualname__" 341 (.str "Ring" 340),en P "__firstlineno__" 343 (.int 55 342),en P "__init__" 352 (.ref 131),en P "__static_attributes__" 354 (.ref 132)] 5
def z48:Obj:=nO (t3 [(57,4,130)])
def z49:Obj:=cH "Ring" 334 55 121 337
def z4a:Obj:=rO 123 3 120 (.str "sieve.errors" 262)
def z4b:Obj:=tS ["self","names","ring"] 347
def z4c:Obj:=nF "__init__" "Ring.__init__" qg7
def z4d:Obj:=cF "__init__" 344 "Ring.__init__" 57 2 125 350
def z4e:Obj:=uG "__init__" "Ring.__init__" qg7 m3 130
def z4f:Obj:=tS ["names"] 353
def z50 (P:Params):Obj:=dO [en P "__module__" 339 (.str "sieve.errors" 262),en P "__firstlineno__" 343 (.int 55 342),en P "__init__" 352 (.ref 131),en P "__static_attributes__" 354 (.ref 132),en P "__doc__" 355 .none] 2
def z51:Obj:=⟨.type "type",none,(.cls ⟨"Ring",[.ref 76],[.ref 134,.ref 76,.type "ValueError",.type "Exception",.type "BaseException",.type "object"],133,"Ring",true,[],[],false,none,false⟩),⟨[(some (.ref 118)),none,(some (.str "Ring" 332)),(some (.str "Ring" 340)),(some (.builtin "ValueError.__new__")),(some (.bool true))]⟩⟩
def z52:Obj:=sO 134
def z53:Obj:=bO 134
def z54 (P:Params):Obj:=dO [en P "__module__" 365 (.str "sieve.errors" 262),en P "__qualname__" 367 (.str "TooLong" 366),en P "__firstlineno__" 369 (.int 61 368),en P "__init__" 377 (.ref 150),en P "__static_attributes__" 379 (.ref 151)] 5
def z55:Obj:=nO (t3 [(63,4,149)])
def z56:Obj:=cH "TooLong" 360 61 140 363
def z57:Obj:=rO 142 3 139 (.str "sieve.errors" 262)
def z58:Obj:=tS ["self","total"] 373
def z59:Obj:=nF "__init__" "TooLong.__init__" qt5
def z5a:Obj:=cF "__init__" 370 "TooLong.__init__" 63 2 144 375
def z5b:Obj:=uG "__init__" "TooLong.__init__" qt5 m3 149
def z5c:Obj:=tS ["total"] 378
def z5d (P:Params):Obj:=dO [en P "__module__" 365 (.str "sieve.errors" 262),en P "__firstlineno__" 369 (.int 61 368),en P "__init__" 377 (.ref 150),en P "__static_attributes__" 379 (.ref 151),en P "__doc__" 380 .none] 2
def z5e:Obj:=⟨.type "type",none,(.cls ⟨"TooLong",[.ref 76],[.ref 153,.ref 76,.type "ValueError",.type "Exception",.type "BaseException",.type "object"],152,"TooLong",true,[],[],false,none,false⟩),⟨[(some (.ref 137)),none,(some (.str "TooLong" 358)),(some (.str "TooLong" 366)),(some (.builtin "ValueError.__new__")),(some (.bool true))]⟩⟩
def z5f:Obj:=sO 153
def z60:Obj:=bO 153
def z61 (P:Params):Obj:=dO [en P "__name__" 165 (.str "sieve.books" 555),en P "__doc__" 166 .none,en P "__package__" 167 .none,en P "__loader__" 168 (.builtin "__main__.__loader__#opaque"),en P "__spec__" 169 .none,en P "__annotations__" 170 (.ref 6),en P "__builtins__" 171 (.ref 4),en P "__file__" 173 (.str "/claim/cut.py" 172),en P "__cached__" 174 .none,en P "_wall" 193 (.ref 21),en P "holds" 203 (.ref 28),en P "meet" 213 (.ref 35),en P "has" 221 (.ref 40),en P "common" 233 (.ref 47),en P "corner" 239 (.ref 52),en P "outside" 248 (.ref 59),en P "rests" 261 (.ref 66),en P "SieveError" 281 (.ref 76),en P "TwoChains" 306 (.ref 96),en P "NoChain" 331 (.ref 115),en P "Ring" 357 (.ref 134),en P "TooLong" 382 (.ref 153),en P "GREATEST_ADDRESS" 384 (.int 4294967295 383),en P "GREATEST_TURN" 388 (.int 3 387),en P "GREATEST_KIND" 390 (.int 255 389),en P "GREATEST_DOOR" 392 (.int 65535 391),en P "every" 400 (.ref 162),en P "Rule" 437 (.ref 186),en P "Word" 477 (.ref 221),en P "Back" 507 (.ref 247),en P "Call" 547 (.ref 280),en P "rule_of" 554 (.ref 289),en P "MAIN" 558 (.str "main" 557),en P "MOST_LENGTH" 560 (.int 120 559),en P "called_names" 566 (.ref 294),en P "refuse_two_chains" 575 (.ref 301),en P "refuse_missing_chains" 584 (.ref 308),en P "ready_names" 590 (.ref 313),en P "chain_lengths" 596 (.ref 318),en P "first_unmeasured" 602 (.ref 323),en P "ring_among" 612 (.ref 330)] 41
def z62:Obj:=nO (t3 [(1,0,20),(5,0,27),(7,0,34),(14,0,39),(16,0,46),(24,0,51),(26,0,58),(33,0,65),(43,0,72),(45,0,85),(50,0,104),(55,0,123),(61,0,142),(71,0,161),(75,0,168),(82,0,196),(93,0,229),(100,0,255),(111,0,288),(120,0,293),(122,0,300),(126,0,307),(131,0,312),(138,0,317),(147,0,322),(149,0,329)])
def z63:Obj:=tS ["addresses","doors"] 396
def z64:Obj:=nG "every" qub
def z65:Obj:=cF "every" 393 "every" 71 0 156 398
def z66:Obj:=uH "every" qub m4 161
def z67 (P:Params):Obj:=dO [en P "__module__" 408 (.str "sieve.rules" 385),en P "__qualname__" 410 (.str "Rule" 409),en P "__firstlineno__" 412 (.int 75 411),en P "__init__" 420 (.ref 176),en P "fits" 428 (.ref 183),en P "__static_attributes__" 430 (.ref 184)] 6
def z68:Obj:=nO (t3 [(77,4,175),(80,4,182)])
def z69:Obj:=cH "Rule" 403 75 166 406
def z6a:Obj:=rO 168 3 165 (.str "sieve.rules" 385)
def z6b:Obj:=tS ["self","box"] 416
def z6c:Obj:=nF "__init__" "Rule.__init__" qx1
def z6d:Obj:=cF "__init__" 413 "Rule.__init__" 77 2 170 418
def z6e:Obj:=uG "__init__" "Rule.__init__" qx1 m4 175
def z6f:Obj:=tS ["self","parcel"] 424
def z70:Obj:=nF "fits" "Rule.fits" qyb
def z71:Obj:=cF "fits" 421 "Rule.fits" 80 2 177 426
def z72:Obj:=uG "fits" "Rule.fits" qyb m4 182
def z73:Obj:=tS ["box"] 429
def z74 (P:Params):Obj:=dO [en P "__module__" 408 (.str "sieve.rules" 385),en P "__firstlineno__" 412 (.int 75 411),en P "__init__" 420 (.ref 176),en P "fits" 428 (.ref 183),en P "__static_attributes__" 430 (.ref 184),en P "__dict__" 432 (.ref 187),en P "__weakref__" 434 (.ref 188),en P "__doc__" 435 .none] 4
def z75:Obj:=⟨.type "type",none,(.cls ⟨"Rule",[.type "object"],[.ref 186,.type "object"],185,"Rule",true,[],[.ref 221,.ref 247,.ref 280],false,none,false⟩),⟨[none,none,(some (.str "Rule" 401)),(some (.str "Rule" 409)),(some (.builtin "object.__new__")),(some (.bool true))]⟩⟩
def z76:Obj:=⟨.type "getset_descriptor",none,(.fields ⟨[.str "__dict__" 431,.ref 186,.builtin "function.__dict__",.builtin "function.__dict__#set"]⟩),⟨[]⟩⟩
def z77:Obj:=⟨.type "getset_descriptor",none,(.fields ⟨[.str "__weakref__" 433,.ref 186,.builtin "ExceptionGroup.__weakref__",.none]⟩),⟨[]⟩⟩
def z78:Obj:=sO 186
def z79:Obj:=bO 186
def z7a:Obj:=tO [.ref 186]
def z7b (P:Params):Obj:=dO [en P "__module__" 445 (.str "sieve.rules" 385),en P "__qualname__" 447 (.str "Word" 446),en P "__firstlineno__" 449 (.int 82 448),en P "__init__" 458 (.ref 204),en P "told" 465 (.ref 211),en P "head" 472 (.ref 218),en P "__static_attributes__" 474 (.ref 219)] 7
def z7c:Obj:=nO (t3 [(84,4,203),(88,4,210),(91,4,217)])
def z7d:Obj:=cH "Word" 440 82 194 443
def z7e:Obj:=rO 196 3 193 (.str "sieve.rules" 385)
def z7f:Obj:=tS ["self","box","word"] 453
def z80:Obj:=nF "__init__" "Word.__init__" qy2
def z81:Obj:=cF "__init__" 450 "Word.__init__" 84 3 198 456
def z82:Obj:=uG "__init__" "Word.__init__" qy2 m4 203
def z83:Obj:=tS ["self"] 462
def z84:Obj:=nF "told" "Word.told" qk8
def z85:Obj:=cF "told" 459 "Word.told" 88 1 205 463
def z86:Obj:=uG "told" "Word.told" qk8 m4 210
def z87:Obj:=tS ["self"] 469
def z88:Obj:=nF "head" "Word.head" qxb
def z89:Obj:=cF "head" 466 "Word.head" 91 1 212 470
def z8a:Obj:=uG "head" "Word.head" qxb m4 217
def z8b:Obj:=tS ["word"] 473
def z8c (P:Params):Obj:=dO [en P "__module__" 445 (.str "sieve.rules" 385),en P "__firstlineno__" 449 (.int 82 448),en P "__init__" 458 (.ref 204),en P "told" 465 (.ref 211),en P "head" 472 (.ref 218),en P "__static_attributes__" 474 (.ref 219),en P "__doc__" 475 .none] 2
def z8d:Obj:=⟨.type "type",none,(.cls ⟨"Word",[.ref 186],[.ref 221,.ref 186,.type "object"],220,"Word",true,[],[],false,none,false⟩),⟨[(some (.ref 191)),none,(some (.str "Word" 438)),(some (.str "Word" 446)),(some (.builtin "object.__new__")),(some (.bool true))]⟩⟩
def z8e:Obj:=sO 221
def z8f:Obj:=bO 221
def z90 (P:Params):Obj:=dO [en P "__module__" 485 (.str "sieve.rules" 385),en P "__qualname__" 487 (.str "Back" 486),en P "__firstlineno__" 489 (.int 93 488),en P "told" 496 (.ref 237),en P "head" 503 (.ref 244),en P "__static_attributes__" 504 (.ref 245)] 6
def z91:Obj:=nO (t3 [(95,4,236),(98,4,243)])
def z92:Obj:=cH "Back" 480 93 227 483
def z93:Obj:=rO 229 3 226 (.str "sieve.rules" 385)
def z94:Obj:=tS ["self"] 493
def z95:Obj:=nF "told" "Back.told" qcc
def z96:Obj:=cF "told" 490 "Back.told" 95 1 231 494
def z97:Obj:=uG "told" "Back.told" qcc m4 236
def z98:Obj:=tS ["self"] 500
def z99:Obj:=nF "head" "Back.head" qdc
def z9a:Obj:=cF "head" 497 "Back.head" 98 1 238 501
def z9b:Obj:=uG "head" "Back.head" qdc m4 243
def z9c (P:Params):Obj:=dO [en P "__module__" 485 (.str "sieve.rules" 385),en P "__firstlineno__" 489 (.int 93 488),en P "told" 496 (.ref 237),en P "head" 503 (.ref 244),en P "__static_attributes__" 504 (.ref 245),en P "__doc__" 505 .none] 2
def z9d:Obj:=⟨.type "type",none,(.cls ⟨"Back",[.ref 186],[.ref 247,.ref 186,.type "object"],246,"Back",true,[],[],false,none,false⟩),⟨[(some (.ref 224)),none,(some (.str "Back" 478)),(some (.str "Back" 486)),(some (.builtin "object.__new__")),(some (.bool true))]⟩⟩
def z9e:Obj:=sO 247
def z9f:Obj:=bO 247
def za0 (P:Params):Obj:=dO [en P "__module__" 515 (.str "sieve.rules" 385),en P "__qualname__" 517 (.str "Call" 516),en P "__firstlineno__" 519 (.int 100 518),en P "__init__" 528 (.ref 263),en P "told" 535 (.ref 270),en P "head" 542 (.ref 277),en P "__static_attributes__" 544 (.ref 278)] 7
def za1:Obj:=nO (t3 [(102,4,262),(106,4,269),(109,4,276)])
def za2:Obj:=cH "Call" 510 100 253 513
def za3:Obj:=rO 255 3 252 (.str "sieve.rules" 385)
def za4:Obj:=tS ["self","box","name"] 523
def za5:Obj:=nF "__init__" "Call.__init__" qz2
def za6:Obj:=cF "__init__" 520 "Call.__init__" 102 3 257 526
def za7:Obj:=uG "__init__" "Call.__init__" qz2 m4 262
def za8:Obj:=tS ["self"] 532
def za9:Obj:=nF "told" "Call.told" qzb
def zaa:Obj:=cF "told" 529 "Call.told" 106 1 264 533
def zab:Obj:=uG "told" "Call.told" qzb m4 269
def zac:Obj:=tS ["self"] 539
def zad:Obj:=nF "head" "Call.head" qac
def zae:Obj:=cF "head" 536 "Call.head" 109 1 271 540
def zaf:Obj:=uG "head" "Call.head" qac m4 276
def zb0:Obj:=tS ["name"] 543
def zb1 (P:Params):Obj:=dO [en P "__module__" 515 (.str "sieve.rules" 385),en P "__firstlineno__" 519 (.int 100 518),en P "__init__" 528 (.ref 263),en P "told" 535 (.ref 270),en P "head" 542 (.ref 277),en P "__static_attributes__" 544 (.ref 278),en P "__doc__" 545 .none] 2
def zb2:Obj:=⟨.type "type",none,(.cls ⟨"Call",[.ref 186],[.ref 280,.ref 186,.type "object"],279,"Call",true,[],[],false,none,false⟩),⟨[(some (.ref 250)),none,(some (.str "Call" 508)),(some (.str "Call" 516)),(some (.builtin "object.__new__")),(some (.bool true))]⟩⟩
def zb3:Obj:=sO 280
def zb4:Obj:=bO 280
def zb5:Obj:=tS ["told"] 551
def zb6:Obj:=nG "rule_of" qd7
def zb7:Obj:=cF "rule_of" 548 "rule_of" 111 1 283 552
def zb8:Obj:=uH "rule_of" qd7 m4 288
def zb9:Obj:=nG "called_names" qr2
def zba:Obj:=cG "called_names" 561 "called_names" 120 1 290 564
def zbb:Obj:=uH "called_names" qr2 m5 293
def zbc:Obj:=tS ["names","place","name"] 570
def zbd:Obj:=nG "refuse_two_chains" qw1
def zbe:Obj:=cF "refuse_two_chains" 567 "refuse_two_chains" 122 1 295 573
def zbf:Obj:=uH "refuse_two_chains" qw1 m5 300
def zc0:Obj:=tS ["chains","name","called"] 579
def zc1:Obj:=nG "refuse_missing_chains" qi1
def zc2:Obj:=cF "refuse_missing_chains" 576 "refuse_missing_chains" 126 1 302 582
def zc3:Obj:=uH "refuse_missing_chains" qi1 m5 307
def zc4:Obj:=nG "ready_names" qf3
def zc5:Obj:=cG "ready_names" 585 "ready_names" 131 2 309 588
def zc6:Obj:=uH "ready_names" qf3 m5 312
def zc7:Obj:=nG "chain_lengths" ql2
def zc8:Obj:=cG "chain_lengths" 591 "chain_lengths" 138 1 314 594
def zc9:Obj:=uH "chain_lengths" ql2 m5 317
def zca:Obj:=nG "first_unmeasured" qs5
def zcb:Obj:=cG "first_unmeasured" 597 "first_unmeasured" 147 2 319 600
def zcc:Obj:=uH "first_unmeasured" qs5 m5 322
def zcd:Obj:=tS ["chains","lengths","walked","name"] 606
def zce:Obj:=nG "ring_among" qaa
def zcf:Obj:=cF "ring_among" 603 "ring_among" 149 2 324 610
def zd0:Obj:=uH "ring_among" qaa m5 329
def zd1 (P:Params):Obj:=dO [en P "__name__" 165 (.str "law_sieve_k34_whole_same_meaning" 810),en P "__doc__" 166 .none,en P "__package__" 167 .none,en P "__loader__" 168 (.builtin "__main__.__loader__#opaque"),en P "__spec__" 169 .none,en P "__annotations__" 170 (.ref 6),en P "__builtins__" 171 (.ref 4),en P "__file__" 173 (.str "/claim/cut.py" 172),en P "__cached__" 174 .none,en P "_wall" 193 (.ref 21),en P "holds" 203 (.ref 28),en P "meet" 213 (.ref 35),en P "has" 221 (.ref 40),en P "common" 233 (.ref 47),en P "corner" 239 (.ref 52),en P "outside" 248 (.ref 59),en P "rests" 261 (.ref 66),en P "SieveError" 281 (.ref 76),en P "TwoChains" 306 (.ref 96),en P "NoChain" 331 (.ref 115),en P "Ring" 357 (.ref 134),en P "TooLong" 382 (.ref 153),en P "GREATEST_ADDRESS" 384 (.int 4294967295 383),en P "GREATEST_TURN" 388 (.int 3 387),en P "GREATEST_KIND" 390 (.int 255 389),en P "GREATEST_DOOR" 392 (.int 65535 391),en P "every" 400 (.ref 162),en P "Rule" 437 (.ref 186),en P "Word" 477 (.ref 221),en P "Back" 507 (.ref 247),en P "Call" 547 (.ref 280),en P "rule_of" 554 (.ref 289),en P "MAIN" 558 (.str "main" 557),en P "MOST_LENGTH" 560 (.int 120 559),en P "called_names" 566 (.ref 294),en P "refuse_two_chains" 575 (.ref 301),en P "refuse_missing_chains" 584 (.ref 308),en P "ready_names" 590 (.ref 313),en P "chain_lengths" 596 (.ref 318),en P "first_unmeasured" 602 (.ref 323),en P "ring_among" 612 (.ref 330),en P "Book" 687 (.ref 385),en P "yes_of" 698 (.ref 396),en P "no_of" 707 (.ref 403),en P "unfolded" 720 (.ref 410),en P "ended" 729 (.ref 417),en P "step_from" 737 (.ref 424),en P "pieces" 745 (.ref 429),en P "looked" 762 (.ref 436),en P "looked_by" 770 (.ref 443),en P "joint" 788 (.ref 450),en P "parting" 801 (.ref 457),en P "alike" 809 (.ref 464),en P "_law_cell_at" 819 (.ref 471),en P "_law_top" 826 (.ref 478),en P "_law_marks" 832 (.ref 483),en P "_law_stretch" 844 (.ref 490),en P "_law_box" 850 (.ref 495),en P "_law_boxes" 865 (.ref 502),en P "_law_name" 874 (.ref 509),en P "_law_rule" 886 (.ref 516),en P "_law_chains" 902 (.ref 523),en P "_law_turned" 909 (.ref 530),en P "_law_parcel" 924 (.ref 537),en P "_law_has" 933 (.ref 544),en P "_law_read" 949 (.ref 551),en P "_law_apart" 958 (.ref 558),en P "_law_halves" 972 (.ref 565),en P "_law_whole" 978 (.ref 570),en P "_law_new" 991 (.ref 577),en P "_law_changed" 997 (.ref 582),en P "_law_spoiled" 1003 (.ref 587),en P "law" 1009 (.ref 592)] 73
def zd2:Obj:=nO (t3 [(1,0,20),(5,0,27),(7,0,34),(14,0,39),(16,0,46),(24,0,51),(26,0,58),(33,0,65),(43,0,72),(45,0,85),(50,0,104),(55,0,123),(61,0,142),(71,0,161),(75,0,168),(82,0,196),(93,0,229),(100,0,255),(111,0,288),(120,0,293),(122,0,300),(126,0,307),(131,0,312),(138,0,317),(147,0,322),(149,0,329),(156,0,336),(197,0,395),(203,0,402),(207,0,409),(222,0,416),(226,0,423),(229,0,428),(236,0,435),(250,0,442),(253,0,449),(260,0,456),(265,0,463),(268,0,470),(272,0,477),(274,0,482),(276,0,489),(293,0,494),(300,0,501),(312,0,508),(316,0,515),(323,0,522),(335,0,529),(341,0,536),(356,0,543),(361,0,550),(378,0,557),(383,0,564),(393,0,569),(395,0,576),(408,0,581),(422,0,586),(428,0,591)])
def zd3 (P:Params):Obj:=dO [en P "__module__" 620 (.str "sieve.books" 555),en P "__qualname__" 622 (.str "Book" 621),en P "__firstlineno__" 624 (.int 156 623),en P "__init__" 630 (.ref 342),en P "chain_names" 637 (.ref 349),en P "chain" 645 (.ref 356),en P "rule_at" 655 (.ref 363),en P "length" 662 (.ref 370),en P "length_of" 670 (.ref 377),en P "told" 676 (.ref 382),en P "__static_attributes__" 680 (.ref 383)] 11
def zd4:Obj:=nO (t3 [(158,4,341),(173,4,348),(176,4,355),(181,4,362),(185,4,369),(188,4,376),(191,4,381)])
def zd5:Obj:=cH "Book" 615 156 334 618
def zd6:Obj:=rO 336 3 333 (.str "sieve.books" 555)
def zd7:Obj:=nF "__init__" "Book.__init__" qy1
def zd8:Obj:=cG "__init__" 625 "Book.__init__" 158 3 338 628
def zd9:Obj:=uG "__init__" "Book.__init__" qy1 m5 341
def zda:Obj:=tS ["self"] 634
def zdb:Obj:=nF "chain_names" "Book.chain_names" qv5
def zdc:Obj:=cF "chain_names" 631 "Book.chain_names" 173 1 343 635
def zdd:Obj:=uG "chain_names" "Book.chain_names" qv5 m5 348
def zde:Obj:=tS ["self","name"] 641
def zdf:Obj:=nF "chain" "Book.chain" qba
def ze0:Obj:=cF "chain" 638 "Book.chain" 176 2 350 643
def ze1:Obj:=uG "chain" "Book.chain" qba m5 355
def ze2:Obj:=tS ["self","name","index","rules"] 649
def ze3:Obj:=nF "rule_at" "Book.rule_at" qp3
def ze4:Obj:=cF "rule_at" 646 "Book.rule_at" 181 3 357 653
def ze5:Obj:=uG "rule_at" "Book.rule_at" qp3 m5 362
def ze6:Obj:=tS ["self"] 659
def ze7:Obj:=nF "length" "Book.length" qk4
def ze8:Obj:=cF "length" 656 "Book.length" 185 1 364 660
def ze9:Obj:=uG "length" "Book.length" qk4 m5 369
def zea:Obj:=tS ["self","name"] 666
def zeb:Obj:=nF "length_of" "Book.length_of" qq2
def zec:Obj:=cF "length_of" 663 "Book.length_of" 188 2 371 668
def zed:Obj:=uG "length_of" "Book.length_of" qq2 m5 376
def zee:Obj:=nF "told" "Book.told" qbc
def zef:Obj:=cG "told" 671 "Book.told" 191 1 378 674
def zf0:Obj:=uG "told" "Book.told" qbc m5 381
def zf1:Obj:=tS ["chains","default","lengths"] 677
def zf2 (P:Params):Obj:=dO [en P "__module__" 620 (.str "sieve.books" 555),en P "__firstlineno__" 624 (.int 156 623),en P "__init__" 630 (.ref 342),en P "chain_names" 637 (.ref 349),en P "chain" 645 (.ref 356),en P "rule_at" 655 (.ref 363),en P "length" 662 (.ref 370),en P "length_of" 670 (.ref 377),en P "told" 676 (.ref 382),en P "__static_attributes__" 680 (.ref 383),en P "__dict__" 682 (.ref 386),en P "__weakref__" 684 (.ref 387),en P "__doc__" 685 .none] 4
def zf3:Obj:=⟨.type "type",none,(.cls ⟨"Book",[.type "object"],[.ref 385,.type "object"],384,"Book",true,[],[],false,none,false⟩),⟨[none,none,(some (.str "Book" 613)),(some (.str "Book" 621)),(some (.builtin "object.__new__")),(some (.bool true))]⟩⟩
def zf4:Obj:=⟨.type "getset_descriptor",none,(.fields ⟨[.str "__dict__" 681,.ref 385,.builtin "function.__dict__",.builtin "function.__dict__#set"]⟩),⟨[]⟩⟩
def zf5:Obj:=⟨.type "getset_descriptor",none,(.fields ⟨[.str "__weakref__" 683,.ref 385,.builtin "ExceptionGroup.__weakref__",.none]⟩),⟨[]⟩⟩
def zf6:Obj:=sO 385
def zf7:Obj:=bO 385
def zf8:Obj:=tS ["rule","number","end"] 693
def zf9:Obj:=nG "yes_of" qa9
def zfa:Obj:=cF "yes_of" 690 "yes_of" 197 3 390 696
def zfb:Obj:=uH "yes_of" qa9 m6 395
def zfc:Obj:=tS ["book","rule","number"] 702
def zfd:Obj:=nG "no_of" qsb
def zfe:Obj:=cF "no_of" 699 "no_of" 203 3 397 705
def zff:Obj:=uH "no_of" qsb m6 402
def z100:Obj:=tS ["book","rows","places","place","rule","number","no"] 711
def z101:Obj:=nG "unfolded" qc6
def z102:Obj:=cF "unfolded" 708 "unfolded" 207 1 404 718
def z103:Obj:=uH "unfolded" qc6 m6 409
def z104:Obj:=tS ["rows","default","step"] 724
def z105:Obj:=nG "ended" qvb
def z106:Obj:=cF "ended" 721 "ended" 222 3 411 727
def z107:Obj:=uH "ended" qvb m6 416
def z108:Obj:=tS ["row","fits"] 733
def z109:Obj:=nG "step_from" qm5
def z10a:Obj:=cF "step_from" 730 "step_from" 226 2 418 735
def z10b:Obj:=uH "step_from" qm5 m6 423
def z10c:Obj:=nG "pieces" qx7
def z10d:Obj:=cG "pieces" 740 "pieces" 229 2 425 743
def z10e:Obj:=uH "pieces" qx7 m7 428
def z10f:Obj:=tS ["rows","default","box","told","waiting","place","step","word","row","piece","fits"] 749
def z110:Obj:=nG "looked" qb9
def z111:Obj:=cF "looked" 746 "looked" 236 3 430 760
def z112:Obj:=uH "looked" qb9 m7 435
def z113:Obj:=tS ["book","box"] 766
def z114:Obj:=nG "looked_by" qn5
def z115:Obj:=cF "looked_by" 763 "looked_by" 250 2 437 768
def z116:Obj:=uH "looked_by" qn5 m7 442
def z117:Obj:=tS ["one","other","rows","told","box","way","word","piece","other_way","other_word"] 776
def z118:Obj:=nG "joint" qtb
def z119:Obj:=cF "joint" 773 "joint" 253 2 444 786
def z11a:Obj:=uH "joint" qtb m8 449
def z11b:Obj:=tS ["one","other","box","way","word","other_way","other_word"] 792
def z11c:Obj:=nG "parting" qe7
def z11d:Obj:=cF "parting" 789 "parting" 260 2 451 799
def z11e:Obj:=uH "parting" qe7 m8 456
def z11f:Obj:=tS ["one","other"] 805
def z120:Obj:=nG "alike" qwb
def z121:Obj:=cF "alike" 802 "alike" 265 2 458 807
def z122:Obj:=uH "alike" qwb m8 463
def z123:Obj:=tS ["_law_script","_law_k"] 815
def z124:Obj:=nG "_law_cell_at" qo3
def z125:Obj:=cF "_law_cell_at" 812 "_law_cell_at" 268 2 465 817
def z126:Obj:=uH "_law_cell_at" qo3 m9 470
def z127:Obj:=tS ["_law_d"] 823
def z128:Obj:=nG "_law_top" qe6
def z129:Obj:=cF "_law_top" 820 "_law_top" 272 1 472 824
def z12a:Obj:=uH "_law_top" qe6 m9 477
def z12b:Obj:=nG "_law_marks" qy3
def z12c:Obj:=cG "_law_marks" 827 "_law_marks" 274 1 479 830
def z12d:Obj:=uH "_law_marks" qy3 m9 482
def z12e:Obj:=tS ["_law_mark","_law_top_here","_law_cell","_law_way","_law_one","_law_two"] 836
def z12f:Obj:=nG "_law_stretch" qn3
def z130:Obj:=cF "_law_stretch" 833 "_law_stretch" 276 3 484 842
def z131:Obj:=uH "_law_stretch" qn3 m9 489
def z132:Obj:=nG "_law_box" qi5
def z133:Obj:=cG "_law_box" 845 "_law_box" 293 3 491 848
def z134:Obj:=uH "_law_box" qi5 m9 494
def z135:Obj:=tS ["_law_script","_law_marks_here","_law_many","_law_boxes_here","_law_pieces","_law_k","_law_at","_law_cell","_law_wish"] 854
def z136:Obj:=nG "_law_boxes" qz4
def z137:Obj:=cF "_law_boxes" 851 "_law_boxes" 300 3 496 863
def z138:Obj:=uH "_law_boxes" qz4 m9 501
def z139:Obj:=tS ["_law_cell","_law_many","_law_at"] 869
def z13a:Obj:=nG "_law_name" qp5
def z13b:Obj:=cF "_law_name" 866 "_law_name" 312 1 503 872
def z13c:Obj:=uH "_law_name" qp5 m9 508
def z13d:Obj:=tS ["_law_cell","_law_level","_law_box_here","_law_name_here","_law_calls","_law_way"] 878
def z13e:Obj:=nG "_law_rule" qo5
def z13f:Obj:=cF "_law_rule" 875 "_law_rule" 316 5 510 884
def z140:Obj:=uH "_law_rule" qo5 m9 515
def z141:Obj:=tS ["_law_script","_law_sizes","_law_boxes_here","_law_at","_law_name_here","_law_chains_here","_law_level","_law_rules","_law_calls","_law_k"] 890
def z142:Obj:=nG "_law_chains" qj4
def z143:Obj:=cF "_law_chains" 887 "_law_chains" 323 4 517 900
def z144:Obj:=uH "_law_chains" qj4 m9 522
def z145:Obj:=tS ["_law_word"] 906
def z146:Obj:=nG "_law_turned" qg4
def z147:Obj:=cF "_law_turned" 903 "_law_turned" 335 1 524 907
def z148:Obj:=uH "_law_turned" qg4 m9 529
def z149:Obj:=tS ["_law_marks_here","_law_cell","_law_at","_law_parcel_here","_law_d","_law_top_here","_law_turn","_law_way","_law_number"] 913
def z14a:Obj:=nG "_law_parcel" qh4
def z14b:Obj:=cF "_law_parcel" 910 "_law_parcel" 341 3 531 922
def z14c:Obj:=uH "_law_parcel" qh4 m9 536
def z14d:Obj:=tS ["_law_box_here","_law_parcel_here","_law_k"] 928
def z14e:Obj:=nG "_law_has" qg6
def z14f:Obj:=cF "_law_has" 925 "_law_has" 356 2 538 931
def z150:Obj:=uH "_law_has" qg6 m9 543
def z151:Obj:=tS ["_law_chains_here","_law_name_here","_law_parcel_here","_law_seen","_law_its_name","_law_rules","_law_index","_law_rule_here","_law_fits","_law_word"] 937
def z152:Obj:=nG "_law_read" qs4
def z153:Obj:=cF "_law_read" 934 "_law_read" 361 4 545 947
def z154:Obj:=uH "_law_read" qs4 m9 550
def z155:Obj:=tS ["_law_box_here","_law_other","_law_k"] 953
def z156:Obj:=nG "_law_apart" qa5
def z157:Obj:=cF "_law_apart" 950 "_law_apart" 378 2 552 956
def z158:Obj:=uH "_law_apart" qa5 m9 557
def z159:Obj:=tS ["_law_rule_here","_law_cell","_law_d","_law_low","_law_high","_law_place","_law_one","_law_two"] 962
def z15a:Obj:=nG "_law_halves" qi4
def z15b:Obj:=cF "_law_halves" 959 "_law_halves" 383 2 559 970
def z15c:Obj:=uH "_law_halves" qi4 m9 564
def z15d:Obj:=nG "_law_whole" qx3
def z15e:Obj:=cG "_law_whole" 973 "_law_whole" 393 0 566 976
def z15f:Obj:=uH "_law_whole" qx3 m9 569
def z160:Obj:=tS ["_law_rules","_law_k","_law_way","_law_cell","_law_fresh","_law_rule_here","_law_same"] 982
def z161:Obj:=nG "_law_new" qf6
def z162:Obj:=cF "_law_new" 979 "_law_new" 395 5 571 989
def z163:Obj:=uH "_law_new" qf6 m9 576
def z164:Obj:=nG "_law_changed" qt2
def z165:Obj:=cG "_law_changed" 992 "_law_changed" 408 4 578 995
def z166:Obj:=uH "_law_changed" qt2 m9 581
def z167:Obj:=nG "_law_spoiled" qs2
def z168:Obj:=cG "_law_spoiled" 998 "_law_spoiled" 422 4 583 1001
def z169:Obj:=uH "_law_spoiled" qs2 m9 586
def z16a:Obj:=nG "law" qpf
def z16b:Obj:=cG "law" 1004 "law" 428 1 588 1007
def z16c:Obj:=uH "law" qpf m9 591
abbrev hp:Program:=PySem.Challenge.pw_sieve_k34_whole_same_meaning
def hEnv:Env:={ scope:=PySem.Challenge.pw_sieve_k34_whole_same_meaning.main.scope,locals:=mainNs,globals:=mainNs,cells:=[],code:=.ref 13,frame:=some 14 }
def hB:List Stmt:=behindTheImports PySem.Challenge.pw_sieve_k34_whole_same_meaning
abbrev hC:Code:=.body hB hEnv
abbrev hF:List Frame:=[topFrame ⟨0,0,0,0⟩]
abbrev hAnn:Option Value:=(some (.ref 6))
def hA (P:Params):Heap:=⟨⟨[(boot_o_0 P),(boot_o_1 P),(boot_o_2 P),(boot_o_3 P),(boot_o_4 P),(boot_o_5 P),(boot_o_6 P),(b7 P),(b8 P),(boot_o_9 P),(boot_o_10 P),(b7 P),(b8 P),z0,z1]⟩,{}⟩
def ls0 (P:Params):List Obj:=[(boot_o_0 P),(boot_o_1 P),(boot_o_2 P),(boot_o_3 P),(boot_o_4 P),(boot_o_5 P),(boot_o_6 P),(b7 P),(b8 P),(boot_o_9 P),(boot_o_10 P),(b7 P),(b8 P),z0,z1]
def tr0 (P:Params):BT:=mkT 14 (ls0 P)
def ls1 (P:Params):List Obj:=(((ls0 P).set 3 (z2 P)).set 12 z3)++[(b7 P),(b8 P),z4,(b7 P),z5,z6,z7,(b7 P),(b8 P),z8,(b7 P),z9,za,zb,(b7 P),(b8 P),zc,(b7 P),zd,ze,zf,(b7 P),(b8 P),z10,z11,z12,(b7 P),(b8 P),z13,(b7 P),z14,z15,z16,(b7 P),(b8 P),z17,z18,z19,(b7 P),(b8 P),z1a,(b7 P),z1b,z1c,z1d,(b7 P),(b8 P),z1e,(b7 P),z1f,z20,z21,z22,z23,(z24 P),(b7 P),(b8 P),z25,z26,(b7 P),(z27 P),z28,z29,z2a,z2b,z2c,z23,(z2d P),(b7 P),z2e,z2f,z30,(b7 P),(b8 P),z31,(b7 P),z32,z33,z34,z35,(z36 P),z37,z38,z39,z2c,z23,(z3a P),(b7 P),z3b,z3c,z3d,(b7 P),(b8 P),z3e,(b7 P),z3f,z40,z41,z42,(z43 P),z44,z45,z46,z2c,z23,(z47 P),(b7 P),z48,z49,z4a,(b7 P),(b8 P),z4b,(b7 P),z4c,z4d,z4e,z4f,(z50 P),z51,z52,z53,z2c,z23,(z54 P),(b7 P),z55,z56,z57,(b7 P),(b8 P),z58,(b7 P),z59,z5a,z5b,z5c,(z5d P),z5e,z5f,z60]
def tr1 (P:Params):BT:=mkT 14 (ls1 P)
def gr1:List Stmt:=(hB.drop 0).take 21
def ls2 (P:Params):List Obj:=(((ls1 P).set 3 (z61 P)).set 12 z62)++[(b7 P),(b8 P),z63,(b7 P),z64,z65,z66,(b7 P),z23,(z67 P),(b7 P),z68,z69,z6a,(b7 P),(b8 P),z6b,(b7 P),z6c,z6d,z6e,(b7 P),(b8 P),z6f,(b7 P),z70,z71,z72,z73,(z74 P),z75,z76,z77,z78,z79,z7a,z23,(z7b P),(b7 P),z7c,z7d,z7e,(b7 P),(b8 P),z7f,(b7 P),z80,z81,z82,(b7 P),(b8 P),z83,(b7 P),z84,z85,z86,(b7 P),(b8 P),z87,(b7 P),z88,z89,z8a,z8b,(z8c P),z8d,z8e,z8f,z7a,z23,(z90 P),(b7 P),z91,z92,z93,(b7 P),(b8 P),z94,(b7 P),z95,z96,z97,(b7 P),(b8 P),z98,(b7 P),z99,z9a,z9b,(b7 P),(z9c P),z9d,z9e,z9f,z7a,z23,(za0 P),(b7 P),za1,za2,za3,(b7 P),(b8 P),za4,(b7 P),za5,za6,za7,(b7 P),(b8 P),za8,(b7 P),za9,zaa,zab,(b7 P),(b8 P),zac,(b7 P),zad,zae,zaf,zb0,(zb1 P),zb2,zb3,zb4,(b7 P),(b8 P),zb5,(b7 P),zb6,zb7,zb8,(b7 P),(b8 P),zb9,zba,zbb,(b7 P),(b8 P),zbc,(b7 P),zbd,zbe,zbf,(b7 P),(b8 P),zc0,(b7 P),zc1,zc2,zc3,(b7 P),(b8 P),zc4,zc5,zc6,(b7 P),(b8 P),zc7,zc8,zc9,(b7 P),(b8 P),zca,zcb,zcc,(b7 P),(b8 P),zcd,(b7 P),zce,zcf,zd0]
def tr2 (P:Params):BT:=mkT 14 (ls2 P)
def gr2:List Stmt:=(hB.drop 21).take 16
def ls3 (P:Params):List Obj:=(((ls2 P).set 3 (zd1 P)).set 12 zd2)++[(b7 P),z23,(zd3 P),(b7 P),zd4,zd5,zd6,(b7 P),(b8 P),zd7,zd8,zd9,(b7 P),(b8 P),zda,(b7 P),zdb,zdc,zdd,(b7 P),(b8 P),zde,(b7 P),zdf,ze0,ze1,(b7 P),(b8 P),ze2,(b7 P),ze3,ze4,ze5,(b7 P),(b8 P),ze6,(b7 P),ze7,ze8,ze9,(b7 P),(b8 P),zea,(b7 P),zeb,zec,zed,(b7 P),(b8 P),zee,zef,zf0,zf1,(zf2 P),zf3,zf4,zf5,zf6,zf7,(b7 P),(b8 P),zf8,(b7 P),zf9,zfa,zfb,(b7 P),(b8 P),zfc,(b7 P),zfd,zfe,zff,(b7 P),(b8 P),z100,(b7 P),z101,z102,z103,(b7 P),(b8 P),z104,(b7 P),z105,z106,z107,(b7 P),(b8 P),z108,(b7 P),z109,z10a,z10b,(b7 P),(b8 P),z10c,z10d,z10e,(b7 P),(b8 P),z10f,(b7 P),z110,z111,z112,(b7 P),(b8 P),z113,(b7 P),z114,z115,z116,(b7 P),(b8 P),z117,(b7 P),z118,z119,z11a,(b7 P),(b8 P),z11b,(b7 P),z11c,z11d,z11e,(b7 P),(b8 P),z11f,(b7 P),z120,z121,z122,(b7 P),(b8 P),z123,(b7 P),z124,z125,z126,(b7 P),(b8 P),z127,(b7 P),z128,z129,z12a,(b7 P),(b8 P),z12b,z12c,z12d,(b7 P),(b8 P),z12e,(b7 P),z12f,z130,z131,(b7 P),(b8 P),z132,z133,z134,(b7 P),(b8 P),z135,(b7 P),z136,z137,z138,(b7 P),(b8 P),z139,(b7 P),z13a,z13b,z13c,(b7 P),(b8 P),z13d,(b7 P),z13e,z13f,z140,(b7 P),(b8 P),z141,(b7 P),z142,z143,z144,(b7 P),(b8 P),z145,(b7 P),z146,z147,z148,(b7 P),(b8 P),z149,(b7 P),z14a,z14b,z14c,(b7 P),(b8 P),z14d,(b7 P),z14e,z14f,z150,(b7 P),(b8 P),z151,(b7 P),z152,z153,z154,(b7 P),(b8 P),z155,(b7 P),z156,z157,z158,(b7 P),(b8 P),z159,(b7 P),z15a,z15b,z15c,(b7 P),(b8 P),z15d,z15e,z15f,(b7 P),(b8 P),z160,(b7 P),z161,z162,z163,(b7 P),(b8 P),z164,z165,z166,(b7 P),(b8 P),z167,z168,z169,(b7 P),(b8 P),z16a,z16b,z16c]
def tr3 (P:Params):BT:=mkT 14 (ls3 P)
def gr3:List Stmt:=(hB.drop 37).take 36
def hZ (P:Params):Heap:=⟨⟨(ls3 P)⟩,{}⟩
theorem pre (w:World):(fun os=>topGo treeTable hp w 11 hAnn 12 ⟨boot_heap w.params,Array.mk [],boot_drawn,boot_toks,os⟩ (topStub hp))=fun os=>some (⟨hA w.params,Array.mk [],{},187,os⟩,⟨denote treeTable hC,hC,⟨0,0,0,0⟩,hF⟩):=by kernel_rfl
theorem blk (w:World):(fun os=>segRun treeTable hp w 11 hAnn 1 1 ⟨hA w.params,Array.mk [],{},187,os⟩ (blockOf hB hEnv hC ⟨0,0,0,0⟩ hF))=fun os=>some (.next,SharedT.abs ⟨tr0 w.params,15,{},Array.mk [],{},187,os⟩,hC,⟨0,0,0,0⟩):=by kernel_rfl
theorem pc1 (w:World):(fun os=>segRunT treeTable hp w 11 hAnn 1 1483 ⟨tr0 w.params,15,{},Array.mk [],{},187,os⟩ (W.piecesOf gr1 hEnv hC ⟨0,0,0,0⟩ hF))=fun os=>some (.next,⟨tr1 w.params,156,{},Array.mk [],{},393,os⟩,hC,⟨70,0,70,13⟩):=by kernel_rfl
theorem pc2 (w:World):(fun os=>segRunT treeTable hp w 11 hAnn 1 1429 ⟨tr1 w.params,156,{},Array.mk [],{},393,os⟩ (W.piecesOf gr2 hEnv hC ⟨70,0,70,13⟩ hF))=fun os=>some (.next,⟨tr2 w.params,331,{},Array.mk [],{},613,os⟩,hC,⟨149,0,155,38⟩):=by kernel_rfl
theorem pc3 (w:World):(fun os=>segRunT treeTable hp w 11 hAnn 1 1427 ⟨tr2 w.params,331,{},Array.mk [],{},613,os⟩ (W.piecesOf gr3 hEnv hC ⟨149,0,155,38⟩ hF))=fun os=>some (.next,⟨tr3 w.params,593,{},Array.mk [],{},1010,os⟩,hC,⟨428,0,447,81⟩):=by kernel_rfl
theorem fin (w:World):(fun os=>topRun treeTable hp w 11 hAnn 2 (SharedT.abs ⟨tr3 w.params,593,{},Array.mk [],{},1010,os⟩) ⟨doneF .next,hC,⟨428,0,447,81⟩,hF⟩)=fun os=>some ⟨hZ w.params,Array.mk [],{},1010,os⟩:=by kernel_rfl
theorem bodyEq:hB=gr1++(gr2++(gr3++[])):=by kernel_rfl
abbrev hM:Nat:=(12+(1+(1483+(1429+(1427+2)))))
theorem rest (w:World)(os:OsState):topRun treeTable hp w 11 hAnn (1483+(1429+(1427+2))) (SharedT.abs ⟨tr0 w.params,15,{},Array.mk [],{},187,os⟩) (restOf hB hEnv hC ⟨0,0,0,0⟩ hF)=some ⟨hZ w.params,Array.mk [],{},1010,os⟩:=by
 have h:topRun treeTable hp w 11 hAnn (1483+(1429+(1427+2))) (SharedT.abs ⟨tr0 w.params,15,{},Array.mk [],{},187,os⟩) (restOf (gr1++(gr2++(gr3++[]))) hEnv hC ⟨0,0,0,0⟩ hF)=some ⟨hZ w.params,Array.mk [],{},1010,os⟩:=piece_app (segRun_of (congrFun (pc1 w) os)) (piece_app (segRun_of (congrFun (pc2 w) os)) (piece_app (segRun_of (congrFun (pc3 w) os)) (piece_nil (congrFun (fin w) os))));rw [← bodyEq] at h;exact h
theorem run (w:World)(os:OsState):topRun treeTable hp w 11 hAnn hM ⟨boot_heap w.params,Array.mk [],boot_drawn,boot_toks,os⟩ (topStub hp)=some ⟨hZ w.params,Array.mk [],{},1010,os⟩:=go_top (congrFun (pre w) os) (piece_block (congrFun (blk w) os) (rest w os))
theorem opn:∀ w:World,(fencedOpening treeTable hp w 8798).map (fun s=>(s.heap,s.gens,s.drawn,s.toks))=some (boot_heap w.params,Array.mk [],boot_drawn,boot_toks):=boot_open (by kernel_rfl) (by decide) (fun s=>by kernel_rfl)
theorem siz (w:World):((boot_heap w.params).isNs mainGlobals && (Array.mk []:Array GenState).size == 0,(boot_heap w.params).objs.size,(boot_heap w.params).nsMap mainGlobals "__annotations__")=(true,11,hAnn):=by kernel_rfl
end
end Hd
def kept:List Nat:=[0,2,3,5,6,7,8,9,11,12,13,14,15,16,18,19,20,21,22,23,24,25,26,28,29,30,31,32,33,34,35,36,37,39,40,41,42,43,45,46,47,49,50,51,53,54,55,56,57,58,59,60,61,62,63,64,65,66,67,68,69,70,71,72]
def view:Program:={ PySem.Challenge.pw_sieve_k34_whole_same_meaning with main:={ PySem.Challenge.pw_sieve_k34_whole_same_meaning.main with body:=kept.filterMap fun i=>PySem.Challenge.pw_sieve_k34_whole_same_meaning.main.body[i]? } }
abbrev theRow:W.OpenRow:=W.OpenLaw.row PySem.Challenge.rw_sieve_k34_whole_same_meaning
noncomputable section
open PySem PySem.W PyProof.Rows Hd
variable (w:World)(os:OsState)
def xt:Shared→Bool:=fun s=>xlAt view [] s && recOk (RowW.records (OpenRow.toRowW theRow)) s
abbrev sZ:Shared:=⟨hZ w.params,Array.mk [],{},1010,os⟩
theorem lk0:seen (List.map (fun x=>x.name) (recsOf view)) (ownsOf view) [] { heap:=(sZ w os).heap,drawn:={},toks:=(sZ w os).toks,os:=os }=(openGood view []).1:=by kernel_rfl
theorem lk1:(sZ w os).heap.bltView=(openGood view []).2.1:=by kernel_rfl
theorem lk2:((sZ w os).heap.keysOk (looseW view []) (List.map (fun x=>x.name) (recsOf view)) (List.map (fun x=>x.fst) (litsOf view)) (List.map (fun x=>x.name) (clssOf view (looseW view []))) && (sZ w os).heap.accountedOkI (importedModules hp.main.body) && (sZ w os).heap.isNs mainGlobals && (sZ w os).heap.isNs builtinsNs && tablesOk view (sZ w os).heap && xt (sZ w os) && if true=true then (sZ w os).gens.size == 0 else !leftWithCleanup (sZ w os).gens)=(openGood view []).2.2.1:=by kernel_rfl
theorem lk3:tabsOk view (sZ w os)=(openGood view []).2.2.2.1:=by kernel_rfl
theorem lk4:pinSeenD view (drecsOf view) (sZ w os)=(openGood view []).2.2.2.2.1:=by kernel_rfl
theorem lk5:plainSeenE view (looseW view []) (sZ w os)=(openGood view []).2.2.2.2.2.1:=by kernel_rfl
theorem lk6:plainSeenD view [] (sZ w os)=(openGood view []).2.2.2.2.2.2.1:=by kernel_rfl
theorem lk7:wideSeen view (sZ w os)=(openGood view []).2.2.2.2.2.2.2.1:=by kernel_rfl
theorem lk8:clsSeenW view [] (sZ w os)=(openGood view []).2.2.2.2.2.2.2.2:=by kernel_rfl
theorem pr2 {a:α}{b:β}{p:α×β}(h:a=p.1)(k:b=p.2):(a,b)=p:=Prod.ext h k
theorem lk:openSeen view [] (importedModules hp.main.body) xt true (sZ w os)=openGood view []:=pr2 (lk0 w os) (pr2 (lk1 w os) (pr2 (lk2 w os) (pr2 (lk3 w os) (pr2 (lk4 w os) (pr2 (lk5 w os) (pr2 (lk6 w os) (pr2 (lk7 w os) (lk8 w os))))))))
theorem lkA:(staticsOk (importedModules hp.main.body) (boot_heap w.params) (sZ w os).heap && namesBound hp (sZ w os).heap && gensDone (sZ w os) && laidKept (boot_heap w.params) (sZ w os).heap)=true:=by kernel_rfl
end
end K34
open PySem PySem.W PyProof.Rows
local macro_rules | `(tactic| o_head $H)=>`(tactic| (
  refine holds_open (r:=K34.theRow) (q:=K34.view) (loose:=[]) (N:=8798) (YP:=Hook.says $H) (Ya:=Hook.val $H) (Yf:=Hook.obs $H)
    (XP:=XL K34.view []) (Xt:=K34.xt) ?left (Hook.of $H) (Hook.keeps $H)
    (fun s e=>xl_of s (Bool.and_eq_true_iff.mp e).1) XL.keeps (by rfl) (by rfl) (by rfl)
    (fun s e=>recFacts_of (Bool.and_eq_true_iff.mp e).2) (by rfl) (by assumption) (by decide +kernel) ⟨rfl,rfl,rfl,rfl,rfl,by decide +kernel⟩ ?wit ?go
  (case left=>(refine LeftO.of_pieces (p:=K34.Hd.hp) (q:=K34.view) (loose:=[]) (Xt:=K34.xt) (g0:=true) (H₀:=boot_heap) (H₁:=K34.Hd.hZ) (gs₀:=Array.mk []) (gs₁:=Array.mk []) (d₀:=boot_drawn) (d₁:={}) (k₀:=boot_toks) (k₁:=1010) (m₀:=11) (ann:=K34.Hd.hAnn) (M:=K34.Hd.hM) K34.Hd.opn K34.Hd.siz K34.Hd.run (by decide) ?looks; (case looks=>(intro w; refine funext fun os=>K34.pr2 (K34.lkA w os) (K34.pr2 (K34.lk w os) ?_); kernel_rfl))))
  (case wit=>w_witness2)))
set_option maxRecDepth 100000 in
set_option maxHeartbeats 0 in
theorem PySem.Challenge.cw_sieve_k34_whole_same_meaning_holds : PySem.Challenge.rw_sieve_k34_whole_same_meaning.Holds := by
  w_on; o_law; k_head
  k_fill
  refine K34.walk (l:=PySem.Challenge.rw_sieve_k34_whole_same_meaning) rfl rfl (fun w h Y=>PySem.W.kIn_of Y) ?F
  case F =>
    intro w mg fa h KX G hmg
    refine' K34.asm hmg ?D0 ?D1 ?D2 ?D3 ?D4 ?D5 ?D6 ?D7 ?D8 ?D9 ?D10 ?D11 ?D12 ?D13 ?D14 ?D15 ?D16 ?D17 ?D18 ?D19 ?D20 ?D21 ?D22 ?D23 ?D24 ?D25 ?D26 ?D27 ?D28 ?D29 ?D30 ?D31 ?D32 ?D33 ?D34 ?D35 ?D36 ?D37 ?D38 ?D39 ?D40 ?D41 ?D42 ?c0 ?c1 ?c2 ?c3 ?c4 ?c5 ?b0 ?b1 ?b2 ?b3 ?b4 ?b5 ?b6 ?b7 ?b8 ?b9 ?b10 ?b11 ?b12 ?b13 ?b14 ?m0 ?m1 ?m2 ?m3 ?m4 ?e0 ?e1 ?e2 ?e3 ?e4 ?e5 ?e6 ?e7 ?e8 ?tx
    case D0|D1|D2|D3|D4|D5|D6|D7|D8|D9|D10|D11|D12|D13|D14|D15|D16|D17|D18|D19|D20|D21|D22|D23|D24|D25|D26|D27|D28|D29|D30|D31|D32|D33|D34|D35|D36|D37|D38|D39|D40|D41|D42=>walk_at "d"
    case c0=>(refine' ⟨_,PySem.W.mg_of KX G ?a,?r⟩); (case a=>k_is); (case r=>exact ⟨_,rfl⟩)
    case c1=>(refine' ⟨_,PySem.W.mg_of KX G ?a,?r⟩); (case a=>k_is); (case r=>exact ⟨_,rfl⟩)
    case c2=>(refine' ⟨_,PySem.W.mg_of KX G ?a,?r⟩); (case a=>k_is); (case r=>exact ⟨_,rfl⟩)
    case c3=>(refine' ⟨_,PySem.W.mg_of KX G ?a,?r⟩); (case a=>k_is); (case r=>exact ⟨_,rfl⟩)
    case c4=>(refine' ⟨_,PySem.W.mg_of KX G ?a,?r⟩); (case a=>k_is); (case r=>exact ⟨_,rfl⟩)
    case c5=>(refine' ⟨_,PySem.W.mg_of KX G ?a,?r⟩); (case a=>k_is); (case r=>exact ⟨_,rfl⟩)
    case b0|b1|b2|b3|b4|b5|b6|b7|b8|b9|b10|b11|b12|b13|b14=>walk_at "n"
    case m0=>(refine' PySem.W.mg_of KX G ?a); (case a=>k_is)
    case m1=>(refine' PySem.W.mg_of KX G ?a); (case a=>k_is)
    case m2=>(refine' PySem.W.mg_of KX G ?a); (case a=>k_is)
    case m3=>(refine' PySem.W.mg_of KX G ?a); (case a=>k_is)
    case m4=>(refine' PySem.W.mg_of KX G ?a); (case a=>k_is)
    case e0=>(refine' Sv.mk_cdef ?a ?l ?c ?k ?g ?r); (case a=>k_is); (case l=>k_is); (case c=>k_is); (case k=>k_is); (case g=>k_is); (case r=>k_is)
    case e1|e2|e3|e4|e5|e6|e7|e8=>walk_at "m"
    case tx=>(constructor; (constructor <;> first | k_is | kit_is); all_goals (first | k_is | kit_is))
