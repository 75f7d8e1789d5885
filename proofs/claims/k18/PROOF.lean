import PyProof.Rows.All
import PyProof.ExcArgs
import PyProof.FitsBits
import Wide.All
import OpenK.AllK
import Wide.FinOn
import Lean
import PyProof.EqAt
import PyProof.EqKinds
import PyProof.TupleCall
import PyProof.NeData
import PyProof.ZipIter
import PyProof.EnumMake
import KE.BitLaws
import KE.IntBitsLaws
import KE.KIntText
import KE.IntTextLaws
import PyProof.ExcClass3
import PyProof.ExcInit
import PyProof.InstStoreFacts
import PyProof.DictWalks
import KE.KDictList
import PyProof.Rows.SumAny
import PyProof.StrBlockI
import PyProof.SliceStr2
import KE.KRevIter
import PyProof.Rows.GenSrcRange
import PyProof.ListRange
import PyProof.AutoSeq1
import PyProof.ReprHeadsTuple
import PyProof.StrBlock2
import PySem.Challenge.RW_sieve_k18_books_refused
set_option Elab.async false
set_option linter.all false
set_option maxRecDepth 100000
-- CHANGE: your row's module here,as the last of these rows
namespace L2
open PySem PySem.Spec PyProof.Rows
abbrev Key:=Sum Int Str
def keyIs:Key→Value→Bool
  | .inl k,v=>Value.isInt k v
  | .inr x,v=>Value.isStrOf x v
def keyH (w:World):Key→Int
  | .inl k=>hashInt k
  | .inr x=>hashStr w x
theorem keyIs_shape:∀ {k:Key} {v:Value},keyIs k v=true→(∃ i t,k=Sum.inl i∧v=Value.int i t)∨(∃ x t,k=Sum.inr x∧v=Value.str x t)
  | .inl i,v,h=>by
    obtain ⟨t,e⟩:=Value.isInt_shape (k:=i) (v:=v) h
    exact .inl ⟨i,t,rfl,e⟩
  | .inr x,v,h=>by
    obtain ⟨t,e⟩:=Value.isStrOf_shape (x:=x) (v:=v) h
    exact .inr ⟨x,t,rfl,e⟩
theorem keyIs_int (i:Int)(t:Tok):keyIs (.inl i) (.int i t)=true:=by simp [keyIs,Value.isInt]
theorem keyIs_str (x:Str)(t:Tok):keyIs (.inr x) (.str x t)=true:=by simp [keyIs,Value.isStrOf]
theorem key_ll (a b:Int):decide ((Sum.inl a:Key)=Sum.inl b)=(a == b):=by
  by_cases e:a=b
  · subst e; simp
  · have h:¬ (Sum.inl a:Key)=Sum.inl b:=fun q=>e (Sum.inl.inj q)
    rw [decide_eq_false h]
    exact (beq_eq_false_iff_ne.mpr e).symm
theorem key_rr (a b:Str):decide ((Sum.inr a:Key)=Sum.inr b)=decide (a=b):=by
  by_cases e:a=b
  · subst e; simp
  · have h:¬ (Sum.inr a:Key)=Sum.inr b:=fun q=>e (Sum.inr.inj q)
    rw [decide_eq_false h,decide_eq_false e]
theorem key_lr (a:Int)(b:Str):decide ((Sum.inl a:Key)=Sum.inr b)=false:=decide_eq_false (fun q=>nomatch q)
theorem key_rl (a:Str)(b:Int):decide ((Sum.inr a:Key)=Sum.inl b)=false:=decide_eq_false (fun q=>nomatch q)
def mixKind (prog:Program)(w:World):PySem.KeyKind prog w Key where
  is:=keyIs
  hash:=keyH w
  inj:=fun v a b ha hb=>by
    rcases keyIs_shape ha with ⟨i,t,rfl,rfl⟩ | ⟨x,t,rfl,rfl⟩
    · rcases keyIs_shape hb with ⟨j,u,rfl,e⟩ | ⟨y,u,rfl,e⟩
      · injection e with e1 _; rw [e1]
      · exact nomatch e
    · rcases keyIs_shape hb with ⟨j,u,rfl,e⟩ | ⟨y,u,rfl,e⟩
      · exact nomatch e
      · injection e with e1 _; rw [e1]
  byValue:=fun k v h=>by
    rcases keyIs_shape h with ⟨i,t,rfl,rfl⟩ | ⟨x,t,rfl,rfl⟩ <;> rfl
  pyHash:=fun hv h=>by
    rcases keyIs_shape hv with ⟨i,t,rfl,rfl⟩ | ⟨x,t,rfl,rfl⟩
    · exact wpAny_pyHash_int h
    · exact wpAny_pyHash_str h
  eqBool:=fun hu hv h=>by
    rcases keyIs_shape hu with ⟨i,t,rfl,rfl⟩ | ⟨x,t,rfl,rfl⟩
    · rcases keyIs_shape hv with ⟨j,u,rfl,rfl⟩ | ⟨y,u,rfl,rfl⟩
      · rw [key_ll] at h; exact wpAny_eqBool_int h
      · rw [key_lr] at h; exact SeqAt.EqAt.int_str i t y u _ _ _ _ h
    · rcases keyIs_shape hv with ⟨j,u,rfl,rfl⟩ | ⟨y,u,rfl,rfl⟩
      · rw [key_rl] at h; exact SeqAt.EqAt.str_int x t j u _ _ _ _ h
      · rw [key_rr] at h; exact wpAny_eqBool_str h
  «strs»:=fun k x t v h=>by
    rcases keyIs_shape h with ⟨i,u,rfl,e⟩ | ⟨y,u,rfl,e⟩
    · exact nomatch e
    · injection e with e1 _
      subst e1
      cases v <;> rfl
theorem mixKind_is (prog:Program)(w:World)(k:Key)(v:Value):(mixKind prog w).is k v=keyIs k v:=rfl
theorem mixKind_int (prog:Program)(w:World)(i:Int)(t:Tok):(mixKind prog w).is (.inl i) (.int i t)=true:=keyIs_int i t
theorem mixKind_str (prog:Program)(w:World)(x:Str)(t:Tok):(mixKind prog w).is (.inr x) (.str x t)=true:=keyIs_str x t
end L2
namespace L2
open PySem PySem.Spec PyProof.Rows
inductive V where
  | non | bl (b:Bool) | int (i:Int) | str (x:Str) | byt (b:Array UInt8) | flt (b:UInt64) | ref (a:Addr) | ty (n:String)
  deriving DecidableEq
def RelV:V→Value→Prop
  | .non,u=>u=Value.none
  | .bl b,u=>u=Value.bool b
  | .int i,u=>∃ t,u=Value.int i t
  | .str x,u=>∃ t,u=Value.str x t
  | .byt b,u=>∃ t,u=Value.bytes b t
  | .flt b,u=>∃ t,u=Value.float b t
  | .ref a,u=>u=Value.ref a
  | .ty n,u=>u=Value.type n
abbrev Vals:List V→List Value→Prop:=Paired RelV
theorem Vals.length {xs:List V}{us:List Value}(r:Vals xs us):xs.length=us.length:=Paired.length r
theorem Vals.get:∀ {xs:List V} {us:List Value} {i:Nat} {x:V},Vals xs us→xs[i]?=some x→∃ u,us[i]?=some u∧RelV x u
  | _,_,_,_,.nil,e=>by simp at e
  | _,_,0,_,.cons r _,e=>by simp at e; subst e; exact ⟨_,rfl,r⟩
  | _,_,i+1,x,.cons _ t,e=>by
    obtain ⟨u,h1,h2⟩:=Vals.get (i:=i) (x:=x) t (by simpa using e)
    exact ⟨u,by simpa using h1,h2⟩
theorem Vals.set {x:V}{u:Value}(r:RelV x u):∀ {xs:List V} {us:List Value} (i:Nat),Vals xs us→Vals (xs.set i x) (us.set i u)
  | _,_,_,.nil=>.nil
  | _,_,0,.cons _ t=>.cons r t
  | _,_,i+1,.cons q t=>.cons q (Vals.set r i t)
theorem Vals.append:∀ {xs ys:List V} {us ws:List Value},Vals xs us→Vals ys ws→Vals (xs++ys) (us++ws)
  | _,_,_,_,.nil,s=>s
  | _,_,_,_,.cons r t,s=>.cons r (Vals.append t s)
theorem Vals.take:∀ {xs:List V} {us:List Value} (n:Nat),Vals xs us→Vals (xs.take n) (us.take n)
  | _,_,0,_=>.nil
  | _,_,_+1,.nil=>.nil
  | _,_,n+1,.cons r t=>.cons r (Vals.take n t)
theorem Vals.drop:∀ {xs:List V} {us:List Value} (n:Nat),Vals xs us→Vals (xs.drop n) (us.drop n)
  | _,_,0,r=>r
  | _,_,_+1,.nil=>.nil
  | _,_,n+1,.cons _ t=>Vals.drop n t
def RelO:Option V→Option Value→Prop
  | some v,some u=>RelV v u
  | none,none=>True
  | _,_=>False
def KV {κ:Type}:List (κ×V)→List (κ×Value)→Prop:=Paired fun (p:κ×V) (q:κ×Value)=>p.1=q.1∧RelV p.2 q.2
def kV:Key→V
  | .inl i=>.int i
  | .inr x=>.str x
inductive HO where
  | lst (xs:List V)
  | tup (xs:List V)
  | dK (kvs:List (Key×V)) | dT (kvs:List (List Key×V))
  | set (S:Int→Bool) (n:Nat)
  | ins (C dx:Addr) (fs:List (Str×V))
  | own (x:Addr)
  | xd (fs:List (Str×V))
  | met (f x:Addr)
  | rng (lo hi:Int)
  | frz (o:Obj) (u:HO)
  | tbl (ps:Array Value)
  | ext (φ:Heap→Prop)
abbrev Hp:=Addr→Option HO
def upd (H:Hp)(a:Addr)(o:HO):Hp:=fun b=>if b=a then some o else H b
theorem upd_same {H:Hp}{a:Addr}{o:HO}:upd H a o a=some o:=by unfold upd; rw [if_pos rfl]
theorem upd_ne {H:Hp}{a b:Addr}{o:HO}(h:b≠a):upd H a o b=H b:=by unfold upd; rw [if_neg h]
theorem upd_upd {H:Hp}{a:Addr}{o u:HO}:upd (upd H a o) a u=upd H a u:=by
  funext b; unfold upd; split <;> rfl
theorem ne_of {H:Hp}{a b:Addr}{o u:HO}(h:H a=some o)(h':H b=some u)(d:o≠u):a≠b:=by
  intro e; subst e; rw [h] at h'; exact d (Option.some.inj h')
theorem ne_of_none {H:Hp}{a b:Addr}{o:HO}(h:H a=some o)(h':H b=none):a≠b:=by
  intro e; subst e; rw [h] at h'; cases h'
section
variable (P:Program)(w:World)
def ObjOk (H:Hp)(h:Heap)(a:Addr):HO→Prop
  | .lst xs=>xs.length≤sizeLine∧∃ (its:List Value) (n:Nat),Vals xs its∧h.get? a=some { cls:=.type "list",data:=.seq its.toArray n }
  | .tup xs=>xs.length≤sizeLine∧∃ its:List Value,Vals xs its∧IsTup h a its.toArray
  | .dK kvs=>kvs.length≤sizeLine∧(a == sysModules)=false∧∃ vs,KV kvs vs∧h.DictOf (mixKind P w) a vs
  | .dT kvs=>kvs.length≤sizeLine∧(a == sysModules)=false∧∃ xs:List (List Key×Addr×Value),
      Paired (fun (p:List Key×V) (q:List Key×Addr×Value)=>p.1=q.1∧H q.2.1=some (.tup (p.1.map kV))∧RelV p.2 q.2.2) kvs xs ∧
      ∃ o es ep,h.get? a=some o∧o.ExactDict∧o.data=.dict es ep∧es.toList=xs.map (entryOfKey (tupleKind (mixKind P w)))∧(xs.map (·.1)).Nodup
  | .set S n=>h.SetOf (intKind P w) a S n
  | .ins C dx fs=>H dx=some (.own a)∧fs.length≤1000∧dx≠a∧h.get? a=some (PySem.W.instObj C dx) ∧
      ∃ mA,h.Ns1 dx mA∧(∀ f,RelO (fs.lookup f) (mA f))∧PySem.Within mA (fs.map (·.1))
  | .own _=>∃ o,h.get? a=some o
  | .xd fs=>∃ mA,h.Ns1 a mA∧∀ f,RelO (fs.lookup f) (mA f)
  | .rng lo hi=>∃ t u v,h.get? a=some { cls:=.type "range",data:=.fields #[.int lo t,.int hi u,.int 1 v] }
  | .frz o u=>h.get? a=some o∧ObjOk H h a u
  | .tbl ps=>h.get? a=some { cls:=.none,data:=.fields ps }
  | .met f x=>h.get? a=some (PySem.W.methodObj (.ref f) (.ref x))
  | .ext φ=>φ h∧(∃ o,h.get? a=some o)∧∀ h1 h2:Heap,φ h1→(∀ o,h1.get? a=some o→h2.get? a=some o)→φ h2
def HOk (H:Hp)(h:Heap):Prop:=∀ a o,H a=some o→ObjOk P w H h a o
end
section
variable {P:Program}{w:World}{H H':Hp}{h h':Heap}{a:Addr}{o:HO}
theorem ObjOk.lt (x:ObjOk P w H h a o):a<h.objs.size:=by
  cases o with
  | lst xs=>obtain ⟨_,_,_,_,e⟩:=x; exact Heap.lt_size e
  | tup xs=>obtain ⟨_,_,_,p⟩:=x; exact p.lt
  | dK kvs=>obtain ⟨_,_,_,_,o,_,_,e,_⟩:=x; exact Heap.lt_size e
  | dT kvs=>obtain ⟨_,_,_,_,o,_,_,e,_⟩:=x; exact Heap.lt_size e
  | set S n=>obtain ⟨o,_,_,_,e,_⟩:=x; exact Heap.lt_size e
  | ins C dx fs=>obtain ⟨_,_,_,e,_⟩:=x; exact Heap.lt_size e
  | own y=>obtain ⟨_,e⟩:=x; exact Heap.lt_size e
  | xd fs=>obtain ⟨_,⟨_,_,_,e,_⟩,_⟩:=x; exact Heap.lt_size e
  | rng lo hi=>obtain ⟨_,_,_,e⟩:=x; exact Heap.lt_size e
  | frz ob u=>obtain ⟨e,_⟩:=x; exact Heap.lt_size e
  | tbl ps=>exact Heap.lt_size (show h.get? a=some _ from x)
  | met f y=>exact Heap.lt_size (show h.get? a=some _ from x)
  | ext φ=>obtain ⟨_,⟨_,e⟩,_⟩:=x; exact Heap.lt_size e
theorem Paired.mapP {α β:Type}{F G:α→β→Prop}:∀ {l₁:List α} {l₂:List β},Paired F l₁ l₂→(∀ a b,F a b→G a b)→Paired G l₁ l₂
  | _,_,.nil,_=>.nil
  | _,_,.cons r t,f=>.cons (f _ _ r) (Paired.mapP t f)
theorem ObjOk.stay (x:ObjOk P w H h a o)(k:∀ b u,(b=a∨H b=some (.own a))→h.get? b=some u→h'.get? b=some u)
    (ho:∀ b,H b=some (.own a)→H' b=some (.own a)) (ht:∀ b xs,H b=some (.tup xs)→H' b=some (.tup xs)):ObjOk P w H' h' a o:=by
  induction o with
  | lst xs=>obtain ⟨z,its,n,r,e⟩:=x; exact ⟨z,its,n,r,k _ _ (.inl rfl) e⟩
  | tup xs=>obtain ⟨z,its,r,ob,e,c⟩:=x; exact ⟨z,its,r,ob,k _ _ (.inl rfl) e,c⟩
  | dK kvs=>obtain ⟨z,y,vs,r,ob,es,ep,e,c⟩:=x; exact ⟨z,y,vs,r,ob,es,ep,k _ _ (.inl rfl) e,c⟩
  | dT kvs =>
    obtain ⟨z,y,xs,r,ob,es,ep,e,c⟩:=x
    exact ⟨z,y,xs,Paired.mapP r fun p q z=>⟨z.1,ht _ _ z.2.1,z.2.2⟩,ob,es,ep,k _ _ (.inl rfl) e,c⟩
  | set S n=>obtain ⟨ob,es,ep,t,e,c⟩:=x; exact ⟨ob,es,ep,t,k _ _ (.inl rfl) e,c⟩
  | ins C dx fs =>
    obtain ⟨d,z,ne,e,mA,⟨od,es,ep,e2,c⟩,r⟩:=x
    exact ⟨ho _ d,z,ne,k _ _ (.inl rfl) e,mA,⟨od,es,ep,k _ _ (.inr d) e2,c⟩,r⟩
  | own y=>obtain ⟨ob,e⟩:=x; exact ⟨ob,k _ _ (.inl rfl) e⟩
  | xd fs=>obtain ⟨mA,⟨od,es,ep,e,c⟩,r⟩:=x; exact ⟨mA,⟨od,es,ep,k _ _ (.inl rfl) e,c⟩,r⟩
  | rng lo hi=>obtain ⟨t,u,v,e⟩:=x; exact ⟨t,u,v,k _ _ (.inl rfl) e⟩
  | frz ob u ih=>obtain ⟨e,q⟩:=x; exact ⟨k _ _ (.inl rfl) e,ih q⟩
  | tbl ps =>
    have e:h.get? a=some { cls:=.none,data:=.fields ps }:=x
    show h'.get? a=some { cls:=.none,data:=.fields ps }
    exact k a _ (.inl rfl) e
  | met f y =>
    have e:h.get? a=some (PySem.W.methodObj (.ref f) (.ref y)):=x
    show h'.get? a=some (PySem.W.methodObj (.ref f) (.ref y))
    exact k a _ (.inl rfl) e
  | ext φ=>obtain ⟨p,⟨o,e⟩,st⟩:=x; exact ⟨st _ _ p fun o q=>k _ _ (.inl rfl) q,⟨o,k _ _ (.inl rfl) e⟩,st⟩
theorem HOk.lt (x:HOk P w H h)(e:H a=some o):a<h.objs.size:=(x a o e).lt
theorem HOk.fresh (x:HOk P w H h)(e:h.objs.size≤a):H a=none:=by
  cases q:H a with
  | none=>rfl
  | some u=>exact absurd (Nat.lt_of_lt_of_le (x.lt q) e) (Nat.lt_irrefl _)
theorem HOk.kept (x:HOk P w H h)(k:∀ b u,h.get? b=some u→h'.get? b=some u):HOk P w H h':=fun a o e =>
  (x a o e).stay (fun b u _ q=>k b u q) (fun _ q=>q) fun _ _ q=>q
theorem HOk.laid (x:HOk P w H h)(k:∀ b u,h.get? b=some u→h'.get? b=some u)(hp:h.objs.size≤a)(new:ObjOk P w (upd H a o) h' a o):HOk P w (upd H a o) h':=fun b u e=>by
  have hn:=x.fresh hp
  by_cases hb:b=a
  · subst hb; rw [upd_same] at e; cases e; exact new
  · rw [upd_ne hb] at e
    exact (x b u e).stay (fun c v _ q=>k c v q) (fun c q=>by rw [upd_ne (ne_of_none q hn)]; exact q) fun c xs q=>by rw [upd_ne (ne_of_none q hn)]; exact q
end
def Rd (H:Hp)(a:Addr)(u:HO):Prop:=H a=some u∨∃ o,H a=some (.frz o u)
theorem Rd.of {H:Hp}{a:Addr}{u:HO}(h:H a=some u):Rd H a u:=.inl h
theorem Rd.ok {P:Program}{w:World}{H:Hp}{h:Heap}{a:Addr}{u:HO}(r:Rd H a u)(x:HOk P w H h):ObjOk P w H h a u:=by
  rcases r with r | ⟨o,r⟩
  · exact x a u r
  · obtain ⟨_,q⟩:=x a _ r
    exact q
def Mut:Option HO→Prop
  | some (.lst _)=>True
  | some (.dK _)=>True
  | some (.dT _)=>True
  | some (.set _ _)=>True
  | some (.ins _ _ _)=>True
  | some (.ext _)=>True
  | _=>False
section
variable {P:Program}{w:World}{H:Hp}{h h':Heap}{x e:Addr}{o':HO}
theorem HOk.write (ok:HOk P w H h)(mu:Mut (H x))(he:e=x∨H e=some (.own x))(k:∀ b u,b≠e→h.get? b=some u→h'.get? b=some u)(heo:∃ u,h'.get? e=some u)
    (new:ObjOk P w (upd H x o') h' x o'):HOk P w (upd H x o') h':=fun b u q=>by
  have nown:∀ c y,H c=some (.own y)→c≠x:=fun c y r z=>by subst z; rw [r] at mu; exact mu
  have ntup:∀ c xs,H c=some (.tup xs)→c≠x:=fun c xs r z=>by subst z; rw [r] at mu; exact mu
  by_cases hb:b=x
  · subst hb; rw [upd_same] at q; cases q; exact new
  · rw [upd_ne hb] at q
    by_cases hbe:b=e
    · have q':H b=some (.own x):=by
        rcases he with z | z
        · exact absurd (hbe.trans z) hb
        · rw [hbe]; exact z
      rw [q] at q'; cases q'
      obtain ⟨v,hv⟩:=heo
      exact ⟨v,by rw [hbe]; exact hv⟩
    · refine (ok b u q).stay (fun c v hc r=>k c v ?_ r) (fun c r=>by rw [upd_ne (nown c b r)]; exact r) fun c xs r=>by rw [upd_ne (ntup c xs r)]; exact r
      rcases hc with rfl | hc
      · exact hbe
      · rintro rfl
        rcases he with z | z
        · exact nown c b hc z
        · rw [hc] at z; cases z; exact hb rfl
end
structure Un (fs ex:List Addr)(H H':Hp)(h h':Heap):Prop where
  keep:∀ b o,h.get? b=some o→H b=none→b∉fs→b∉ex→h'.get? b=some o
  slot:∀ b o,h.get? b=some o→H b=none→b∈fs→b∉ex→∃ sl,h'.get? b=some { o with slots:=sl }
  free:∀ b o,h.get? b=some o→H b=none→b∉ex→H' b=none
  there:∀ b o,h.get? b=some o→b∉ex→∃ o',h'.get? b=some o'
  tups:∀ b xs,H b=some (.tup xs)→H' b=some (.tup xs)
  frzs:∀ b o u,H b=some (.frz o u)→H' b=some (.frz o u)
  tbls:∀ b ps,H b=some (.tbl ps)→∃ more,H' b=some (.tbl (ps++more))
section
variable {fs fs' ex ex':List Addr}{H H1 H2:Hp}{h h1 h2 h':Heap}{a x e:Addr}{o:HO}
theorem Un.any (u:Un fs ex H H1 h h1){b:Addr}{ob:Obj}(q:h.get? b=some ob)(n:H b=none)(hx:b∉ex):∃ sl,h1.get? b=some { ob with slots:=sl }:=by
  by_cases hb:b∈fs
  · exact u.slot b ob q n hb hx
  · exact ⟨ob.slots,u.keep b ob q n hb hx⟩
theorem Un.trans (a:Un fs ex H H1 h h1)(b:Un fs ex H1 H2 h1 h2):Un fs ex H H2 h h2 where
  keep:=fun c ob q n hc hx=>b.keep c ob (a.keep c ob q n hc hx) (a.free c ob q n hx) hc hx
  slot:=fun c ob q n hc hx=>by
    obtain ⟨sl,e1⟩:=a.slot c ob q n hc hx
    obtain ⟨sl',e2⟩:=b.slot c _ e1 (a.free c ob q n hx) hc hx
    exact ⟨sl',e2⟩
  free:=fun c ob q n hx=>by
    obtain ⟨o',e1⟩:=a.there c ob q hx
    exact b.free c o' e1 (a.free c ob q n hx) hx
  there:=fun c ob q hx=>by
    obtain ⟨o',e1⟩:=a.there c ob q hx
    exact b.there c o' e1 hx
  tups:=fun c xs q=>b.tups c xs (a.tups c xs q)
  frzs:=fun c ob xs q=>b.frzs c ob xs (a.frzs c ob xs q)
  tbls:=fun c ps q=>by
    obtain ⟨m1,e1⟩:=a.tbls c ps q
    obtain ⟨m2,e2⟩:=b.tbls c _ e1
    exact ⟨m1++m2,by rw [e2,Array.append_assoc]⟩
theorem Un.kept (k:∀ b u,h.get? b=some u→h'.get? b=some u):Un fs ex H H h h' :=
  ⟨fun b ob q _ _ _=>k b ob q,fun b ob q _ _ _=>⟨ob.slots,k b ob q⟩,fun _ _ _ n _=>n,fun b ob q _=>⟨ob,k b ob q⟩,fun _ _ q=>q,fun _ _ _ q=>q,fun _ ps q=>⟨#[],by rw [q]; simp⟩⟩
theorem Un.refl:Un fs ex H H h h:=Un.kept fun _ _ q=>q
theorem Un.laid (k:∀ b u,h.get? b=some u→h'.get? b=some u)(hp:h.objs.size≤a)(hn:H a=none):Un fs ex H (upd H a o) h h' where
  keep:=fun b u q _ _ _=>k b u q
  slot:=fun b u q _ _ _=>⟨u.slots,k b u q⟩
  free:=fun b u q n _=>by rw [upd_ne (Nat.ne_of_lt (Nat.lt_of_lt_of_le (Heap.lt_size q) hp))]; exact n
  there:=fun b u q _=>⟨u,k b u q⟩
  tups:=fun b xs q=>by rw [upd_ne (ne_of_none q hn)]; exact q
  frzs:=fun b u xs q=>by rw [upd_ne (ne_of_none q hn)]; exact q
  tbls:=fun b ps q=>⟨#[],by rw [upd_ne (ne_of_none q hn),q]; simp⟩
theorem Un.write (mu:Mut (H x))(he:e=x∨H e=some (.own x))(k:∀ b u,b≠e→h.get? b=some u→h'.get? b=some u)(heo:∃ u,h'.get? e=some u):Un fs ex H (upd H x o) h h':=by
  have hx:∀ b,H b=none→b≠x:=fun b n z=>by subst z; rw [n] at mu; exact mu
  have hb:∀ b,H b=none→b≠e:=fun b n z=>by
    subst z
    rcases he with r | r
    · exact hx b n r
    · rw [n] at r; cases r
  have hm:∀ b u,H b=some u→¬ Mut (some u)→b≠x:=fun b u q nm z=>by subst z; rw [q] at mu; exact nm mu
  refine ⟨fun b u q n _ _=>k b u (hb b n) q,fun b u q n _ _=>⟨u.slots,k b u (hb b n) q⟩,fun b u q n _=>by rw [upd_ne (hx b n)]; exact n,fun b u q _=>?_,
    fun b xs q=>by rw [upd_ne (hm b _ q fun z=>z)]; exact q,fun b u xs q=>by rw [upd_ne (hm b _ q fun z=>z)]; exact q,fun b ps q=>⟨#[],by rw [upd_ne (hm b _ q fun z=>z),q]; simp⟩⟩
  by_cases hbe:b=e
  · subst hbe; exact heo
  · exact ⟨u,k b u hbe q⟩
theorem Un.mono (u:Un fs ex H H1 h h1)(hs:∀ b∈fs,b∈fs')(hx:∀ b∈ex,b∈ex'):Un fs' ex' H H1 h h1 :=
  ⟨fun b ob q n hb he=>u.keep b ob q n (fun z=>hb (hs b z)) fun z=>he (hx b z),fun _ _ q n _ he=>u.any q n fun z=>he (hx _ z),fun b ob q n he=>u.free b ob q n fun z=>he (hx b z),fun b ob q he=>u.there b ob q fun z=>he (hx b z),u.tups,u.frzs,u.tbls⟩
end
def trk (h:Heap)(H:Hp):List Addr:=(List.range h.objs.size).filter fun a=>(H a).isSome
def hidT (h:Heap)(H:Hp):Heap:=PySem.W.hideAll h (trk h H)
theorem hidT_size (h:Heap)(H:Hp):(hidT h H).objs.size=h.objs.size:=PySem.W.hideAll_size _ _
theorem hidT_get {h:Heap}{H:Hp}{b:Addr}{o:Obj}(e:h.get? b=some o)(n:H b=none):(hidT h H).get? b=some o :=
  PySem.W.hideAll_get _ e fun hm=>by
    have q:(H b).isSome=true:=(List.mem_filter.mp hm).2
    rw [n] at q; simp at q
theorem of_hidT {h:Heap}{H:Hp}{b:Addr}{o:Obj}(e:(hidT h H).get? b=some o):h.get? b=some o∧H b=none:=by
  have e':h.get? b=some o:=PySem.W.of_hideAll (trk h H) e
  refine ⟨e',?_⟩
  cases q:H b with
  | none=>rfl
  | some x =>
    have hm:b∈trk h H:=List.mem_filter.mpr ⟨List.mem_range.mpr (Heap.lt_size e'),by simp [q]⟩
    have z:(hidT h H).get? b=none:=PySem.W.hideAll_none (trk h H) hm
    rw [z] at e; cases e
def allNews (g h:Heap)(L:Addr):List (Addr×Obj):=(List.range h.objs.size).filterMap fun a=>if a=L∨(g.get? a).isSome=true then none else (h.get? a).map fun o=>(a,o)
def rest (g h:Heap)(L d:Addr):List (Addr×Obj):=(allNews g h L).filter fun p=>decide (p.1≠d)
end L2
namespace L2
open PySem PySem.Spec PyProof.Rows
structure Mod (K:PySem.W.Frag)(mg:Str→Option Value)(base:Heap):Prop where
  kin:K.In base
  glob:base.Ns mainGlobals mg
  blt:∃ mb,base.Ns builtinsNs mb∧∀ x:Str,x≠"__name__"→mb x=bootBuiltins x
  nolimit:base.NoLimit
structure Cx where
  prog:Program
  w:World
  K:PySem.W.Frag
  mg:Str→Option Value
  base:Heap
  A:Around
  N:List Str
  s₀:Shared
  H₀:Hp
  env:Env
  outer:List Env
  stack:List Env
  ex:List Addr
  fn:Str→Bool
  calm:Bool
  pn:List (Addr×Obj)
  xe:Value→Shared→Prop
def frs (l:List Env):List Addr:=l.filterMap (·.frame)
abbrev Cx.fs (X:Cx):List Addr:=frs X.outer
def Vis (sc:Scope)(x:Str):Prop:=sc.names.lookup x=some .local∨sc.names.lookup x=some .cell∨sc.names.lookup x=some .free
def Loc (sc:Scope)(x:Str):Prop:=sc.names.lookup x=some .local∨sc.names.lookup x=some .cell
def Look (env:Env)(h:Heap)(m:Str→Option Value)(x:Str)(u:Value):Prop :=
  (env.kindOf x=some .local∧m x=some u)∨((env.kindOf x=some .cell∨env.kindOf x=some .free)∧∃ c,env.cells.lookup x=some c∧h.IsCell c (some u))
structure Cx.Ok (X:Cx):Prop where
  mod:Mod X.K X.mg X.base
  kind:X.env.scope.kind=.function
  glob:X.env.globals=mainGlobals
  blt:X.env.builtins=builtinsNs
  above:X.s₀.heap.objs.size≤X.env.locals
  inj:∀ x y c,X.env.cells.lookup x=some c→X.env.cells.lookup y=some c→x=y
  has:∀ x,(X.env.kindOf x=some .cell∨X.env.kindOf x=some .free)→∃ c,X.env.cells.lookup x=some c
  cab:∀ x c,X.fn x=true→X.env.cells.lookup x=some c→X.s₀.heap.objs.size≤c
  hd:X.calm=true→X.A.handled=none
  frames:X.A.frames=some X.stack
  stk:X.stack=X.outer∨(X.stack=X.env::X.outer∧X.env.frame=some X.env.locals)
  exf:∀ b∈X.ex,b≠X.env.locals∧∀ x c,X.env.cells.lookup x=some c→c≠b
  bs:∀ b o,X.base.get? b=some o→X.s₀.heap.get? b=some o∧X.H₀ b=none
  bsz:X.base.objs.size≤X.s₀.heap.objs.size
  noex:∀ b o,X.base.get? b=some o→b∉X.ex
  exfs:∀ b∈X.ex,b∉X.fs
  funs:X.s₀.heap.FunFrames X.base X.outer
  frf:∀ b∈X.fs,X.H₀ b=none
structure Inv (X:Cx)(pins:List (Addr×Obj))(σ:List (Option V))(H:Hp)(s:Shared):Prop where
  ok:X.Ok
  os:s.os=X.s₀.os
  bare:AllBare s.gens
  base:Un X.fs X.ex X.H₀ H X.s₀.heap s.heap
  loc:∃ m,s.heap.Ns X.env.locals m∧∀ (i:Nat) (x:Str) (v:V),X.N[i]?=some x→σ[i]?=some (some v)→Vis X.env.scope x→∃ u,RelV v u∧Look X.env s.heap m x u
  cell:∀ x c,X.env.cells.lookup x=some c→∃ v,s.heap.IsCell c v
  free:H X.env.locals=none
  freeC:∀ x c,X.env.cells.lookup x=some c→H c=none
  pin:∀ p∈X.pn++pins,s.heap.get? p.1=some p.2∧H p.1=none∧p.1≠X.env.locals∧p.1∉X.fs∧∀ v,p.2.data≠.cell v
  hok:HOk X.prog X.w H s.heap
  len:σ.length=X.N.length
section
variable {X:Cx}{pins:List (Addr×Obj)}{σ:List (Option V)}{H H':Hp}{s:Shared}{h':Heap}
theorem Cx.Ok.nofr (ok:X.Ok){b:Addr}{o:Obj}(e:X.base.get? b=some o):b∉X.fs:=fun hb=>by
  have:=(ok.funs.mem hb).1
  rw [e] at this; cases this
theorem Inv.bs (I:Inv X pins σ H s):∀ b o,X.base.get? b=some o→s.heap.get? b=some o∧H b=none:=fun b o e =>
  ⟨I.base.keep b o (I.ok.bs b o e).1 (I.ok.bs b o e).2 (I.ok.nofr e) (I.ok.noex b o e),I.base.free b o (I.ok.bs b o e).1 (I.ok.bs b o e).2 (I.ok.noex b o e)⟩
theorem Inv.bk (I:Inv X pins σ H s):∀ b o,X.base.get? b=some o→s.heap.get? b=some o:=fun b o e=>(I.bs b o e).1
theorem Inv.mod (I:Inv X pins σ H s):Mod X.K X.mg X.base:=I.ok.mod
theorem Inv.kIn (I:Inv X pins σ H s):X.K.In s.heap:=I.ok.mod.kin.keeps I.bk
theorem Inv.lt (I:Inv X pins σ H s):X.env.locals<s.heap.objs.size:=let ⟨_,hn,_⟩:=I.loc; hn.lt
theorem Inv.sz (I:Inv X pins σ H s):X.s₀.heap.objs.size≤s.heap.objs.size:=Nat.le_trans I.ok.above (Nat.le_of_lt I.lt)
theorem Inv.nofs (I:Inv X pins σ H s){a:Addr}(h:s.heap.objs.size≤a):a∉X.fs:=fun hb=>by
  obtain ⟨_,o,ho,_⟩:=I.ok.funs.mem hb
  exact absurd (Nat.lt_of_lt_of_le (Heap.lt_size ho) (Nat.le_trans I.sz h)) (Nat.lt_irrefl _)
theorem Inv.cne (I:Inv X pins σ H s):∀ x c,X.env.cells.lookup x=some c→c≠X.env.locals:=fun x c e z=>by
  obtain ⟨v,o,ho,hd⟩:=I.cell x c e
  obtain ⟨m,⟨o',es,ep,ho',hd',_⟩,_⟩:=I.loc
  rw [z,ho'] at ho; cases ho; rw [hd'] at hd; cases hd
theorem Inv.funs (I:Inv X pins σ H s):s.heap.FunFrames X.base X.outer:=by
  have all:∀ (l:List Env),(∀ b∈frs l,b∈X.fs)→X.s₀.heap.FunFrames X.base l→s.heap.FunFrames X.base l:=by
    intro l
    induction l with
    | nil=>intro _ _; trivial
    | cons env r ih =>
      intro hs hl
      obtain ⟨hk,⟨L,o,hf,hn,ho,hd⟩,hr⟩:=hl
      have hL:L∈X.fs:=hs L (by unfold frs; rw [List.filterMap_cons,hf]; exact List.mem_cons_self)
      obtain ⟨sl,e⟩:=I.base.slot L o ho (I.ok.frf L hL) hL fun z=>I.ok.exfs L z hL
      exact ⟨hk,⟨L,_,hf,hn,e,hd⟩,ih (fun b hb=>hs b (by unfold frs; rw [List.filterMap_cons,hf]; exact List.mem_cons_of_mem _ hb)) hr⟩
  exact all X.outer (fun _ hb=>hb) I.ok.funs
theorem Inv.stack (I:Inv X pins σ H s):s.heap.FunFrames X.base X.stack:=by
  rcases I.ok.stk with e | ⟨e,hf⟩
  · rw [e]; exact I.funs
  · rw [e]
    obtain ⟨m,hn,_⟩:=I.loc
    refine .cons (by rw [I.ok.kind]; decide) hf hn ?_ I.funs
    exact Heap.get?_none_of_le (Nat.le_trans I.ok.bsz I.ok.above)
theorem Inv.stkSub (I:Inv X pins σ H s):∀ b∈frs X.stack,b∈X.env.locals::X.fs:=fun b hb=>by
  rcases I.ok.stk with e | ⟨e,hf⟩
  · rw [e] at hb; exact List.mem_cons_of_mem _ hb
  · rw [e] at hb
    unfold frs at hb
    rw [List.filterMap_cons,hf] at hb
    exact hb
theorem Inv.stkFree (I:Inv X pins σ H s):∀ b∈frs X.stack,H b=none:=fun b hb=>by
  rcases List.mem_cons.mp (I.stkSub b hb) with e | hb
  · rw [e]; exact I.free
  · obtain ⟨_,o,ho,_⟩:=I.ok.funs.mem hb
    exact I.base.free b o ho (I.ok.frf b hb) fun z=>I.ok.exfs b z hb
theorem Inv.step {g':Array GenState}{t':Nat}{d':Drawn}{ch:List Addr}(I:Inv X pins σ H s)
    (hch:∀ b∈ch,(b∈X.ex∨X.s₀.heap.objs.size≤b)∧b≠X.env.locals∧(∀ x c,X.env.cells.lookup x=some c→c≠b)∧∀ p∈X.pn++pins,p.1≠b)
    (keep:∀ b o,b≠X.env.locals→b∉X.fs→b∉ch→s.heap.get? b=some o→H b=none→h'.get? b=some o)
    (slot:∀ b o,b≠X.env.locals→b∈X.fs→b∉ch→s.heap.get? b=some o→H b=none→∃ sl,h'.get? b=some { o with slots:=sl }) (free:∀ b o,b∉ch→s.heap.get? b=some o→H b=none→H' b=none)
    (there:∀ b o,b∉ch→s.heap.get? b=some o→∃ o',h'.get? b=some o')
    (tups:∀ b xs,H b=some (.tup xs)→H' b=some (.tup xs)) (frzs:∀ b o u,H b=some (.frz o u)→H' b=some (.frz o u)) (tbls:∀ b ps,H b=some (.tbl ps)→∃ more,H' b=some (.tbl (ps++more)))
    (ns:∀ m,s.heap.Ns X.env.locals m→h'.Ns X.env.locals m) (hok:HOk X.prog X.w H' h') (hg:AllBare g') :
    Inv X pins σ H' { s with heap:=h',gens:=g',drawn:=d',toks:=t' }:=by
  have neL:∀ b o,X.s₀.heap.get? b=some o→b≠X.env.locals:=fun b o e=>Nat.ne_of_lt (Nat.lt_of_lt_of_le (Heap.lt_size e) I.ok.above)
  have neC:∀ b o,X.s₀.heap.get? b=some o→b∉X.ex→b∉ch:=fun b o e hx hb=>by
    rcases (hch b hb).1 with z | z
    · exact hx z
    · exact absurd (Nat.lt_of_lt_of_le (Heap.lt_size e) z) (Nat.lt_irrefl _)
  have cellK:∀ x c,X.env.cells.lookup x=some c→∀ v,s.heap.IsCell c v→h'.IsCell c v:=fun x c e v ⟨o,ho,hd⟩=>by
    have nch:c∉ch:=fun z=>(hch c z).2.2.1 x c e rfl
    by_cases hc:c∈X.fs
    · obtain ⟨sl,q⟩:=slot c o (I.cne x c e) hc nch ho (I.freeC x c e)
      exact ⟨_,q,hd⟩
    · exact ⟨o,keep c o (I.cne x c e) hc nch ho (I.freeC x c e),hd⟩
  refine ⟨I.ok,I.os,hg,⟨fun b o e n hb hx=>?_,fun b o e n hb hx=>?_,fun b o e n hx=>?_,fun b o e hx=>?_,fun b xs e=>tups b xs (I.base.tups b xs e),fun b o xs e=>frzs b o xs (I.base.frzs b o xs e),fun b ps e=>?_⟩,?_,fun x c e=>?_,?_,fun x c e=>?_,fun p hp=>?_,hok,I.len⟩
  · exact keep b o (neL b o e) hb (neC b o e hx) (I.base.keep b o e n hb hx) (I.base.free b o e n hx)
  · obtain ⟨sl,e1⟩:=I.base.slot b o e n hb hx
    obtain ⟨sl',e2⟩:=slot b _ (neL b o e) hb (neC b o e hx) e1 (I.base.free b o e n hx)
    exact ⟨sl',e2⟩
  · obtain ⟨o',e1⟩:=I.base.there b o e hx
    exact free b o' (neC b o e hx) e1 (I.base.free b o e n hx)
  · obtain ⟨o',e1⟩:=I.base.there b o e hx
    exact there b o' (neC b o e hx) e1
  · obtain ⟨m1,e1⟩:=I.base.tbls b ps e
    obtain ⟨m2,e2⟩:=tbls b _ e1
    exact ⟨m1++m2,by rw [e2,Array.append_assoc]⟩
  · obtain ⟨m,hn,hl⟩:=I.loc
    refine ⟨m,ns m hn,fun i x v e1 e2 e3=>?_⟩
    obtain ⟨u,r,l⟩:=hl i x v e1 e2 e3
    refine ⟨u,r,?_⟩
    rcases l with l | ⟨k,c,e,z⟩
    · exact .inl l
    · exact .inr ⟨k,c,e,cellK x c e _ z⟩
  · obtain ⟨v,z⟩:=I.cell x c e
    exact ⟨v,cellK x c e v z⟩
  · obtain ⟨m,⟨o,_,_,ho,_⟩,_⟩:=I.loc
    exact free _ o (fun z=>(hch _ z).2.1 rfl) ho I.free
  · obtain ⟨v,o,ho,hd⟩:=I.cell x c e
    exact free c o (fun z=>(hch c z).2.2.1 x c e rfl) ho (I.freeC x c e)
  · obtain ⟨e,n,ne,nf,d⟩:=I.pin p hp
    have nch:p.1∉ch:=fun z=>(hch p.1 z).2.2.2 p hp rfl
    exact ⟨keep p.1 p.2 ne nf nch e n,free p.1 p.2 nch e n,ne,nf,d⟩
theorem Inv.un {t':Nat}(I:Inv X pins σ H s)(u:Un X.fs [] H H' s.heap h')(hok:HOk X.prog X.w H' h'):Inv X pins σ H' { s with heap:=h',toks:=t' }:=by
  obtain ⟨m,⟨o,es,ep,ho,r⟩,_⟩:=id I.loc
  obtain ⟨sl,hL⟩:=u.any ho I.free (by simp)
  exact I.step (g':=s.gens) (d':=s.drawn) (ch:=[]) (fun _ z=>nomatch z) (fun b o _ hb _ e n=>u.keep b o e n hb (by simp)) (fun b o _ hb _ e n=>u.slot b o e n hb (by simp)) (fun b o _ e n=>u.free b o e n (by simp)) (fun b o _ e=>u.there b o e (by simp)) u.tups u.frzs u.tbls (fun m' hm=>by
    obtain ⟨o',es',ep',ho',r'⟩:=hm
    rw [ho] at ho'; cases ho'
    exact ⟨_,es',ep',hL,r'⟩) hok I.bare
theorem Inv.call {g':Array GenState}{t':Nat}{d':Drawn}{ch:List Addr}(I:Inv X pins σ H s)(u:Un (frs X.stack) ch H H' s.heap h')(hok:HOk X.prog X.w H' h')(hg:AllBare g')
    (hch:∀ b∈ch,(b∈X.ex∨X.s₀.heap.objs.size≤b)∧b≠X.env.locals∧(∀ x c,X.env.cells.lookup x=some c→c≠b)∧∀ p∈X.pn++pins,p.1≠b) :
    Inv X pins σ H' { s with heap:=h',gens:=g',drawn:=d',toks:=t' }:=by
  obtain ⟨m,⟨o,es,ep,ho,r⟩,_⟩:=id I.loc
  obtain ⟨sl,hL⟩:=u.any ho I.free fun z=>(hch _ z).2.1 rfl
  exact I.step (ch:=ch) hch (fun b o hL hb hc e n=>u.keep b o e n (fun z=>(List.mem_cons.mp (I.stkSub b z)).elim hL hb) hc) (fun b o _ _ hc e n=>u.any e n hc) (fun b o hc e n=>u.free b o e n hc) (fun b o hc e=>u.there b o e hc) u.tups u.frzs u.tbls (fun m' hm=>by
    obtain ⟨o',es',ep',ho',r'⟩:=hm
    rw [ho] at ho'; cases ho'
    exact ⟨_,es',ep',hL,r'⟩) hok hg
theorem Inv.turned {t':Nat}{it:Addr}(I:Inv X pins σ H s)(k:∀ b o,b≠it→s.heap.get? b=some o→h'.get? b=some o)(hn:H it=none)(hL:it≠X.env.locals)
    (h1:it∈X.ex∨X.s₀.heap.objs.size≤it) (h2:∀ x c,X.env.cells.lookup x=some c→c≠it) (h3:∀ p∈X.pn++pins,p.1≠it):Inv X pins σ H { s with heap:=h',toks:=t' }:=by
  have nit:∀ b u,H b=some u→b≠it:=fun b u e z=>by rw [z,hn] at e; cases e
  refine I.step (g':=s.gens) (d':=s.drawn) (ch:=[it]) (fun b hb=>?_) (fun b o _ _ hc e _=>k b o (fun z=>hc (by simp [z])) e) (fun b o _ _ hc e _=>⟨o.slots,k b o (fun z=>hc (by simp [z])) e⟩) (fun _ _ _ _ n=>n)
    (fun b o hc e=>⟨o,k b o (fun z=>hc (by simp [z])) e⟩) (fun _ _ e=>e) (fun _ _ _ e=>e) (fun b ps e=>⟨#[],by rw [e]; simp⟩) (fun m hm=>?_) (fun b u e=>?_) I.bare
  · have e:b=it:=by simpa using hb
    subst e
    exact ⟨h1,hL,h2,h3⟩
  · obtain ⟨o,es,ep,ho,r⟩:=hm
    exact ⟨o,es,ep,k _ o (Ne.symm hL) ho,r⟩
  · refine (I.hok b u e).stay (fun c v hc q=>k c v ?_ q) (fun _ q=>q) fun _ _ q=>q
    rcases hc with z | z
    · rw [z]; exact nit b u e
    · exact nit c _ z
theorem Inv.tok (I:Inv X pins σ H s)(t:Nat):Inv X pins σ H { s with toks:=t }:=I.un (h':=s.heap) (t':=t) Un.refl I.hok
theorem Inv.kept {t':Nat}(I:Inv X pins σ H s)(k:∀ b u,s.heap.get? b=some u→h'.get? b=some u):Inv X pins σ H { s with heap:=h',toks:=t' }:=I.un (Un.kept k) (I.hok.kept k)
theorem Inv.laid {a:Addr}{o:HO}{t':Nat}(I:Inv X pins σ H s)(k:∀ b u,s.heap.get? b=some u→h'.get? b=some u)(hp:s.heap.objs.size≤a)(new:ObjOk X.prog X.w (upd H a o) h' a o) :
    Inv X pins σ (upd H a o) { s with heap:=h',toks:=t' }:=I.un (Un.laid k hp (I.hok.fresh hp)) (I.hok.laid k hp new)
theorem Inv.write {x e:Addr}{o:HO}{t':Nat}(I:Inv X pins σ H s)(mu:Mut (H x))(he:e=x∨H e=some (.own x))(k:∀ b u,b≠e→s.heap.get? b=some u→h'.get? b=some u)(heo:∃ u,h'.get? e=some u)
    (new:ObjOk X.prog X.w (upd H x o) h' x o):Inv X pins σ (upd H x o) { s with heap:=h',toks:=t' }:=I.un (Un.write mu he k heo) (I.hok.write mu he k heo new)
theorem Inv.pins_of {pins':List (Addr×Obj)}(I:Inv X pins σ H s)(h:∀ p∈pins',s.heap.get? p.1=some p.2∧H p.1=none∧p.1≠X.env.locals∧p.1∉X.fs∧∀ v,p.2.data≠.cell v):Inv X pins' σ H s :=
  ⟨I.ok,I.os,I.bare,I.base,I.loc,I.cell,I.free,I.freeC,fun p hp=>(List.mem_append.mp hp).elim (fun z=>I.pin p (List.mem_append_left _ z)) (h p),I.hok,I.len⟩
theorem nodup_ix {N:List Str}(hN:N.Nodup){i j:Nat}{x:Str}(a:N[i]?=some x)(b:N[j]?=some x):i=j:=by
  obtain ⟨h1,e1⟩:=List.getElem?_eq_some_iff.mp a
  obtain ⟨h2,e2⟩:=List.getElem?_eq_some_iff.mp b
  exact (List.getElem_inj hN).mp (e1.trans e2.symm)
theorem store_ok2 {M:Model}{A:Around}{E:Value→Shared→Prop}{i:Nat}{x:Str}{v:V}{u:Value}{Q:Unit→Shared→Prop}(I:Inv X pins σ H s)(hN:X.N.Nodup)(hi:X.N[i]?=some x)(hx:Loc X.env.scope x)(r:RelV v u)
    (h:∀ s',Inv X pins (σ.set i (some v)) H s'→(∃ a,Heap.SameBut a s.heap s'.heap∧(a=X.env.locals∨X.env.cells.lookup x=some a))→Q () s') (hf:X.fn x=true∨X.env.scope.names.lookup x=some .local:=by first | exact .inl rfl | exact .inr rfl | assumption):wpAny M A (storeName X.env x u) Q E s:=by
  obtain ⟨m,hn,hl⟩:=id I.loc
  have hcls:(X.env.scope.kind == .class || (X.env.scope.kind == .module && X.env.locals != X.env.globals))=false:=by rw [I.ok.kind]; rfl
  have hiσ:i<σ.length:=by rw [I.len]; exact (List.getElem?_eq_some_iff.mp hi).1
  have cne:=I.cne
  have tracked:∀ {a:Addr} {h':Heap},(∃ o,s.heap.get? a=some o∧H a=none)→Heap.SameBut a s.heap h'→HOk X.prog X.w H h':=fun {a h'} ha hs b ob e=>by
    obtain ⟨_,_,hfree⟩:=ha
    refine (I.hok b ob e).stay (fun c w' hc q=>(hs.2 c ?_).trans q) (fun _ q=>q) fun _ _ q=>q
    rintro rfl
    rcases hc with rfl | hc
    · rw [hfree] at e; cases e
    · rw [hfree] at hc; cases hc
  rcases hx with hk | hk
  · refine wpAny_storeName_local hk hn (fun h' hn' hs=>?_) hcls
    obtain ⟨oL,_,_,hoL,_⟩:=id hn
    refine h _ ⟨I.ok,I.os,I.bare,⟨fun b o e n hb hx=>?_,fun b o e n hb hx=>?_,I.base.free,fun b o e hx=>?_,I.base.tups,I.base.frzs,I.base.tbls⟩,⟨_,hn',fun j y v' e1 e2 e3=>?_⟩,fun y c e=>?_,I.free,I.freeC,fun p hp=>?_,tracked ⟨oL,hoL,I.free⟩ hs,by simpa using I.len⟩ ⟨_,hs,.inl rfl⟩
    · exact (hs.2 b (Nat.ne_of_lt (Nat.lt_of_lt_of_le (Heap.lt_size e) I.ok.above))).trans (I.base.keep b o e n hb hx)
    · obtain ⟨sl,e1⟩:=I.base.slot b o e n hb hx
      exact ⟨sl,(hs.2 b (Nat.ne_of_lt (Nat.lt_of_lt_of_le (Heap.lt_size e) I.ok.above))).trans e1⟩
    · obtain ⟨o',e1⟩:=I.base.there b o e hx
      exact ⟨o',(hs.2 b (Nat.ne_of_lt (Nat.lt_of_lt_of_le (Heap.lt_size e) I.ok.above))).trans e1⟩
    · by_cases hj:j=i
      · subst hj
        rw [hi] at e1; cases e1
        rw [List.getElem?_set_self hiσ] at e2
        cases e2
        exact ⟨u,r,.inl ⟨hk,by simp⟩⟩
      · rw [List.getElem?_set_ne (Ne.symm hj)] at e2
        obtain ⟨u',r',q⟩:=hl j y v' e1 e2 e3
        refine ⟨u',r',?_⟩
        rcases q with ⟨k,e⟩ | ⟨k,c,e,z⟩
        · refine .inl ⟨k,?_⟩
          have:y≠x:=fun e=>hj (nodup_ix hN e1 (e▸hi))
          simp [this,e]
        · exact .inr ⟨k,c,e,z.sameBut hs (cne y c e)⟩
    · obtain ⟨w',z⟩:=I.cell y c e
      exact ⟨w',z.sameBut hs (cne y c e)⟩
    · obtain ⟨e,n,ne,nf,d⟩:=I.pin p hp
      exact ⟨(hs.2 p.1 ne).trans e,n,ne,nf,d⟩
  · have hfn:X.fn x=true:=by
      rcases hf with z | z
      · exact z
      · rw [z] at hk; cases hk
    obtain ⟨c,hc⟩:=I.ok.has x (.inl hk)
    obtain ⟨w',z⟩:=I.cell x c hc
    refine wpAny_storeName_cell I.ok.kind hk hc z (fun h' hc' hs=>?_)
    obtain ⟨oc,hoc,hocd⟩:=id z
    refine h { s with heap:=h' } ⟨I.ok,I.os,I.bare,⟨fun b o e n hb hx=>?_,fun b o e n hb hx=>?_,I.base.free,fun b o e hx=>?_,I.base.tups,I.base.frzs,I.base.tbls⟩,⟨m,hn.sameBut hs (Ne.symm (cne x c hc)),fun j y v' e1 e2 e3=>?_⟩,fun y c' e=>?_,I.free,I.freeC,fun p hp=>?_,tracked ⟨oc,hoc,I.freeC x c hc⟩ hs,by simpa using I.len⟩ ⟨c,hs,.inr hc⟩
    · exact (hs.2 b (Nat.ne_of_lt (Nat.lt_of_lt_of_le (Heap.lt_size e) (I.ok.cab x c hfn hc)))).trans (I.base.keep b o e n hb hx)
    · obtain ⟨sl,e1⟩:=I.base.slot b o e n hb hx
      exact ⟨sl,(hs.2 b (Nat.ne_of_lt (Nat.lt_of_lt_of_le (Heap.lt_size e) (I.ok.cab x c hfn hc)))).trans e1⟩
    · obtain ⟨o',e1⟩:=I.base.there b o e hx
      exact ⟨o',(hs.2 b (Nat.ne_of_lt (Nat.lt_of_lt_of_le (Heap.lt_size e) (I.ok.cab x c hfn hc)))).trans e1⟩
    · by_cases hj:j=i
      · subst hj
        rw [hi] at e1; cases e1
        rw [List.getElem?_set_self hiσ] at e2
        cases e2
        exact ⟨u,r,.inr ⟨.inl hk,c,hc,hc'⟩⟩
      · rw [List.getElem?_set_ne (Ne.symm hj)] at e2
        obtain ⟨u',r',q⟩:=hl j y v' e1 e2 e3
        refine ⟨u',r',?_⟩
        rcases q with q | ⟨k,c',e,z'⟩
        · exact .inl q
        · refine .inr ⟨k,c',e,z'.sameBut hs ?_⟩
          rintro rfl
          exact hj (nodup_ix hN e1 (I.ok.inj _ _ _ e hc▸hi))
    · by_cases hcc:c'=c
      · subst hcc; exact ⟨_,hc'⟩
      · obtain ⟨w2,z2⟩:=I.cell y c' e
        exact ⟨w2,z2.sameBut hs hcc⟩
    · obtain ⟨e,n,ne,nf,d⟩:=I.pin p hp
      refine ⟨(hs.2 p.1 ?_).trans e,n,ne,nf,d⟩
      intro q
      rw [q,hoc] at e
      have q':oc=p.2:=Option.some.inj e
      exact d w' (by rw [← q']; exact hocd)
theorem store_ok {M:Model}{A:Around}{E:Value→Shared→Prop}{i:Nat}{x:Str}{v:V}{u:Value}{Q:Unit→Shared→Prop}(I:Inv X pins σ H s)(hN:X.N.Nodup)(hi:X.N[i]?=some x)(hx:Loc X.env.scope x)(r:RelV v u)
    (h:∀ s',Inv X pins (σ.set i (some v)) H s'→Q () s') (hf:X.fn x=true∨X.env.scope.names.lookup x=some .local:=by first | exact .inl rfl | exact .inr rfl | assumption):wpAny M A (storeName X.env x u) Q E s :=
  store_ok2 I hN hi hx r (fun s' I' _=>h s' I') hf
theorem Inv.call' {s':Shared}{ch:List Addr}(I:Inv X pins σ H s)(ho:s'.os=s.os)(u:Un (frs X.stack) ch H H' s.heap s'.heap)(hok:HOk X.prog X.w H' s'.heap)(hg:AllBare s'.gens)
    (hch:∀ b∈ch,(b∈X.ex∨X.s₀.heap.objs.size≤b)∧b≠X.env.locals∧(∀ x c,X.env.cells.lookup x=some c→c≠b)∧∀ p∈X.pn++pins,p.1≠b):Inv X pins σ H' s':=by
  obtain ⟨h',g',d',t',o'⟩:=s'
  have e:o'=s.os:=ho
  subst e
  exact I.call (g':=g') (t':=t') (d':=d') u hok hg hch
end
abbrev XK:=Value→Option Addr→Hp→Prop
abbrev St:=List (Option V)
abbrev VK:=V→Hp→Prop
abbrev TE:=St→Hp→VK→Prop
abbrev TT:=St→Hp→(Bool→Hp→Prop)→Prop
abbrev TA:=St→Hp→(List V→Hp→Prop)→Prop
structure Ends where
  nx:St→Hp→Prop
  rt:VK
  bk:St→Hp→Prop:=fun _ _=>False
  ct:St→Hp→Prop:=fun _ _=>False
abbrev TS:=Ends→St→Hp→Prop
def EP (X:Cx)(pins:List (Addr×Obj))(σ:St)(Q:VK)(u:Value)(s':Shared):Prop:=∃ v H',Inv X pins σ H' s'∧RelV v u∧Q v H'
def TP (X:Cx)(pins:List (Addr×Obj))(σ:St)(Q:Bool→Hp→Prop)(b:Bool)(s':Shared):Prop:=∃ H',Inv X pins σ H' s'∧Q b H'
def AP (X:Cx)(pins:List (Addr×Obj))(σ:St)(Q:List V→Hp→Prop)(us:List Value)(s':Shared):Prop:=∃ vs H',Inv X pins σ H' s'∧Vals vs us∧Q vs H'
def SP (X:Cx)(pins:List (Addr×Obj))(D:Ends)(f:Flow)(s':Shared):Prop :=
  match f with
  | .next=>∃ σ' H',Inv X pins σ' H' s'∧D.nx σ' H'
  | .brk=>∃ σ' H',Inv X pins σ' H' s'∧D.bk σ' H'
  | .cont=>∃ σ' H',Inv X pins σ' H' s'∧D.ct σ' H'
  | .ret u=>∃ v σ' H',Inv X pins σ' H' s'∧RelV v u∧D.rt v H'
def PE (X:Cx)(e:Expr)(t:TE):Prop :=
  ∀ (pins:List (Addr×Obj)) (s:Shared) (σ:St) (H:Hp) (Q:VK),Inv X pins σ H s→t σ H Q→wpAny (model X.prog X.w) X.A (eval e X.env) (EP X pins σ Q) X.xe s
def PT (X:Cx)(e:Expr)(t:TT):Prop :=
  ∀ (pins:List (Addr×Obj)) (s:Shared) (σ:St) (H:Hp) (Q:Bool→Hp→Prop),Inv X pins σ H s→t σ H Q→wpAny (model X.prog X.w) X.A (isTrue e X.env (eval e X.env)) (TP X pins σ Q) X.xe s
def PW (X:Cx)(e:Expr)(t:TT):Prop :=
  ∀ (whole:Sem Value) (pins:List (Addr×Obj)) (s:Shared) (σ:St) (H:Hp) (Q:Bool→Hp→Prop),Inv X pins σ H s→t σ H Q→wpAny (model X.prog X.w) X.A (isTrue e X.env whole) (TP X pins σ Q) X.xe s
theorem PW.pt {X:Cx}{e:Expr}{t:TT}(h:PW X e t):PT X e t:=h _
def PA (X:Cx)(es:List Expr)(t:TA):Prop :=
  ∀ (pos:Pos) (pins:List (Addr×Obj)) (s:Shared) (σ:St) (H:Hp) (Q:List V→Hp→Prop),Inv X pins σ H s→t σ H Q→wpAny (model X.prog X.w) X.A (spliced (backTo pos (starEach es X.env))) (AP X pins σ Q) X.xe s
def PS (X:Cx)(st:Stmt)(t:TS):Prop :=
  ∀ (pins:List (Addr×Obj)) (s:Shared) (σ:St) (H:Hp) (D:Ends),Inv X pins σ H s→t D σ H→wpAny (model X.prog X.w) X.A (exec st X.env) (SP X pins D) X.xe s
def PSs (X:Cx)(st:List Stmt)(t:TS):Prop :=
  ∀ (pins:List (Addr×Obj)) (s:Shared) (σ:St) (H:Hp) (D:Ends),Inv X pins σ H s→t D σ H→wpAny (model X.prog X.w) X.A (execs st X.env) (SP X pins D) X.xe s
theorem thn {α:Type}{t:Sem α}{Q Q':α→Shared→Prop}{M:Model}{A:Around}{E:Value→Shared→Prop}{s:Shared}(h:wpAny M A t Q E s)(hQ:∀ a s,Q a s→Q' a s):wpAny M A t Q' E s:=wpAny_mono h hQ fun _ _ x=>x
end L2
namespace L2
open PySem PySem.Spec PyProof.Rows
section
variable {X:Cx}
theorem bin {a b:Expr}{ta tb:TE}(ha:PE X a ta)(hb:PE X b tb){pins:List (Addr×Obj)}{s:Shared}{σ:St}{H:Hp}{R:V→V→Hp→Prop}(I:Inv X pins σ H s)(h:ta σ H fun x H1=>tb σ H1 fun y H2=>R x y H2)
    {α:Type} {Q:α→Shared→Prop} {f:Value→Value→Sem α}
    (hf:∀ v u s2 x y H2,Inv X pins σ H2 s2→RelV x v→RelV y u→R x y H2→wpAny (model X.prog X.w) X.A (f v u) Q X.xe s2) :
    wpAny (model X.prog X.w) X.A (eval a X.env) (fun v s₁=>wpAny (model X.prog X.w) X.A (eval b X.env) (fun u s₂=>wpAny (model X.prog X.w) X.A (f v u) Q X.xe s₂) X.xe s₁) X.xe s:=by
  refine thn (ha pins s σ H _ I h) fun v s1 ⟨x,H1,I1,r1,q1⟩=>?_
  refine thn (hb pins s1 σ H1 _ I1 q1) fun u s2 ⟨y,H2,I2,r2,q2⟩=>?_
  exact hf v u s2 x y H2 I2 r1 r2 q2
def tVar (i:Nat):TE:=fun σ H Q=>∃ v,σ[i]?=some (some v)∧Q v H
def tC (v:V):TE:=fun _ H Q=>Q v H
theorem pe_var {i:Nat}{x:Str}{pos:Pos}(hN:X.N[i]?=some x)(hv:Vis X.env.scope x)(hd:(x == ("__debug__":Str))=false:=by decide)(hcd:(x == ("__classdict__":Str))=false:=by decide):PE X (.Name x pos) (tVar i):=by
  intro pins s σ H Q I h
  obtain ⟨v,e,h⟩:=h
  obtain ⟨m,hn,hl⟩:=I.loc
  obtain ⟨u,r,l⟩:=hl i x v hN e hv
  have fin:EP X pins σ Q u s:=⟨v,H,I,r,h⟩
  rcases l with ⟨hk,hm⟩ | ⟨hk,c,hc,hcell⟩
  · exact wpAny_Name (wpAny_loadName_local I.ok.kind hk hn hm fin) hd
  · rcases hk with hk | hk
    · exact wpAny_Name (wpAny_loadName_cell I.ok.kind hk hc hcell fin) hd
    · exact wpAny_Name (wpAny_loadName_free I.ok.kind hk hc hcell fin hcd) hd
theorem pe_int {i j pos}:PE X (.Constant (.int i) j pos) (tC (.int i)):=fun _ _ _ H _ I h=>wpAny_Constant_int ⟨.int i,H,I.tok _,⟨_,rfl⟩,h⟩
theorem pe_bl {b j pos}:PE X (.Constant (.bool b) j pos) (tC (.bl b)):=fun _ _ _ H _ I h=>Constant_bool ⟨.bl b,H,I,rfl,h⟩
theorem pe_non {j pos}:PE X (.Constant .none j pos) (tC .non):=fun _ _ _ H _ I h=>Constant_none ⟨.non,H,I,rfl,h⟩
theorem pe_str {x j pos}:PE X (.Constant (.str x) j pos) (tC (.str x)):=fun _ _ _ H _ I h=>Calls.Constant_str ⟨.str x,H,I.tok _,⟨_,rfl⟩,h⟩
def Gl (X:Cx)(x:Str):Prop:=X.env.kindOf x=some .globalImplicit
theorem ld_glob {E:Value→Shared→Prop}{pins:List (Addr×Obj)}{s:Shared}{σ:St}{H:Hp}{x:Str}{u:Value}{pos:Pos}{Q:Value→Shared→Prop}(I:Inv X pins σ H s)(hg:Gl X x)(hm:X.mg x=some u)(h:Q u s)
    (hd:(x == ("__debug__":Str))=false:=by decide):wpAny (model X.prog X.w) X.A (eval (.Name x pos) X.env) Q E s :=
  Calls.Name_function_global I.ok.kind hg (Calls.loadGlobal_global (by rw [I.ok.glob]; exact I.mod.glob.keeps I.bk) hm h) hd
theorem ld_blt {E:Value→Shared→Prop}{pins:List (Addr×Obj)}{s:Shared}{σ:St}{H:Hp}{x:Str}{u:Value}{pos:Pos}{Q:Value→Shared→Prop}(I:Inv X pins σ H s)(hg:Gl X x)(hm:X.mg x=none)(hv:bootBuiltins x=some u)(h:Q u s)
    (hn:x≠"__name__":=by decide) (hd:(x == ("__debug__":Str))=false:=by decide):wpAny (model X.prog X.w) X.A (eval (.Name x pos) X.env) Q E s:=by
  obtain ⟨mb,h1,h2⟩:=I.mod.blt
  exact Calls.Name_function_global I.ok.kind hg (Calls.loadGlobal_builtin (by rw [I.ok.glob]; exact I.mod.glob.keeps I.bk) hm (by rw [I.ok.blt]; exact h1.keeps I.bk) ((h2 x hn).trans hv) h) hd
theorem pe_glob {x:Str}{v:V}{u:Value}{pos:Pos}(hg:Gl X x)(hm:X.mg x=some u)(r:RelV v u)(hd:(x == ("__debug__":Str))=false:=by decide):PE X (.Name x pos) (tC v) :=
  fun _ _ _ H _ I h=>ld_glob I hg hm ⟨v,H,I,r,h⟩ hd
theorem pe_bltn {x:Str}{v:V}{u:Value}{pos:Pos}(hg:Gl X x)(hm:X.mg x=none)(hv:bootBuiltins x=some u)(r:RelV v u)(hn:x≠"__name__":=by decide)(hd:(x == ("__debug__":Str))=false:=by decide):PE X (.Name x pos) (tC v) :=
  fun _ _ _ H _ I h=>ld_blt I hg hm hv ⟨v,H,I,r,h⟩ hn hd
variable {a b:Expr}{ta tb:TE}{pos:Pos}
def PC (X:Cx)(op:CmpOp)(a b:Expr)(t:TE):Prop :=
  ∀ (pins:List (Addr×Obj)) (s:Shared) (σ:St) (H:Hp) (Q:VK),Inv X pins σ H s→t σ H Q →
    wpAny (model X.prog X.w) X.A (eval a X.env) (fun v s₁=>wpAny (model X.prog X.w) X.A (eval b X.env) (fun u s₂=>wpAny (model X.prog X.w) X.A (compareOp op v u) (EP X pins σ Q) X.xe s₂) X.xe s₁) X.xe s
def tB (t:TE):TT:=fun σ H Q=>t σ H fun x H1=>∃ c,x=.bl c∧Q c H1
theorem pt_cmp {op:CmpOp}{t:TE}(h:PC X op a b t)(h1:behindInMarks op b=false:=by first | exact nobehind _ (by decide) (by decide) | rfl):PT X (.Compare a [op] [b] pos) (tB t):=by
  intro pins s σ H Q I hw
  refine wpAny_isTrue_Compare1 (thn (h pins s σ H _ I hw) fun v s1 h1=>thn h1 fun u s2 h2=>thn h2 fun c s3 ⟨x,H1,I1,r1,q1⟩=>?_) h1
  obtain ⟨d,rfl,q⟩:=q1
  cases r1
  exact wpAny_truthy_bool ⟨H1,I1,q⟩
theorem pt_val {e:Expr}{t:TE}(h:PE X e t)(he:∀ whole,isTrue e X.env whole=(do let v ← whole; standAt e.pos; holding [v] (truthy v)):=by intro _; rfl):PT X e (tB t):=by
  intro pins s σ H Q I hw
  refine isTrue_plain (thn (h pins s σ H _ I hw) fun v s1 ⟨x,H1,I1,r1,q1⟩=>?_) (he _)
  obtain ⟨d,rfl,q⟩:=q1
  cases r1
  exact wpAny_truthy_bool ⟨H1,I1,q⟩
variable {tA tB':TT}{rest:List Expr}
def tAnd (t u:TT):TT:=fun σ H Q=>t σ H fun c H1=>if c=true then u σ H1 Q else Q false H1
def tOr (t u:TT):TT:=fun σ H Q=>t σ H fun c H1=>if c=true then Q true H1 else u σ H1 Q
def tNot (t:TT):TT:=fun σ H Q=>t σ H fun c H1=>Q (!c) H1
theorem pw_and1 (ha:PT X a tA):PW X (.BoolOp .And [a] pos) tA:=by
  intro wh pins s σ H Q I h
  refine isTrue_and (thn (ha pins s σ H Q I h) fun c s1 e=>?_)
  cases c with
  | true=>exact isTrue_and_nil e
  | false=>exact e
theorem pw_or1 (ha:PT X a tA):PW X (.BoolOp .Or [a] pos) tA:=by
  intro wh pins s σ H Q I h
  refine isTrue_or (thn (ha pins s σ H Q I h) fun c s1 e=>?_)
  cases c with
  | false=>exact isTrue_or_nil e
  | true=>exact e
theorem pw_and (ha:PT X a tA)(hb:PW X (.BoolOp .And (b::rest) pos) tB'):PW X (.BoolOp .And (a::b::rest) pos) (tAnd tA tB'):=by
  intro wh pins s σ H Q I h
  refine isTrue_and (thn (ha pins s σ H _ I h) fun c s1 ⟨H1,I1,q1⟩=>?_)
  cases c with
  | true=>exact hb wh pins s1 σ H1 Q I1 q1
  | false=>exact ⟨H1,I1,q1⟩
theorem pw_or (ha:PT X a tA)(hb:PW X (.BoolOp .Or (b::rest) pos) tB'):PW X (.BoolOp .Or (a::b::rest) pos) (tOr tA tB'):=by
  intro wh pins s σ H Q I h
  refine isTrue_or (thn (ha pins s σ H _ I h) fun c s1 ⟨H1,I1,q1⟩=>?_)
  cases c with
  | true=>exact ⟨H1,I1,q1⟩
  | false=>exact hb wh pins s1 σ H1 Q I1 q1
theorem pt_not (ha:PT X a tA):PT X (.UnaryOp .Not a pos) (tNot tA):=by
  intro pins s σ H Q I h
  exact isTrue_not (ha pins s σ H (fun c H1=>Q (!c) H1) I h)
def tAndV (ta tb:TE):TE:=fun σ H Q=>ta σ H fun x H1=>∃ c,x=.bl c∧if c=true then tb σ H1 Q else Q (.bl false) H1
def tNotV (ta:TE):TE:=fun σ H Q=>ta σ H fun x H1=>∃ c,x=.bl c∧Q (.bl (!c)) H1
theorem pe_one {op}{t:TE}(h:PE X a t):PE X (.BoolOp op [a] pos) t:=fun pins s σ H Q I hw=>BoolOp_one (h pins s σ H Q I hw)
theorem pe_and (ha:PE X a ta)(hb:PE X (.BoolOp .And (b::rest) pos) tb):PE X (.BoolOp .And (a::b::rest) pos) (tAndV ta tb):=by
  intro pins s σ H Q I h
  refine BoolOp_and (thn (ha pins s σ H _ I h) fun v s1 ⟨x,H1,I1,r1,q1⟩=>?_)
  obtain ⟨c,rfl,q1⟩:=q1
  cases r1
  refine wpAny_truthy_bool ?_
  cases c with
  | true=>exact hb pins s1 σ H1 Q I1 q1
  | false=>exact ⟨.bl false,H1,I1,rfl,q1⟩
theorem pe_not (ha:PE X a ta):PE X (.UnaryOp .Not a pos) (tNotV ta):=by
  intro pins s σ H Q I h
  refine UnaryOp_ (thn (ha pins s σ H _ I h) fun v s1 ⟨x,H1,I1,r1,q1⟩=>?_)
  obtain ⟨c,rfl,q1⟩:=q1
  cases r1
  exact not_of (wpAny_truthy_bool ⟨.bl (!c),H1,I1,rfl,q1⟩)
end
end L2
namespace L2
open PySem PySem.Spec PyProof.Rows
def SqL (K:PySem.W.Frag)(H:Hp)(a:Addr)(xs:List V):Prop :=
  Rd H a (.lst xs) ∨
    ∃ (o:Obj) (its:Array Value) (n:Nat),K.lookup a=some o∧o.cls=.type "list"∧o.dict=none∧o.data=.seq its n∧its.size≤sizeLine∧Vals xs its.toList
def SqT (K:PySem.W.Frag)(H:Hp)(a:Addr)(xs:List V):Prop :=
  Rd H a (.tup xs) ∨
    ∃ (o:Obj) (its:Array Value) (n:Nat),K.lookup a=some o∧o.cls=.type "tuple"∧o.data=.seq its n∧its.size≤sizeLine∧Vals xs its.toList
def absV:Value→Option V
  | .none=>some .non
  | .bool b=>some (.bl b)
  | .int i _=>some (.int i)
  | .str x _=>some (.str x)
  | .bytes b _=>some (.byt b)
  | .float b _=>some (.flt b)
  | .ref a=>some (.ref a)
  | .type n=>some (.ty n)
  | _=>none
theorem RelV.abs {x:V}{u:Value}(r:RelV x u):absV u=some x:=by
  cases x with
  | non=>cases r; rfl
  | bl _=>cases r; rfl
  | int _=>obtain ⟨t,rfl⟩:=r; rfl
  | str _=>obtain ⟨t,rfl⟩:=r; rfl
  | byt _=>obtain ⟨t,rfl⟩:=r; rfl
  | flt _=>obtain ⟨t,rfl⟩:=r; rfl
  | ref _=>cases r; rfl
  | ty _=>cases r; rfl
theorem RelV.inj {x y:V}{u:Value}(r:RelV x u)(q:RelV y u):x=y:=Option.some.inj (r.abs.symm.trans q.abs)
theorem Vals.inj:∀ {xs ys:List V} {us:List Value},Vals xs us→Vals ys us→xs=ys
  | _,_,_,.nil,.nil=>rfl
  | _,_,_,.cons r t,.cons r' t'=>by rw [r.inj r',Vals.inj t t']
section
variable {X:Cx}{pins:List (Addr×Obj)}{σ:St}{H:Hp}{s:Shared}{a:Addr}{xs ys:List V}
theorem SqL.of {K:PySem.W.Frag}(h:H a=some (.lst xs)):SqL K H a xs:=.inl (.inl h)
theorem SqT.of {K:PySem.W.Frag}(h:H a=some (.tup xs)):SqT K H a xs:=.inl (.inl h)
theorem Inv.list (I:Inv X pins σ H s)(h:SqL X.K H a xs):∃ its:List Value,Vals xs its∧PlainL s.heap a its.toArray∧xs.length≤sizeLine:=by
  rcases h with h | ⟨o,its,n,hk,hc,hd,hs,hz,r⟩
  · obtain ⟨z,its,n,r,e⟩:=h.ok I.hok
    exact ⟨its,r,⟨_,n,e,rfl,rfl,rfl⟩,z⟩
  · refine ⟨its.toList,r,⟨o,n,I.kIn a o hk,hc,hd,by simpa using hs⟩,?_⟩
    have e:=r.length
    simp only [Array.length_toList] at e
    omega
theorem Inv.tuple (I:Inv X pins σ H s)(h:SqT X.K H a xs):∃ its:List Value,Vals xs its∧IsTup s.heap a its.toArray∧xs.length≤sizeLine:=by
  rcases h with h | ⟨o,its,n,hk,hc,hs,hz,r⟩
  · obtain ⟨z,its,r,p⟩:=h.ok I.hok
    exact ⟨its,r,p,z⟩
  · refine ⟨its.toList,r,⟨o,I.kIn a o hk,hc,n,by simpa using hs⟩,?_⟩
    have e:=r.length
    simp only [Array.length_toList] at e
    omega
theorem Inv.list_inj (I:Inv X pins σ H s)(h:SqL X.K H a xs)(h':SqL X.K H a ys):xs=ys:=by
  obtain ⟨its,r,⟨o,n,e,_,_,d⟩,_⟩:=I.list h
  obtain ⟨its',r',⟨o',n',e',_,_,d'⟩,_⟩:=I.list h'
  rw [e] at e'; cases e'
  rw [d] at d'
  injection d' with d1 _
  have:its=its':=by simpa using congrArg Array.toList d1
  subst this
  exact r.inj r'
theorem Inv.tuple_inj (I:Inv X pins σ H s)(h:SqT X.K H a xs)(h':SqT X.K H a ys):xs=ys:=by
  obtain ⟨its,r,⟨o,e,_,n,d⟩,_⟩:=I.tuple h
  obtain ⟨its',r',⟨o',e',_,n',d'⟩,_⟩:=I.tuple h'
  rw [e] at e'; cases e'
  rw [d] at d'
  injection d' with d1 _
  have:its=its':=by simpa using congrArg Array.toList d1
  subst this
  exact r.inj r'
end
abbrev Cx.wish (X:Cx)(E:Value→Shared→Prop):Cx:={ X with xe:=E }
abbrev Cx.nox (X:Cx):Cx:=X.wish fun _ _=>False
theorem Cx.Ok.wish {X:Cx}(ok:X.Ok)(E:Value→Shared→Prop):(X.wish E).Ok :=
  ⟨ok.mod,ok.kind,ok.glob,ok.blt,ok.above,ok.inj,ok.has,ok.cab,ok.hd,ok.frames,ok.stk,ok.exf,ok.bs,ok.bsz,ok.noex,ok.exfs,ok.funs,ok.frf⟩
theorem Cx.Ok.unwish {X:Cx}{E:Value→Shared→Prop}(ok:(X.wish E).Ok):X.Ok :=
  ⟨ok.mod,ok.kind,ok.glob,ok.blt,ok.above,ok.inj,ok.has,ok.cab,ok.hd,ok.frames,ok.stk,ok.exf,ok.bs,ok.bsz,ok.noex,ok.exfs,ok.funs,ok.frf⟩
section
variable {X:Cx}{pins:List (Addr×Obj)}{σ:St}{H:Hp}{s:Shared}{E:Value→Shared→Prop}
theorem Inv.wish (I:Inv X pins σ H s)(E:Value→Shared→Prop):Inv (X.wish E) pins σ H s:=⟨I.ok.wish E,I.os,I.bare,I.base,I.loc,I.cell,I.free,I.freeC,I.pin,I.hok,I.len⟩
theorem Inv.unwish (I:Inv (X.wish E) pins σ H s):Inv X pins σ H s:=⟨I.ok.unwish,I.os,I.bare,I.base,I.loc,I.cell,I.free,I.freeC,I.pin,I.hok,I.len⟩
theorem SP.unwish {D:Ends}{f:Flow}{s':Shared}(h:SP (X.wish E) pins D f s'):SP X pins D f s':=by
  cases f with
  | next=>obtain ⟨σ',H',I,q⟩:=h; exact ⟨σ',H',I.unwish,q⟩
  | brk=>obtain ⟨σ',H',I,q⟩:=h; exact ⟨σ',H',I.unwish,q⟩
  | cont=>obtain ⟨σ',H',I,q⟩:=h; exact ⟨σ',H',I.unwish,q⟩
  | ret u=>obtain ⟨v,σ',H',I,r,q⟩:=h; exact ⟨v,σ',H',I.unwish,r,q⟩
theorem PE.nox {e:Expr}{t:TE}(h:PE X.nox e t):PE X e t:=fun pins s σ H Q I hw =>
  wpAny_mono (h pins s σ H Q (I.wish _) hw) (fun _ _ ⟨v,H',I',r,q⟩=>⟨v,H',I'.unwish,r,q⟩) fun _ _ z=>False.elim z
theorem PT.nox {e:Expr}{t:TT}(h:PT X.nox e t):PT X e t:=fun pins s σ H Q I hw =>
  wpAny_mono (h pins s σ H Q (I.wish _) hw) (fun _ _ ⟨H',I',q⟩=>⟨H',I'.unwish,q⟩) fun _ _ z=>False.elim z
theorem PSs.nox {st:List Stmt}{t:TS}(h:PSs X.nox st t):PSs X st t:=fun pins s σ H D I hw =>
  wpAny_mono (h pins s σ H D (I.wish _) hw) (fun _ _ q=>q.unwish) fun _ _ z=>False.elim z
end
section
variable {X:Cx}{st:Stmt}{rest:List Stmt}{t u:TS}{e:Expr}{te:TE}{pos:Pos}
def tNext:TS:=fun D σ H=>D.nx σ H
def tSeq (t u:TS):TS:=fun D σ H=>t { D with nx:=u D } σ H
theorem pss_nil:PSs X [] tNext:=fun _ _ σ H _ I h=>wpAny_execs_nil ⟨σ,H,I,h⟩
theorem pss_cons (h1:PS X st t)(h2:PSs X rest u):PSs X (st::rest) (tSeq t u):=by
  intro pins s σ H D I h
  refine wpAny_execs_cons (thn (h1 pins s σ H { D with nx:=u D } I h) fun f s1 q=>?_)
  cases f with
  | next =>
    obtain ⟨σ',H',I',q⟩:=q
    exact h2 pins s1 σ' H' D I' q
  | ret v=>exact q
  | brk=>exact q
  | cont=>exact q
theorem pss_one (h1:PS X st t):PSs X [st] t:=by
  intro pins s σ H D I h
  refine wpAny_execs_cons (thn (h1 pins s σ H D I h) fun f s1 q=>?_)
  cases f with
  | next=>exact wpAny_execs_nil q
  | ret v=>exact q
  | brk=>exact q
  | cont=>exact q
theorem Inv.quiet {pins:List (Addr×Obj)}{σ:St}{H:Hp}{s:Shared}(I:Inv X pins σ H s):interactive X.env=false:=by simp [interactive,I.ok.kind]
def tDrop (te:TE):TS:=fun D σ H=>te σ H fun _ H1=>D.nx σ H1
theorem ps_expr (he:PE X e te)(hs:swapsWith e none pos.line X.env=pure false:=by rfl):PS X (.Expr e pos) (tDrop te):=by
  intro pins s σ H D I h
  exact wpAny_Expr_any (thn (he pins s σ H _ I h) fun v s1 ⟨x,H1,I1,r1,q1⟩=>⟨σ,H1,I1,q1⟩) I.quiet hs
def tRet (te:TE):TS:=fun D σ H=>te σ H D.rt
theorem ps_ret (he:PE X e te):PS X (.Return (some e) pos) (tRet te):=by
  intro pins s σ H D I h
  exact wpAny_Return_some (thn (he pins s σ H _ I h) fun v s1 ⟨x,H1,I1,r1,q1⟩=>⟨x,σ,H1,I1,r1,q1⟩)
def tIfS (c:TT)(t u:TS):TS:=fun D σ H=>c σ H fun b H1=>if b=true then t D σ H1 else u D σ H1
theorem ps_if {c:Expr}{a b:List Stmt}{tc:TT}(hc:PT X c tc)(ha:PSs X a t)(hb:PSs X b u):PS X (.If c a b pos) (tIfS tc t u):=by
  intro pins s σ H D I h
  refine wpAny_If (thn (hc pins s σ H _ I h) fun d s1 ⟨H1,I1,q1⟩=>?_)
  cases d with
  | true=>exact ha pins s1 σ H1 D I1 q1
  | false=>exact hb pins s1 σ H1 D I1 q1
end
abbrev TG:=V→St→Hp→(St→Hp→Prop)→Prop
abbrev TGs:=List V→St→Hp→(St→Hp→Prop)→Prop
def PG (X:Cx)(target:Expr)(t:TG):Prop :=
  ∀ (pins:List (Addr×Obj)) (s:Shared) (σ:St) (H:Hp) (v:V) (u:Value) (Q:St→Hp→Prop),Inv X pins σ H s→RelV v u→t v σ H Q →
    wpAny (model X.prog X.w) X.A (assign target X.env u) (fun _ s'=>∃ σ' H',Inv X pins σ' H' s'∧Q σ' H') X.xe s
def PGs (X:Cx)(ts:List Expr)(t:TGs):Prop :=
  ∀ (pins:List (Addr×Obj)) (s:Shared) (σ:St) (H:Hp) (vs:List V) (us:List Value) (Q:St→Hp→Prop),Inv X pins σ H s→Vals vs us→t vs σ H Q →
    wpAny (model X.prog X.w) X.A (assignInOrder ((assignEach ts X.env).map (·.2)) us) (fun _ s'=>∃ σ' H',Inv X pins σ' H' s'∧Q σ' H') X.xe s
abbrev TSet:=V→V→V→Hp→(Hp→Prop)→Prop
def PSet (X:Cx)(t:TSet):Prop :=
  ∀ (pins:List (Addr×Obj)) (s:Shared) (σ:St) (H:Hp) (o i v:V) (ov iv u:Value) (Q:Hp→Prop),Inv X pins σ H s→RelV o ov→RelV i iv→RelV v u→t o i v H Q →
    wpAny (model X.prog X.w) X.A (setItem ov iv u) (fun _ s'=>∃ H',Inv X pins σ H' s'∧Q H') X.xe s
section
variable {X:Cx}{pos:Pos}
def gName (i:Nat):TG:=fun v σ H Q=>Q (σ.set i (some v)) H
theorem pg_name {i:Nat}{x:Str}(hN:X.N.Nodup)(hi:X.N[i]?=some x)(hx:Loc X.env.scope x)(hf:X.fn x=true∨X.env.scope.names.lookup x=some .local:=by first | exact .inl rfl | exact .inr rfl | assumption):PG X (.Name x pos) (gName i):=by
  intro pins s σ H v u Q I r h
  exact wpAny_assign_Name (store_ok I hN hi hx r (fun s' I'=>⟨_,H,I',h⟩) hf)
def gNil:TGs:=fun vs σ H Q=>vs=[]∧Q σ H
def gCons (t:TG)(u:TGs):TGs:=fun vs σ H Q=>∃ v r,vs=v::r∧t v σ H fun σ' H'=>u r σ' H' Q
theorem pgs_nil:PGs X [] gNil:=by
  intro pins s σ H vs us Q I r h
  obtain ⟨e,h⟩:=h
  subst e
  cases r
  exact assignInOrder_nil ⟨σ,H,I,h⟩
theorem pgs_cons {e:Expr}{es:List Expr}{t:TG}{u:TGs}(h1:PG X e t)(h2:PGs X es u)
    (hs:(assignEach (e::es) X.env).map (·.2)=assign e X.env::(assignEach es X.env).map (·.2):=by rfl):PGs X (e::es) (gCons t u):=by
  intro pins s σ H vs us Q I r h
  obtain ⟨v,vr,e1,h⟩:=h
  subst e1
  cases r with
  | cons r rr =>
    rw [hs]
    refine assignInOrder_cons (thn (h1 pins s σ H _ _ _ I r h) fun _ s1 ⟨σ1,H1,I1,q1⟩=>?_)
    exact h2 pins s1 σ1 H1 _ _ Q I1 rr q1
def gTup (K:PySem.W.Frag)(n:Nat)(t:TGs):TG:=fun v σ H Q=>∃ a xs,v=.ref a∧SqT K H a xs∧xs.length=n∧t xs σ H Q
theorem pg_tup {es:List Expr}{k:Nat}{t:TGs}{n:Nat}(hc:X.calm=true)(h:PGs X es t)
    (hn:(assignEach es X.env).length=n:=by rfl) (hst:(assignEach es X.env).findIdx? (·.1)=none:=by rfl):PG X (.Tuple es k pos) (gTup X.K n t):=by
  intro pins s σ H v u Q I r hw
  obtain ⟨a,xs,e1,hq,hl,hw⟩:=hw
  subst e1
  cases r
  obtain ⟨its,rv,ht,hz⟩:=I.tuple hq
  refine assign_Tuple_tuple (I.ok.hd hc) ht (by simp [hn,← hl,rv.length]) hst fun h' hx=>?_
  have I1:Inv X pins σ H { s with heap:=h' }:=I.kept (t':=s.toks) fun b o e=>hx b o (Nat.ne_of_lt (Heap.lt_size e)) e
  exact h pins _ σ H xs _ Q I1 (by simpa using rv) hw
def gSub (to ti:TE)(t:TSet):TG:=fun v σ H Q=>to σ H fun o H1=>ti σ H1 fun i H2=>t o i v H2 fun H3=>Q σ H3
theorem pg_sub {o i:Expr}{to ti:TE}{t:TSet}(ho:PE X o to)(hi:PE X i ti)(hs:PSet X t)
    (ha:∀ v,assign (.Subscript o i pos) X.env v=(do
      let ov ← holding [v] (eval o X.env)
      let iv ← holding [v,ov] (eval i X.env)
      standAt pos
      holding [v,ov,iv] (setItem ov iv v)
      release [v,ov,iv] []):=by intro _; rfl):PG X (.Subscript o i pos) (gSub to ti t):=by
  intro pins s σ H v u Q I r h
  rw [ha]
  refine wpAny_bind (wpAny_holding (thn (ho pins s σ H _ I h) fun ov s1 ⟨x,H1,I1,r1,q1⟩=>?_))
  refine wpAny_bind (wpAny_holding (thn (hi pins s1 σ H1 _ I1 q1) fun iv s2 ⟨y,H2,I2,r2,q2⟩=>?_))
  refine wpAny_bind (wpAny_standAt (wpAny_bind (wpAny_holding (thn (hs pins s2 σ H2 x y v ov iv u _ I2 r1 r2 r q2) fun _ s3 ⟨H3,I3,q3⟩=>?_))))
  exact wpAny_release ⟨σ,H3,I3,q3⟩
def tAsg (te:TE)(g:TG):TS:=fun D σ H=>te σ H fun x H1=>g x σ H1 D.nx
theorem ps_asg {tg e:Expr}{te:TE}{g:TG}(he:PE X e te)(hg:PG X tg g)(hs:swapsWithSole [tg] e pos.line X.env=pure false:=by rfl)(hw:swappedStores [tg] e X.env=pure none:=by rfl)
    (h1:(assignEach [tg] X.env).map (·.2)=[assign tg X.env]:=by rfl):PS X (.Assign [tg] e pos) (tAsg te g):=by
  intro pins s σ H D I h
  refine wpAny_Assign_stores (thn (he pins s σ H _ I h) fun v s1 ⟨x,H1,I1,r1,q1⟩=>?_) hs hw
  rw [h1]
  exact thn (hg pins s1 σ H1 x v _ I1 r1 q1) fun _ s2 q=>q
theorem ps_set {i:Nat}{x:Str}{e:Expr}{te:TE}{pos':Pos}(hN:X.N.Nodup)(hi:X.N[i]?=some x)(hx:Loc X.env.scope x)(he:PE X e te)(hs:swapsWith e (some (.Name x pos')) pos.line X.env=pure false:=by rfl)(hf:X.fn x=true∨X.env.scope.names.lookup x=some .local:=by first | exact .inl rfl | exact .inr rfl | assumption) :
    PS X (.Assign [.Name x pos'] e pos) (tAsg te (gName i)):=by
  intro pins s σ H D I h
  refine wpAny_Assign_Name (thn (he pins s σ H _ I h) fun v s1 ⟨y,H1,I1,r1,q1⟩=>?_) hs
  exact store_ok I1 hN hi hx r1 (fun s2 I2=>⟨_,H1,I2,q1⟩) hf
end
section
variable {X:Cx}{pos:Pos}
def tWhile (c:TT)(tb:TS):TS:=fun D σ H=>∃ W:Nat→St→Hp→Prop,(∃ m,W m σ H)∧∀ m σ H,W m σ H →
  c σ H fun b H1=>if b=true then ∃ N:St→Hp→Prop,(∀ σ' H',N σ' H'→∃ m',m'<m∧W m' σ' H')∧tb { D with nx:=N,ct:=N,bk:=D.nx } σ H1 else D.nx σ H1
theorem ps_while {c:Expr}{body:List Stmt}{tc:TT}{tb:TS}(hp:PassesOwn (model X.prog X.w) X.A X.env X.xe)(hc:PT X c tc)(hb:PSs X body tb):PS X (.While c body [] pos) (tWhile tc tb):=by
  intro pins s σ H D I h
  obtain ⟨W,⟨m0,w0⟩,turn⟩:=h
  refine wpAny_While (codeAny_whileLoop (fun n s'=>∃ σ' H',Inv X pins σ' H' s'∧W n σ' H') ?_ m0 ⟨σ,H,I,w0⟩)
  rintro n s1 ⟨σ1,H1,I1,w1⟩
  refine wpAny_passesOwn hp (thn (hc pins s1 σ1 H1 _ I1 (turn n σ1 H1 w1)) fun b s2 ⟨H2,I2,q2⟩=>?_)
  cases b with
  | true =>
    obtain ⟨N,hN,q2⟩:=q2
    rw [if_pos rfl]
    refine wpAny_passesOwn hp (thn (hb pins s2 σ1 H2 _ I2 q2) fun f s3 q3=>?_)
    cases f with
    | next =>
      obtain ⟨σ3,H3,I3,n3⟩:=q3
      obtain ⟨m',hm,w3⟩:=hN σ3 H3 n3
      exact ⟨m',hm,σ3,H3,I3,w3⟩
    | cont =>
      obtain ⟨σ3,H3,I3,n3⟩:=q3
      obtain ⟨m',hm,w3⟩:=hN σ3 H3 n3
      exact ⟨m',hm,σ3,H3,I3,w3⟩
    | brk=>exact q3
    | ret v=>exact q3
  | false =>
    rw [if_neg Bool.false_ne_true]
    exact wpAny_execs_nil ⟨σ1,H2,I2,q2⟩
end
structure It where
  go:Nat→Hp→Prop
  yld:Nat→Hp→V→Hp→Prop
  stop:Nat→Hp→Prop
def FpOk (X:Cx)(pins:List (Addr×Obj))(H:Hp)(b:Addr):Prop :=
  H b=none∧b≠X.env.locals∧b∉X.fs∧(b∈X.ex∨X.s₀.heap.objs.size≤b)∧(∀ x c,X.env.cells.lookup x=some c→c≠b)∧∀ p∈X.pn++pins,p.1≠b
theorem Inv.fpOk {X:Cx}{pins:List (Addr×Obj)}{σ:St}{H H':Hp}{s:Shared}{b:Addr}(I:Inv X pins σ H s)(hb:s.heap.objs.size≤b)(hn:H' b=none):FpOk X pins H' b:=by
  refine ⟨hn,Nat.ne_of_gt (Nat.lt_of_lt_of_le I.lt hb),I.nofs hb,.inr (Nat.le_trans I.sz hb),fun x c e z=>?_,fun p hp z=>?_⟩
  · obtain ⟨v,q⟩:=I.cell x c e
    exact absurd (Nat.lt_of_lt_of_le q.lt (by rw [z]; exact hb)) (Nat.lt_irrefl _)
  · exact absurd (Nat.lt_of_lt_of_le (Heap.lt_size (I.pin p hp).1) (by rw [z]; exact hb)) (Nat.lt_irrefl _)
structure Turn (P:Program)(w:World)(K:PySem.W.Frag)(tg:Expr)(J:It)(fp:List Addr)(it:Addr)(tn:Nat→Heap→Prop):Prop where
  mem:it∈fp
  obj:∀ i h,tn i h→∀ b∈fp,∃ o,h.get? b=some o∧∀ v,o.data≠.cell v
  keep:∀ i h h',tn i h→(∀ b∈fp,∀ o,h.get? b=some o→h'.get? b=some o)→tn i h'
  item:∀ (X:Cx),X.prog=P→X.w=w→X.K=K→X.calm=true→∀ (i:Nat) (pins:List (Addr×Obj)) (s:Shared) (σ:St) (H:Hp) (E:Value→Shared→Prop),Inv X pins σ H s→(∀ b∈fp,FpOk X pins H b)→tn i s.heap→J.go i H →
    wpAny (model P w) X.A (pyNext (.ref it)) (fun r s1=>∃ u,r=some u ∧
      wpAny (model P w) X.A (letOwnedTupleGo tg (.ref it) u) (fun _ s2=>∃ x H',Inv X pins σ H' s2∧RelV x u∧J.yld i H x H'∧tn (i+1) s2.heap∧∀ b∈fp,H' b=none) E s1) E s
  done:∀ (X:Cx),X.prog=P→X.w=w→X.K=K→X.calm=true→∀ (i:Nat) (pins:List (Addr×Obj)) (s:Shared) (σ:St) (H:Hp) (E:Value→Shared→Prop),Inv X pins σ H s→(∀ b∈fp,FpOk X pins H b)→tn i s.heap→J.stop i H →
    wpAny (model P w) X.A (pyNext (.ref it)) (fun r s1=>r=none∧Inv X pins σ H s1) E s
  self:∀ (A:Around) (i:Nat) (s:Shared) (Q:Value→Shared→Prop) (E:Value→Shared→Prop),tn i s.heap→Q (.ref it) s→wpAny (model P w) A (pyIter (.ref it)) Q E s
abbrev TI:=St→Hp→(It→Hp→Prop)→Prop
def PIE (X:Cx)(pins:List (Addr×Obj))(σ:St)(tg:Expr)(R:It→Hp→Prop)(itv:Value)(s2:Shared):Prop :=
  ∃ (it:Addr) (fp:List Addr) (tn:Nat→Heap→Prop) (J:It) (H':Hp),itv=.ref it∧Inv X pins σ H' s2∧Turn X.prog X.w X.K tg J fp it tn∧tn 0 s2.heap∧(∀ b∈fp,FpOk X pins H' b)∧R J H'
def PI (X:Cx)(tg iter:Expr)(wi:TI):Prop :=
  ∀ (pins:List (Addr×Obj)) (s:Shared) (σ:St) (H:Hp) (R:It→Hp→Prop),Inv X pins σ H s→wi σ H R →
    wpAny (model X.prog X.w) X.A (eval iter X.env) (fun v s1=>wpAny (model X.prog X.w) X.A (pyIter v) (PIE X pins σ tg R) X.xe s1) X.xe s
theorem go_of {M:Model}{A:Around}{E:Value→Shared→Prop}{s:Shared}{tg:Expr}{it:Addr}{u:Value}{o:Obj}{n:String}{vs:Array Value}{Q:Unit→Shared→Prop}(ho:s.heap.get? it=some o)(hc:o.cls=.type n)(hd:o.data=.fields vs)
    (hn:["enumerate","zip","dict_itemiterator","dict_reverseitemiterator","odict_iterator","itertools.zip_longest","itertools.pairwise"].contains n=false) (hQ:Q () s):wpAny M A (letOwnedTupleGo tg (.ref it) u) Q E s:=by
  unfold letOwnedTupleGo
  cases tg <;> first
    | exact wpAny_pure hQ
    | (cases u <;> first
        | exact wpAny_pure hQ
        | (refine wpAny_bind (wpAny_load ho ?_)
           rw [hc,hd]
           show wpAny M A (if (["enumerate","zip","dict_itemiterator","dict_reverseitemiterator","odict_iterator","itertools.zip_longest","itertools.pairwise"].contains n && vs[0]? == some (rawInt _))=true then _ else _) Q E s
           rw [if_neg (by intro h; rw [hn,Bool.false_and] at h; cases h)]
           exact wpAny_pure hQ))
def Itl (K:PySem.W.Frag)(a:Addr):It :=
  ⟨fun i H=>∃ xs x,SqL K H a xs∧xs[i]?=some x,fun i H x H'=>H'=H∧∀ xs,SqL K H a xs→xs[i]?=some x,fun i H=>∃ xs,SqL K H a xs∧xs.length≤i⟩
def Itt (K:PySem.W.Frag)(a:Addr):It :=
  ⟨fun i H=>∃ xs x,SqT K H a xs∧xs[i]?=some x,fun i H x H'=>H'=H∧∀ xs,SqT K H a xs→xs[i]?=some x,fun i H=>∃ xs,SqT K H a xs∧xs.length≤i⟩
def Itr (lo:Int)(n:Nat):It:=⟨fun i _=>i<n,fun i H x H'=>H'=H∧x=.int (lo+i),fun i _=>n≤i⟩
theorem turn_list {P:Program}{w:World}{K:PySem.W.Frag}{tg:Expr}(a it:Addr):Turn P w K tg (Itl K a) [it] it (fun i h=>h.IsListIter it a i) where
  mem:=by simp
  obj:=fun i h st b hb=>by
    have e:b=it:=by simpa using hb
    subst e
    obtain ⟨o,e,c,d⟩:=st
    exact ⟨o,e,fun v z=>by rw [d] at z; cases z⟩
  keep:=fun i h h' st k=>st.at fun o e=>k it (by simp) o e
  item:=by
    intro X hP hw hK hc i pins s σ H E I hf st hg
    subst hP hw hK
    obtain ⟨xs,x,hq,hx⟩:=hg
    obtain ⟨its,rv,p,hz⟩:=I.list hq
    obtain ⟨u,hu,ru⟩:=rv.get hx
    obtain ⟨f0,f1,f2,f3,f4,f5⟩:=hf it (by simp)
    refine wpAny_pyNext_list_item st p.isList (x:=u) (by simpa using hu) fun h' st' sb=>?_
    have I1:Inv X pins σ H { s with heap:=h' }:=I.turned (t':=s.toks) (fun b o hb e=>(sb.2 b hb).trans e) f0 f1 f3 f4 f5
    obtain ⟨o,e,c,d⟩:=id st'
    exact ⟨u,rfl,go_of (s:={ s with heap:=h' }) e c d (by decide) ⟨x,H,I1,ru,⟨rfl,fun ys hy=>by rw [I.list_inj hy hq]; exact hx⟩,st',fun b hb=>(hf b hb).1⟩⟩
  done:=by
    intro X hP hw hK hc i pins s σ H E I hf st hg
    subst hP hw hK
    obtain ⟨xs,hq,hx⟩:=hg
    obtain ⟨its,rv,p,hz⟩:=I.list hq
    obtain ⟨f0,f1,f2,f3,f4,f5⟩:=hf it (by simp)
    have hl:=rv.length
    exact wpAny_pyNext_list_end (I.ok.hd hc) st p.isList (by simp; omega) fun h' eb=>⟨rfl,I.turned (t':=s.toks) (fun b o hb e=>eb b o hb e) f0 f1 f3 f4 f5⟩
  self:=fun _ _ _ _ _ st h=>wpAny_pyIter_listiter st h
theorem turn_range {P:Program}{w:World}{K:PySem.W.Frag}{tg:Expr}(it:Addr)(lo:Int)(n:Nat):Turn P w K tg (Itr lo n) [it] it (fun i h=>IsRangeIter h it (lo+(i:Nat) * 1) ((n:Int) - (i:Nat)) 1) where
  mem:=by simp
  obj:=fun i h st b hb=>by
    have e:b=it:=by simpa using hb
    subst e
    exact ⟨_,st,fun v z=>by
      have z':Data.fields _=Data.cell v:=z
      cases z'⟩
  keep:=fun i h h' st k=>k it (by simp) _ st
  item:=by
    intro X hP hw hK hc i pins s σ H E I hf st hg
    subst hP hw hK
    obtain ⟨f0,f1,f2,f3,f4,f5⟩:=hf it (by simp)
    have W:=Walks.range (prog:=X.prog) (w:=X.w) (I.ok.hd hc) it lo 1 n
    refine W.item i s _ _ hg st fun v h' tk hv st' kk=>?_
    obtain ⟨t,rfl⟩:=hv
    have I1:Inv X pins σ H { s with heap:=h',toks:=tk }:=I.turned (fun b o hb e=>kk b o (by simpa using hb) e) f0 f1 f3 f4 f5
    refine ⟨_,rfl,go_of (s:={ s with heap:=h',toks:=tk }) (n:="range_iterator") st' rfl rfl (by decide) ⟨.int (lo+i),H,I1,⟨t,?_⟩,⟨rfl,rfl⟩,st',fun b hb=>(hf b hb).1⟩⟩
    rw [Int.mul_one]
  done:=by
    intro X hP hw hK hc i pins s σ H E I hf st hg
    subst hP hw hK
    obtain ⟨f0,f1,f2,f3,f4,f5⟩:=hf it (by simp)
    exact wpAny_pyNext_range_end (I.ok.hd hc) st (by have:n≤i:=hg; omega) fun h' eb=>⟨rfl,I.turned (t':=s.toks) (fun b o hb e=>eb b o hb e) f0 f1 f3 f4 f5⟩
  self:=fun _ _ _ _ _ st h=>wpAny_pyIter_rangeiter st h
end L2
namespace L2
open PySem PySem.Spec PyProof.Rows
section
variable {X:Cx}{tg:Expr}
def iList (K:PySem.W.Frag)(tl:TE):TI:=fun σ H R=>tl σ H fun x H1=>∃ a,x=.ref a∧(∃ xs,SqL K H1 a xs)∧R (Itl K a) H1
theorem pi_list {l:Expr}{tl:TE}(hl:PE X l tl):PI X tg l (iList X.K tl):=by
  intro pins s σ H R I h
  refine thn (hl pins s σ H _ I h) fun v s1 ⟨x,H1,I1,r1,q1⟩=>?_
  obtain ⟨a,e,⟨xs,hq⟩,q⟩:=q1
  subst e
  cases r1
  obtain ⟨its,rv,p,hz⟩:=I1.list hq
  refine wpAny_pyIter_list p.isList ?_
  refine ⟨s1.heap.objs.size,[s1.heap.objs.size],_,_,H1,rfl,I1.kept (t':=s1.toks) fun b o e=>Heap.get?_push_of_some _ e,turn_list a _,⟨_,Heap.get?_push_size _ rfl,rfl,rfl⟩,fun b hb=>?_,q⟩
  have e:b=s1.heap.objs.size:=by simpa using hb
  subst e
  exact I1.fpOk (Nat.le_refl _) (I1.hok.fresh (Nat.le_refl _))
theorem range_it {pins:List (Addr×Obj)}{σ:St}{H:Hp}{s:Shared}{R:It→Hp→Prop}{E:Value→Shared→Prop}{lo hi:Int}{t u v:Tok}{tk:Nat}(I:Inv X pins σ H s)(h1:-(2 ^ 62)≤lo)(h2:lo<2 ^ 62)(h3:-(2 ^ 62)≤hi)(h4:hi<2 ^ 62)
    (q:R (Itr lo (hi - lo).toNat) H):wpAny (model X.prog X.w) X.A (pyIter (.ref s.heap.objs.size)) (PIE X pins σ tg R) E { s with heap:=s.heap.push { cls:=.type "range",data:=.fields #[.int lo t,.int hi u,.int 1 v] },toks:=tk }:=by
  refine wpAny_pyIter_range (IsRange.new ..) (small_one h1 h2 h3 h4) ?_
  have I1:Inv X pins σ H { s with heap:=s.heap.push { cls:=.type "range",data:=.fields #[.int lo t,.int hi u,.int 1 v] },toks:=tk }:=I.kept fun b o e=>Heap.get?_push_of_some _ e
  refine ⟨(s.heap.push { cls:=.type "range",data:=.fields #[.int lo t,.int hi u,.int 1 v] }).objs.size,[(s.heap.push { cls:=.type "range",data:=.fields #[.int lo t,.int hi u,.int 1 v] }).objs.size],_,_,H,rfl,
    I1.kept (t':=tk) fun b o e=>Heap.get?_push_of_some _ e,turn_range _ lo (hi - lo).toNat,?_,fun b hb=>?_,q⟩
  · have e1:lo+((0:Nat):Int) * 1=lo:=by simp
    have e2:(((hi - lo).toNat:Nat):Int) - ((0:Nat):Int)=Builtin.Range.rangeSize lo hi 1:=by rw [rangeSize_one]; split <;> omega
    show IsRangeIter _ _ (lo+((0:Nat):Int) * 1) ((((hi - lo).toNat:Nat):Int) - ((0:Nat):Int)) 1
    rw [e1,e2]
    exact Heap.get?_push_size _ rfl
  · have e:b=(s.heap.push { cls:=.type "range",data:=.fields #[.int lo t,.int hi u,.int 1 v] }).objs.size:=by simpa using hb
    subst e
    exact I1.fpOk (Nat.le_refl _) (I1.hok.fresh (Nat.le_refl _))
def iRng1 (ta:TA):TI:=fun σ H R=>ta σ H fun vs H1=>∃ j:Int,vs=[.int j]∧-(2 ^ 62)≤j∧j<2 ^ 62∧R (Itr 0 j.toNat) H1
def iRng2 (ta:TA):TI:=fun σ H R=>ta σ H fun vs H1=>∃ i j:Int,vs=[.int i,.int j]∧(-(2 ^ 62)≤i∧i<2 ^ 62∧-(2 ^ 62)≤j∧j<2 ^ 62)∧R (Itr i (j - i).toNat) H1
theorem pi_range1 {a:Expr}{ta:TA}{p pos:Pos}(hg:Gl X "range")(hm:X.mg "range"=none)(ha:PA X [a] ta)(hs:starEach [a] X.env=[(false,eval a X.env)]:=by rfl):PI X tg (.Call (.Name "range" p) [a] [] pos) (iRng1 ta):=by
  intro pins s σ H R I h
  refine Call_ (ld_blt I hg hm boot_range (PyProof.Rows.callWith_type1 (thn (ha pos pins s σ H _ I h) fun us s1 ⟨vs,H1,I1,r1,q1⟩=>?_) hs rfl))
  obtain ⟨j,e,q1,q2,q⟩:=q1
  subst e
  cases r1 with
  | cons r rr =>
    cases rr
    obtain ⟨t,rfl⟩:=r
    exact call_range_1 (range_it I1 (by omega) (by omega) q1 q2 (by simpa using q))
theorem pi_range2 {a b:Expr}{ta:TA}{p pos:Pos}(hg:Gl X "range")(hm:X.mg "range"=none)(ha:PA X [a,b] ta)(hs:starEach [a,b] X.env=[(false,eval a X.env),(false,eval b X.env)]:=by rfl)(hs2:starEach [b] X.env=[(false,eval b X.env)]:=by rfl) :
    PI X tg (.Call (.Name "range" p) [a,b] [] pos) (iRng2 ta):=by
  intro pins s σ H R I h
  refine Call_ (ld_blt I hg hm boot_range (PyProof.Rows.callWith_type1 (thn (ha pos pins s σ H _ I h) fun us s1 ⟨vs,H1,I1,r1,q1⟩=>?_) (by rw [hs,hs2]) (by rw [hs2]; rfl)))
  obtain ⟨i,j,e,⟨q1,q2,q3,q4⟩,q⟩:=q1
  subst e
  cases r1 with
  | cons r rr =>
    cases rr with
    | cons r' rr =>
      cases rr
      obtain ⟨t,rfl⟩:=r
      obtain ⟨t',rfl⟩:=r'
      exact call_range_2 (range_it I1 q1 q2 q3 q4 q)
def tFor (wi:TI)(g:TG)(tb:TS):TS:=fun D σ H=>wi σ H fun J H1=>∃ W:Nat→Nat→St→Hp→Prop,(∃ m,W 0 m σ H1)∧∀ i m σ H,W i m σ H →
  (J.stop i H∧D.nx σ H)∨(J.go i H∧∃ N:St→Hp→Prop,(∀ σ' H',N σ' H'→∃ m',m'<m∧W (i+1) m' σ' H')∧∀ x H',J.yld i H x H'→g x σ H' fun σ2 H2=>tb { D with nx:=N,ct:=N,bk:=D.nx } σ2 H2)
def pinsAt (fp:List Addr)(h:Heap):List (Addr×Obj):=fp.filterMap fun b=>(h.get? b).map fun o=>(b,o)
theorem mem_pinsAt {fp:List Addr}{h:Heap}{b:Addr}{o:Obj}(hb:b∈fp)(e:h.get? b=some o):(b,o)∈pinsAt fp h:=List.mem_filterMap.mpr ⟨b,hb,by rw [e]; rfl⟩
theorem of_pinsAt {fp:List Addr}{h:Heap}{p:Addr×Obj}(hp:p∈pinsAt fp h):p.1∈fp∧h.get? p.1=some p.2:=by
  obtain ⟨b,hb,e⟩:=List.mem_filterMap.mp hp
  cases q:h.get? b with
  | none=>rw [q] at e; cases e
  | some o =>
    rw [q] at e
    have e':(b,o)=p:=Option.some.inj e
    subst e'
    exact ⟨hb,q⟩
theorem Inv.pinned {pins:List (Addr×Obj)}{σ:St}{H:Hp}{s:Shared}{fp:List Addr}(I:Inv X pins σ H s)(hf:∀ b∈fp,FpOk X pins H b)(ho:∀ b∈fp,∃ o,s.heap.get? b=some o∧∀ v,o.data≠.cell v):Inv X (pins++pinsAt fp s.heap) σ H s :=
  I.pins_of fun p hp=>(List.mem_append.mp hp).elim (fun z=>I.pin p (List.mem_append_right _ z)) fun z=>by
    obtain ⟨hb,e⟩:=of_pinsAt z
    obtain ⟨f0,f1,f2,_⟩:=hf p.1 hb
    obtain ⟨o,e',d⟩:=ho p.1 hb
    rw [e] at e'; cases e'
    exact ⟨e,f0,f1,f2,d⟩
theorem Inv.unpinned {pins pl:List (Addr×Obj)}{σ:St}{H:Hp}{s:Shared}(I:Inv X (pins++pl) σ H s):Inv X pins σ H s:=I.pins_of fun p hp=>I.pin p (List.mem_append_right _ (List.mem_append_left _ hp))
theorem ps_for {iter:Expr}{body:List Stmt}{wi:TI}{g:TG}{tb:TS}{pos:Pos}(hp:PassesOwn (model X.prog X.w) X.A X.env X.xe)(hc:X.calm=true)(hi:PI X tg iter wi)(hg:PG X tg g)(hb:PSs X body tb)
    (hs:∀ x,foldedSetIterable iter X.env x=pure x:=by intro _; rfl):PS X (.For tg iter body [] pos) (tFor wi g tb):=by
  intro pins s σ H D I h
  refine wpAny_For (thn (hi pins s σ H _ I h) fun v s1 h1=>thn h1 fun itv s2 h2=>?_) hs
  obtain ⟨it,fp,tn,J,H2,e,I2,T,st2,f2,W,⟨m0,w0⟩,turn⟩:=h2
  subst e
  -- what stays true of the iterator's objects through the loop
  have stat:∀ {H':Hp},(∀ b∈fp,H' b=none)→∀ b∈fp,FpOk X pins H' b:=fun hn b hb=>⟨hn b hb,(f2 b hb).2⟩
  refine codeAny_forLoop_any (fun n s'=>∃ i σ' H',Inv X pins σ' H' s'∧tn i s'.heap∧(∀ b∈fp,H' b=none)∧W i n σ' H') ?_ m0 ⟨0,σ,H2,I2,st2,fun b hb=>(f2 b hb).1,w0⟩
  rintro n s3 ⟨i,σ3,H3,I3,st3,fr3,w3⟩
  rcases turn i n σ3 H3 w3 with ⟨stop,qn⟩ | ⟨go,N,hN,step⟩
  · refine wpAny_passesOwn hp (thn (T.done X rfl rfl rfl hc i pins s3 σ3 H3 X.xe I3 (stat fr3) st3 stop) fun r s4 ⟨hr,I4⟩=>?_)
    subst hr
    exact wpAny_execs_nil ⟨σ3,H3,I4,qn⟩
  · refine wpAny_passesOwn hp (thn (T.item X rfl rfl rfl hc i pins s3 σ3 H3 X.xe I3 (stat fr3) st3 go) fun r s4 ⟨u,hr,h4⟩=>?_)
    subst hr
    refine wpAny_passesOwn hp (thn h4 fun _ s5 ⟨x,H5,I5,r5,y5,st5,fr5⟩=>?_)
    have I5':=I5.pinned (stat fr5) (T.obj _ _ st5)
    refine wpAny_passesOwn hp (thn (hg _ s5 σ3 H5 x u _ I5' r5 (step x H5 y5)) fun _ s6 ⟨σ6,H6,I6,q6⟩=>?_)
    refine wpAny_passesOwn hp (thn (hb _ s6 σ6 H6 _ I6 q6) fun f s7 q7=>?_)
    have again:∀ {σ7:St} {H7:Hp},Inv X (pins++pinsAt fp s5.heap) σ7 H7 s7→N σ7 H7→∃ m,m<n∧∃ i σ' H',Inv X pins σ' H' s7∧tn i s7.heap∧(∀ b∈fp,H' b=none)∧W i m σ' H':=fun {σ7 H7} I7 n7=>by
      obtain ⟨m',hm,w7⟩:=hN σ7 H7 n7
      refine ⟨m',hm,i+1,σ7,H7,I7.unpinned,T.keep _ _ _ st5 fun b hb o e=>(I7.pin (b,o) (List.mem_append_right _ (List.mem_append_right _ (mem_pinsAt hb e)))).1,fun b hb=>?_,w7⟩
      obtain ⟨o,e,d⟩:=T.obj _ _ st5 b hb
      exact (I7.pin (b,o) (List.mem_append_right _ (List.mem_append_right _ (mem_pinsAt hb e)))).2.1
    cases f with
    | next=>obtain ⟨σ7,H7,I7,n7⟩:=q7; exact again I7 n7
    | cont=>obtain ⟨σ7,H7,I7,n7⟩:=q7; exact again I7 n7
    | brk=>obtain ⟨σ7,H7,I7,q7⟩:=q7; exact ⟨σ7,H7,I7.unpinned,q7⟩
    | ret v=>obtain ⟨x7,σ7,H7,I7,r7,q7⟩:=q7; exact ⟨x7,σ7,H7,I7.unpinned,r7,q7⟩
end
theorem for_list {K:PySem.W.Frag}{a:Addr}{xs:List V}{g:TG}{tb:TS}{D:Ends}{σ:St}{H:Hp}(Pv:Nat→St→Hp→Prop)(h0:Pv 0 σ H)(hl:∀ i σ H,i≤xs.length→Pv i σ H→SqL K H a xs)
    (hs:∀ i x σ H,xs[i]?=some x→Pv i σ H→g x σ H fun σ2 H2=>tb { D with nx:=Pv (i+1),ct:=Pv (i+1),bk:=D.nx } σ2 H2) (hd:∀ σ H,Pv xs.length σ H→D.nx σ H) :
    ∃ W:Nat→Nat→St→Hp→Prop,(∃ m,W 0 m σ H)∧∀ i m σ H,W i m σ H →
      ((Itl K a).stop i H∧D.nx σ H)∨((Itl K a).go i H∧∃ N:St→Hp→Prop,(∀ σ' H',N σ' H'→∃ m',m'<m∧W (i+1) m' σ' H')∧∀ x H',(Itl K a).yld i H x H'→g x σ H' fun σ2 H2=>tb { D with nx:=N,ct:=N,bk:=D.nx } σ2 H2):=by
  refine ⟨fun i m σ H=>m=xs.length - i∧i≤xs.length∧Pv i σ H,⟨xs.length,by simp,Nat.zero_le _,h0⟩,?_⟩
  rintro i m σ H ⟨rfl,hi,p⟩
  have q:=hl i σ H hi p
  by_cases hlt:i<xs.length
  · refine .inr ⟨⟨xs,xs[i],q,by simp [hlt]⟩,Pv (i+1),fun σ' H' p'=>⟨xs.length - (i+1),by omega,rfl,hlt,p'⟩,fun x H' y=>?_⟩
    obtain ⟨e,y⟩:=y
    subst e
    exact hs i x σ _ (y xs q) p
  · have e:i=xs.length:=by omega
    subst e
    exact .inl ⟨⟨xs,q,Nat.le_refl _⟩,hd σ H p⟩
theorem for_range {lo:Int}{n:Nat}{g:TG}{tb:TS}{D:Ends}{σ:St}{H:Hp}(Pv:Nat→St→Hp→Prop)(h0:Pv 0 σ H)
    (hs:∀ i σ H,i<n→Pv i σ H→g (.int (lo+i)) σ H fun σ2 H2=>tb { D with nx:=Pv (i+1),ct:=Pv (i+1),bk:=D.nx } σ2 H2) (hd:∀ σ H,Pv n σ H→D.nx σ H) :
    ∃ W:Nat→Nat→St→Hp→Prop,(∃ m,W 0 m σ H)∧∀ i m σ H,W i m σ H →
      ((Itr lo n).stop i H∧D.nx σ H)∨((Itr lo n).go i H∧∃ N:St→Hp→Prop,(∀ σ' H',N σ' H'→∃ m',m'<m∧W (i+1) m' σ' H')∧∀ x H',(Itr lo n).yld i H x H'→g x σ H' fun σ2 H2=>tb { D with nx:=N,ct:=N,bk:=D.nx } σ2 H2):=by
  refine ⟨fun i m σ H=>m=n - i∧i≤n∧Pv i σ H,⟨n,by simp,Nat.zero_le _,h0⟩,?_⟩
  rintro i m σ H ⟨rfl,hi,p⟩
  by_cases hlt:i<n
  · refine .inr ⟨hlt,Pv (i+1),fun σ' H' p'=>⟨n - (i+1),by omega,rfl,hlt,p'⟩,fun x H' y=>?_⟩
    obtain ⟨e,y⟩:=y
    subst e y
    exact hs i σ _ hlt p
  · have e:i=n:=by omega
    subst e
    exact .inl ⟨Nat.le_refl _,hd σ H p⟩
end L2
namespace L2
open PySem PySem.Spec PyProof.Rows
abbrev R2:=V→V→Hp→VK→Prop
def OpR (X:Cx)(f:Value→Value→Sem Value)(r:R2):Prop :=
  ∀ (pins:List (Addr×Obj)) (s:Shared) (σ:St) (H:Hp) (x y:V) (v u:Value) (Q:VK),Inv X pins σ H s→RelV x v→RelV y u→r x y H Q →
    wpAny (model X.prog X.w) X.A (f v u) (EP X pins σ Q) X.xe s
def CallR (X:Cx)(f:Value)(r:List V→Hp→VK→Prop):Prop :=
  ∀ (pins:List (Addr×Obj)) (s:Shared) (σ:St) (H:Hp) (xs:List V) (us:List Value) (Q:VK),Inv X pins σ H s→Vals xs us→r xs H Q →
    wpAny (model X.prog X.w) X.A (call f us) (EP X pins σ Q) X.xe s
def tOp (r:R2)(ta tb:TE):TE:=fun σ H Q=>ta σ H fun x H1=>tb σ H1 fun y H2=>r x y H2 Q
def rI (C:Int→Int→Prop)(g:Int→Int→V):R2:=fun x y H Q=>∃ i j,x=.int i∧y=.int j∧C i j∧Q (g i j) H
def rI0 (g:Int→Int→V):R2:=fun x y H Q=>∃ i j,x=.int i∧y=.int j∧Q (g i j) H
section
variable {X:Cx}{a b c:Expr}{ta tb tc:TE}{pos:Pos}
theorem binT (ha:PE X a ta)(hb:PE X b tb){pins:List (Addr×Obj)}{s:Shared}{σ:St}{H:Hp}{R:V→V→Hp→Prop}(I:Inv X pins σ H s)
    (h:ta σ H fun x H1=>tb σ H1 fun y H2=>R x y H2) {Q:Value→Shared→Prop} {f:Value→Value→Sem Value}
    (hf:∀ v u s2 x y H2,Inv X pins σ H2 s2→RelV x v→RelV y u→R x y H2→wpAny (model X.prog X.w) X.A (f v u) Q X.xe s2) :
    wpAny (model X.prog X.w) X.A (eval a X.env) (fun v s₁=>wpAny (model X.prog X.w) X.A (eval b X.env) (fun u s₂=>wpAny (model X.prog X.w) X.A (f v u) Q X.xe s₂) X.xe s₁) X.xe s:=by
  refine thn (ha pins s σ H _ I h) fun v s1 ⟨x,H1,I1,r1,q1⟩=>?_
  refine thn (hb pins s1 σ H1 _ I1 q1) fun u s2 ⟨y,H2,I2,r2,q2⟩=>?_
  exact hf v u s2 x y H2 I2 r1 r2 q2
theorem pe_op {op:Operator}{r:R2}(ho:OpR X (binaryOp op) r)(ha:PE X a ta)(hb:PE X b tb):PE X (.BinOp a op b pos) (tOp r ta tb):=by
  intro pins s σ H Q I h
  exact wpAny_BinOp (binT ha hb I h fun v u s2 x y H2 I2 rx ry q=>ho pins s2 σ H2 x y v u Q I2 rx ry q)
theorem opI {f:Value→Value→Sem Value}{C:Int→Int→Prop}{g:Int→Int→Int}
    (rule:∀ (i j:Int) (t u:Tok) (s:Shared) (Q:Value→Shared→Prop) (E:Value→Shared→Prop),C i j→Q (.int (g i j) s.toks) { s with toks:=s.toks+1 }→wpAny (model X.prog X.w) X.A (f (.int i t) (.int j u)) Q E s) :
    OpR X f (rI C fun i j=>.int (g i j)):=by
  intro pins s σ H x y v u Q I rx ry h
  obtain ⟨i,j,rfl,rfl,hc,q⟩:=h
  obtain ⟨t,rfl⟩:=rx
  obtain ⟨t',rfl⟩:=ry
  exact rule i j t t' s _ _ hc ⟨.int (g i j),H,I.tok _,⟨_,rfl⟩,q⟩
theorem opI0 {f:Value→Value→Sem Value}{g:Int→Int→Int}
    (rule:∀ (i j:Int) (t u:Tok) (s:Shared) (Q:Value→Shared→Prop) (E:Value→Shared→Prop),Q (.int (g i j) s.toks) { s with toks:=s.toks+1 }→wpAny (model X.prog X.w) X.A (f (.int i t) (.int j u)) Q E s) :
    OpR X f (rI0 fun i j=>.int (g i j)):=by
  intro pins s σ H x y v u Q I rx ry h
  obtain ⟨i,j,rfl,rfl,q⟩:=h
  obtain ⟨t,rfl⟩:=rx
  obtain ⟨t',rfl⟩:=ry
  exact rule i j t t' s _ _ ⟨.int (g i j),H,I.tok _,⟨_,rfl⟩,q⟩
theorem opB0 {f:Value→Value→Sem Value}{g:Int→Int→Bool}
    (rule:∀ (i j:Int) (t u:Tok) (s:Shared) (Q:Value→Shared→Prop) (E:Value→Shared→Prop),Q (.bool (g i j)) s→wpAny (model X.prog X.w) X.A (f (.int i t) (.int j u)) Q E s) :
    OpR X f (rI0 fun i j=>.bl (g i j)):=by
  intro pins s σ H x y v u Q I rx ry h
  obtain ⟨i,j,rfl,rfl,q⟩:=h
  obtain ⟨t,rfl⟩:=rx
  obtain ⟨t',rfl⟩:=ry
  exact rule i j t t' s _ _ ⟨.bl (g i j),H,I,rfl,q⟩
def CMul (i j:Int):Prop:=(-(2 ^ 64)<i∧i<2 ^ 64)∨(-(2 ^ 64)<j∧j<2 ^ 64)
theorem CMul.ok {i j:Int}(h:CMul i j):IntMulOk i j:=by
  rcases h with ⟨h1,h2⟩ | ⟨h1,h2⟩
  · exact .of_left (intBits_le_64 h1 h2)
  · exact .of_right (intBits_le_64 h1 h2)
theorem op_add:OpR X (binaryOp .Add) (rI0 fun i j=>.int (i+j)):=opI0 fun _ _ _ _ _ _ _ q=>add_int q
theorem op_sub:OpR X (binaryOp .Sub) (rI0 fun i j=>.int (i - j)):=opI0 fun _ _ _ _ _ _ _ q=>sub_int q
theorem op_mul:OpR X (binaryOp .Mult) (rI CMul fun i j=>.int (i * j)):=opI fun _ _ _ _ _ _ _ hc q=>mul_int q hc.ok
theorem op_mod:OpR X (binaryOp .Mod) (rI (fun _ j=>0<j) fun i j=>.int (i % j)):=opI fun i j _ _ _ _ _ hc q=>by
  have h1:(0:Int)<j:=hc
  exact mod_int' (by omega) (by rw [Int.fmod_eq_emod_of_nonneg i (by omega)]; exact q)
end
def scal:V→V→Bool
  | .non,.non=>true | .non,.int _=>true | .int _,.non=>true | .non,.bl _=>true | .bl _,.non=>true | .non,.str _=>true | .str _,.non=>true
  | .int _,.int _=>true | .bl _,.bl _=>true | .str _,.str _=>true | .byt _,.byt _=>true
  | .int _,.str _=>true | .str _,.int _=>true | .bl _,.str _=>true | .str _,.bl _=>true
  | _,_=>false
def rEq:R2:=fun x y H Q=>scal x y=true∧Q (.bl (decide (x=y))) H
theorem dec_int {i j:Int}:decide (V.int i=V.int j)=(i == j):=by
  rw [Bool.eq_iff_iff]
  simp
theorem dec_bl {i j:Bool}:decide (V.bl i=V.bl j)=(i == j):=by
  rw [Bool.eq_iff_iff]
  simp
theorem dec_str {i j:Str}:decide (V.str i=V.str j)=(i == j):=by
  rw [Bool.eq_iff_iff]
  simp
theorem dec_byt {i j:Array UInt8}:decide (V.byt i=V.byt j)=(i.toList == j.toList):=by
  rw [Bool.eq_iff_iff]
  cases i
  cases j
  simp
section
variable {X:Cx}{a b c:Expr}{ta tb tc:TE}{pos:Pos}
theorem fin_bl {pins:List (Addr×Obj)}{σ:St}{H:Hp}{s:Shared}{Q:VK}{k k':Bool}(I:Inv X pins σ H s)(q:Q (.bl k) H)(e:k=k'):EP X pins σ Q (.bool k') s:=by
  subst e
  exact ⟨.bl k,H,I,rfl,q⟩
theorem op_eq:OpR X (compareOp .Eq) rEq:=by
  intro pins s σ H x y v u Q I rx ry h
  obtain ⟨hs,q⟩:=h
  cases x with
  | non =>
    cases rx
    cases y with
    | non=>cases ry; exact PySem.EqNone.eq_none_none (fin_bl I q (by simp))
    | bl j=>cases ry; exact PySem.EqNone.eq_none_bool (fin_bl I q (by simp))
    | int j=>obtain ⟨t',rfl⟩:=ry; exact PySem.EqNone.eq_none_int (fin_bl I q (by simp))
    | str j=>obtain ⟨t',rfl⟩:=ry; exact PySem.EqNone.eq_none_str (fin_bl I q (by simp))
    | _=>exact absurd (show false=true from hs) Bool.false_ne_true
  | bl i =>
    cases rx
    cases y with
    | non=>cases ry; exact PySem.EqNone.eq_bool_none (fin_bl I q (by simp))
    | bl j=>cases ry; exact eq_bool (fin_bl I q dec_bl)
    | str j=>obtain ⟨t',rfl⟩:=ry; exact PySem.EqMixed.eq_bool_str (fin_bl I q (by simp))
    | _=>exact absurd (show false=true from hs) Bool.false_ne_true
  | int i =>
    obtain ⟨t,rfl⟩:=rx
    cases y with
    | non=>cases ry; exact PySem.EqNone.eq_int_none (fin_bl I q (by simp))
    | int j=>obtain ⟨t',rfl⟩:=ry; exact eq_int (fin_bl I q dec_int)
    | str j=>obtain ⟨t',rfl⟩:=ry; exact PySem.EqMixed.eq_int_str (fin_bl I q (by simp))
    | _=>exact absurd (show false=true from hs) Bool.false_ne_true
  | str i =>
    obtain ⟨t,rfl⟩:=rx
    cases y with
    | non=>cases ry; exact PySem.EqNone.eq_str_none (fin_bl I q (by simp))
    | bl j=>cases ry; exact PySem.EqMixed.eq_str_bool (fin_bl I q (by simp))
    | int j=>obtain ⟨t',rfl⟩:=ry; exact PySem.EqMixed.eq_str_int (fin_bl I q (by simp))
    | str j=>obtain ⟨t',rfl⟩:=ry; exact eq_str (fin_bl I q dec_str)
    | _=>exact absurd (show false=true from hs) Bool.false_ne_true
  | byt i =>
    obtain ⟨t,rfl⟩:=rx
    cases y with
    | byt j=>obtain ⟨t',rfl⟩:=ry; exact PySem.W.eq_bytes (fin_bl I q dec_byt)
    | _=>exact absurd (show false=true from hs) Bool.false_ne_true
  | _=>cases y <;> exact absurd (show false=true from hs) Bool.false_ne_true
theorem op_lt:OpR X (compareOp .Lt) (rI0 fun i j=>.bl (decide (i<j))):=opB0 fun _ _ _ _ _ _ _ q=>lt_int q
theorem op_gt:OpR X (compareOp .Gt) (rI0 fun i j=>.bl (decide (j<i))):=opB0 fun _ _ _ _ _ _ _ q=>gt_int q
theorem op_isN:OpR X (compareOp .Is) (fun x y H Q=>y=.non∧Q (.bl (decide (x=.non))) H):=by
  intro pins s σ H x y v u Q I rx ry h
  obtain ⟨rfl,q⟩:=h
  cases ry
  refine is_none_gen (fin_bl I q ?_)
  cases x <;> first
    | (cases rx; rfl)
    | (obtain ⟨t,rfl⟩:=rx; rfl)
theorem op_notN:OpR X (compareOp .IsNot) (fun x y H Q=>y=.non∧Q (.bl (!decide (x=.non))) H):=by
  intro pins s σ H x y v u Q I rx ry h
  obtain ⟨rfl,q⟩:=h
  cases ry
  refine isnot_none_gen (fin_bl I q ?_)
  cases x <;> first
    | (cases rx; rfl)
    | (obtain ⟨t,rfl⟩:=rx; rfl)
theorem nomark (b:Expr){op:CmpOp}(h:op≠.In:=by decide)(h2:op≠.NotIn:=by decide):behindInMarks op b=false:=by
  have e1:(op == CmpOp.In)=false:=by cases op <;> first | rfl | exact absurd rfl h
  have e2:(op == CmpOp.NotIn)=false:=by cases op <;> first | rfl | exact absurd rfl h2
  cases b <;> simp [behindInMarks,e1,e2]
theorem pe_cmpR {op:CmpOp}{r:R2}(ho:OpR X (compareOp op) r)(ha:PE X a ta)(hb:PE X b tb)(hm:behindInMarks op b=false):PE X (.Compare a [op] [b] pos) (tOp r ta tb):=by
  intro pins s σ H Q I h
  exact wpAny_Compare1 (binT ha hb I h fun v u s2 x y H2 I2 rx ry q=>ho pins s2 σ H2 x y v u Q I2 rx ry q) hm
def tTest (t:TE):TT:=fun σ H Q=>t σ H fun x H'=>∃ k,x=.bl k∧Q k H'
theorem pt_cmpR {op:CmpOp}{r:R2}(ho:OpR X (compareOp op) r)(ha:PE X a ta)(hb:PE X b tb)(hm:behindInMarks op b=false):PT X (.Compare a [op] [b] pos) (tTest (tOp r ta tb)):=by
  intro pins s σ H Q I h
  refine wpAny_isTrue_Compare1 (thn (ha pins s σ H _ I h) fun v s1 ⟨x,H1,I1,r1,q1⟩=>thn (hb pins s1 σ H1 _ I1 q1) fun u s2 ⟨y,H2,I2,r2,q2⟩ =>
    thn (ho pins s2 σ H2 x y v u _ I2 r1 r2 q2) fun c s3 ⟨z,H3,I3,r3,k,e,q3⟩=>?_) hm
  subst e
  cases r3
  exact wpAny_truthy_bool ⟨H3,I3,q3⟩
theorem line63:(sizeLine:Nat)<2 ^ 63:=by rw [sizeLine_eq]; decide
theorem op_add_str:OpR X (binaryOp .Add) (fun x y H Q=>∃ i j,x=.str i∧y=.str j∧i.length+j.length≤sizeLine∧Q (.str (i++j)) H):=by
  intro pins s σ H x y v u Q I rx ry h
  obtain ⟨i,j,rfl,rfl,hz,q⟩:=h
  obtain ⟨t,rfl⟩:=rx
  obtain ⟨t',rfl⟩:=ry
  exact add_str (fun t' tk=>⟨.str (i++j),H,I.tok _,⟨_,rfl⟩,q⟩) hz
theorem vals1 {x:V}{us:List Value}(r:Vals [x] us):∃ u,us=[u]∧RelV x u:=by
  cases r with
  | cons r1 r2=>cases r2; exact ⟨_,rfl,r1⟩
theorem vals2 {x y:V}{us:List Value}(r:Vals [x,y] us):∃ u w',us=[u,w']∧RelV x u∧RelV y w':=by
  cases r with
  | cons r1 r2 =>
    cases r2 with
    | cons r3 r4=>cases r4; exact ⟨_,_,rfl,r1,r3⟩
theorem call_max2 (hc:X.calm=true):CallR X (.builtin "max") (fun xs H Q=>∃ i j,xs=[.int i,.int j]∧Q (.int (if j > i then j else i)) H):=by
  intro pins s σ H xs us Q I r h
  obtain ⟨i,j,rfl,q⟩:=h
  obtain ⟨u,w',rfl,⟨t,rfl⟩,⟨t',rfl⟩⟩:=vals2 r
  refine max_two_ints (I.ok.hd hc) fun h' tk k=>⟨_,H,I.kept k,?_,q⟩
  by_cases hj:j > i
  · rw [if_pos hj,if_pos hj]; exact ⟨_,rfl⟩
  · rw [if_neg hj,if_neg hj]; exact ⟨_,rfl⟩
end
end L2
namespace L2
open PySem PySem.Spec PyProof.Rows
structure ObjM (h:Heap)(x dx C:Addr)(mA:Str→Option Value):Prop where
  obj:h.get? x=some (PySem.W.instObj C dx)
  ns:h.Ns1 dx mA
  ne:dx≠x
theorem lookIn_ns {h:Heap}{dx:Addr}{mA:Str→Option Value}(n:h.Ns1 dx mA):∃ od,h.get? dx=some od∧∀ name,PySem.W.lookIn name od=some (mA name):=by
  obtain ⟨o,es,ep,ho,hd,hk,_,hm⟩:=n
  refine ⟨o,ho,fun name=>?_⟩
  have e:=hm name
  unfold nsFind findBy at e
  rw [← Array.find?_toList] at e
  unfold PySem.W.lookIn
  rw [hd]
  dsimp only
  split
  · rename_i y q
    rw [q] at e
    exact congrArg some e
  · rename_i q
    rw [q] at e
    have a:es.toList.any (·.refKey)=false:=by
      rw [List.any_eq_false]
      intro y hy
      obtain ⟨z,t,hkey⟩:=hk y (Array.mem_toList_iff.mp hy)
      simp [DictEntry.refKey,hkey]
    have a':¬ es.toList.any (·.refKey)=true:=by rw [a]; exact Bool.false_ne_true
    rw [if_neg a']
    exact congrArg some e
theorem ObjM.look {h:Heap}{x dx C:Addr}{mA:Str→Option Value}(I:ObjM h x dx C mA):∃ od,PySem.W.InstAt h x (PySem.W.instObj C dx) C (some od)∧∀ name,PySem.W.lookIn name od=some (mA name) :=
  let ⟨od,ho,hl⟩:=lookIn_ns I.ns
  ⟨od,⟨I.obj,rfl,rfl,ho⟩,hl⟩
section
variable {prog:Program}{w:World}{A:Around}{E:Value→Shared→Prop}{s:Shared}{K:PySem.W.Frag}{x dx C f:Addr}{mA:Str→Option Value}{name:Str}{v:Value}
theorem get_map {expr:Bool}{Q:Value→Shared→Prop}(X:K.In s.heap)(I:ObjM s.heap x dx C mA)(hg:PySem.W.plainGet K C name=true)(hh:PySem.W.hasDictIn K C=true)
    (ha:PySem.W.findIn K (.ref C) name=some none) (hv:mA name=some v) (hv':PySem.W.handedIn v=true) (h:Q v { s with toks:=s.toks+1 }) :
    wpAny (model prog w) A (getAttr (.ref x) name expr) Q E s:=by
  obtain ⟨od,J,hl⟩:=I.look
  exact PySem.W.get_value X J (PySem.W.plainGet_of hg).1 (PySem.W.findObj_own hh ha rfl (by rw [hl,hv])) hv' h
theorem get_meth {pl:Sem Bool}{Q:Value×List Value→Shared→Prop}(X:K.In s.heap)(I:ObjM s.heap x dx C mA)(hg:PySem.W.plainGet K C name=true)
    (hf:PySem.W.findIn K (.ref C) name=some (some (.ref f))) (ht:PySem.W.isFn K (.ref f)=true) (hv:mA name=none) (h:Q (.ref f,[.ref x]) s) :
    wpAny (model prog w) A (getMethod (.ref x) name pl) Q E s:=by
  obtain ⟨od,J,hl⟩:=I.look
  exact PySem.W.method_fn X J (PySem.W.plainGet_of hg).1 (PySem.W.plainGet_of hg).2 hf (beq_iff_eq.mp ht) (by show (PySem.W.lookIn name od).map (·.isSome)=some false; rw [hl,hv]; rfl) h
theorem set_map {ns:List Str}{Q:Unit→Shared→Prop}(X:K.In s.heap)(I:ObjM s.heap x dx C mA)
    (hs:PySem.W.findIn K (.ref C) "__setattr__"=some (some (.builtin "object.__setattr__"))) (hp:PySem.W.plainOver K C=true) (ht:PySem.W.takerIn K C name=some none) (hh:PySem.W.hasDictIn K C=true)
    (hw:PySem.Within mA ns) (hsz:ns.length≤sizeLine)
    (h:∀ h',ObjM h' x dx C (fun y=>if y=name then some v else mA y)→Heap.SameBut dx s.heap h'→Q () { s with heap:=h',toks:=s.toks+2 }) :
    wpAny (model prog w) A (setAttr (.ref x) name v) Q E s:=by
  obtain ⟨od,J,hl⟩:=I.look
  refine PySem.W.set_plain X J hs (PySem.W.osa_open (s:={ s with toks:=s.toks+1 }) (r:=none) X J hp ht fun b=>?_)
  obtain ⟨cd,hc,hd'⟩:=PySem.W.any_some hh
  have hx:s.heap.get? x=some ⟨.ref C,some dx,.plain,#[]⟩:=I.obj
  refine wpAny_bind (wpAny_pure (wpAny_bind (wpAny_bind (wpAny_loadPart hx (wpAny_bind (PySem.W.Looks.here (s:={ s with toks:=s.toks+1 }) (PySem.W.looks_clsIn X hc) ?_))))))
  rw [hd']
  refine wpAny_pure (a:=some dx) (wpAny_bind (wpAny_pure (wpAny_bind ?_)))
  refine wpAny_nsSet1 (s:={ s with toks:=s.toks+1 }) I.ns fun h' hn2 hs2=>?_
  obtain ⟨oD,esD,epD,hoD,hdD,hcD⟩:=hn2.count (PySem.Within.cons name v hw)
  refine wpAny_bind (wpAny_lookBehind hoD (by rw [hdD]; exact pastItsLine_dict (Nat.le_trans hcD (by rw [List.length_cons]; omega))) ?_)
  exact wpAny_pure (h _ ⟨(hs2.2 _ (Ne.symm I.ne)).trans I.obj,hn2,I.ne⟩ hs2)
theorem make_map {R:Result→Shared→Prop}{vs:List Value}{kw:List (Str×Value)}(X:K.In s.heap)(hm:PySem.W.makesIn K C=true)
    (hi:PySem.W.findIn K (.ref C) "__init__"=some (some (.ref f))) (hf:PySem.W.typeIn K (.ref f)=some (.type "function"))
    (h:codeAny (model prog w) (A.under (.builtin "type.__call__" ⟨.ref C::vs,kw⟩)) (.call (.ref f) ⟨.ref (s.heap.objs.size+1)::vs,kw⟩) (PySem.W.InitBack (s.heap.objs.size+1) R)
      { s with heap:=(s.heap.push PySem.W.emptyDict).push (PySem.W.instObj C s.heap.objs.size) }) :
    codeAny (model prog w) A (.call (.ref C) ⟨vs,kw⟩) R s:=by
  obtain ⟨hh,g,d,t,os⟩:=s
  exact PySem.W.make_core (PySem.W.makes_of X hm) (PySem.W.looks_findIn X hi) (fun self=>PySem.W.bind_fn X self hf) (.inl rfl) h
end
def putF (f:Str)(v:V):List (Str×V)→List (Str×V)
  | []=>[(f,v)]
  | (g,x)::r=>if g=f then (g,v)::r else (g,x)::putF f v r
theorem lookup_putF (f g:Str)(v:V):∀ fs:List (Str×V),(putF f v fs).lookup g=if g=f then some v else fs.lookup g
  | []=>by
    show List.lookup g [(f,v)]=_
    by_cases h:g=f
    · have hb:(g == f)=true:=beq_iff_eq.mpr h
      simp only [List.lookup,hb,if_pos h]
    · have hb:(g == f)=false:=beq_eq_false_iff_ne.mpr h
      simp only [List.lookup,hb,if_neg h]
  | (k,x)::r=>by
    have ih:=lookup_putF f g v r
    rw [show putF f v ((k,x)::r)=(if k=f then (k,v)::r else (k,x)::putF f v r) from rfl]
    by_cases hk:k=f
    · rw [if_pos hk]
      by_cases h:g=k
      · have hb:(g == k)=true:=beq_iff_eq.mpr h
        simp only [List.lookup,hb,if_pos (h.trans hk)]
      · have hb:(g == k)=false:=beq_eq_false_iff_ne.mpr h
        simp only [List.lookup,hb,if_neg (fun e:g=f=>h (e.trans hk.symm))]
    · rw [if_neg hk]
      by_cases h:g=k
      · have hb:(g == k)=true:=beq_iff_eq.mpr h
        simp only [List.lookup,hb,if_neg (fun e:g=f=>hk (h.symm.trans e))]
      · have hb:(g == k)=false:=beq_eq_false_iff_ne.mpr h
        simp only [List.lookup,hb]
        exact ih
theorem keys_putF (f:Str)(v:V):∀ fs:List (Str×V),f∈(putF f v fs).map (·.1)∧∀ g,g∈fs.map (·.1)→g∈(putF f v fs).map (·.1)
  | []=>⟨by simp [putF],fun g h=>by simp at h⟩
  | (k,x)::r=>by
    obtain ⟨i1,i2⟩:=keys_putF f v r
    rw [show putF f v ((k,x)::r)=(if k=f then (k,v)::r else (k,x)::putF f v r) from rfl]
    by_cases hk:k=f
    · rw [if_pos hk]
      subst hk
      exact ⟨by simp,fun g h=>by simpa using h⟩
    · rw [if_neg hk]
      refine ⟨?_,fun g h=>?_⟩
      · rw [List.map_cons]
        exact List.mem_cons_of_mem _ i1
      · rw [List.map_cons] at h ⊢
        rcases List.mem_cons.mp h with e | e
        · exact List.mem_cons.mpr (.inl e)
        · exact List.mem_cons_of_mem _ (i2 g e)
theorem length_putF (f:Str)(v:V):∀ fs:List (Str×V),(putF f v fs).length≤fs.length+1
  | []=>by simp [putF]
  | (k,x)::r=>by
    have ih:=length_putF f v r
    rw [show putF f v ((k,x)::r)=(if k=f then (k,v)::r else (k,x)::putF f v r) from rfl]
    by_cases hk:k=f
    · rw [if_pos hk,List.length_cons,List.length_cons]; omega
    · rw [if_neg hk,List.length_cons,List.length_cons]; omega
theorem RelO.some_of {v:V}{o:Option Value}(r:RelO (some v) o):∃ u,o=some u∧RelV v u:=by
  cases o with
  | none=>exact (show False from r).elim
  | some u=>exact ⟨u,rfl,r⟩
theorem RelO.none_of {o:Option Value}(r:RelO none o):o=none:=by
  cases o with
  | none=>rfl
  | some u=>exact (show False from r).elim
theorem handed_of {v:V}{u:Value}(r:RelV v u):PySem.W.handedIn u=true:=by
  cases v with
  | non=>cases (show u=Value.none from r); rfl
  | bl b=>cases (show u=Value.bool b from r); rfl
  | int i=>obtain ⟨t,e⟩:=(show ∃ t,u=Value.int i t from r); cases e; rfl
  | str x=>obtain ⟨t,e⟩:=(show ∃ t,u=Value.str x t from r); cases e; rfl
  | byt b=>obtain ⟨t,e⟩:=(show ∃ t,u=Value.bytes b t from r); cases e; rfl
  | flt b=>obtain ⟨t,e⟩:=(show ∃ t,u=Value.float b t from r); cases e; rfl
  | ref a=>cases (show u=Value.ref a from r); rfl
  | ty n=>cases (show u=Value.type n from r); rfl
section
variable {P:Program}{w:World}{H H':Hp}{h h':Heap}{a C dx:Addr}{fs fs':List (Str×V)}
theorem ins_get (hok:HOk P w H h)(e:H a=some (.ins C dx fs)):∃ mA,ObjM h a dx C mA∧(∀ f,RelO (fs.lookup f) (mA f))∧PySem.Within mA (fs.map (·.1))∧fs.length≤1000∧H dx=some (.own a):=by
  obtain ⟨d,z,ne,ob,mA,n,r,q⟩:=(show ObjOk P w H h a (.ins C dx fs) from hok a _ e)
  exact ⟨mA,⟨ob,n,ne⟩,r,q,z,d⟩
end
structure Cls (K:PySem.W.Frag)(C:Addr):Prop where
  pg:PySem.W.plainGet K C Str.empty=true
  hd:PySem.W.hasDictIn K C=true
  po:PySem.W.plainOver K C=true
  sa:PySem.W.findIn K (.ref C) "__setattr__"=some (some (.builtin "object.__setattr__"))
theorem Cls.get {K:PySem.W.Frag}{C:Addr}(c:Cls K C)(f:Str):PySem.W.plainGet K C f=true:=c.pg
def NoAttr (K:PySem.W.Frag)(C:Addr)(f:Str):Prop:=PySem.W.findIn K (.ref C) f=some none
theorem NoAttr.taker {K:PySem.W.Frag}{C:Addr}{f:Str}(n:NoAttr K C f):PySem.W.takerIn K C f=some none:=by
  unfold PySem.W.takerIn
  rw [show PySem.W.findIn K (.ref C) f=some none from n]
  rfl
structure Meth (K:PySem.W.Frag)(C:Addr)(m:Str)(f:Addr):Prop where
  at_:PySem.W.findIn K (.ref C) m=some (some (.ref f))
  fn:PySem.W.isFn K (.ref f)=true
  kp:PySem.W.keepIn K (.ref f)=true
section
variable {X:Cx}{pins:List (Addr×Obj)}{σ:St}{H:Hp}{s:Shared}{a C dx:Addr}{fs:List (Str×V)}{f:Str}{v:V}{A:Around}{E:Value→Shared→Prop}
theorem getattr_ok {b:Bool}{Q:Value→Shared→Prop}(I:Inv X pins σ H s)(e:H a=some (.ins C dx fs))(c:Cls X.K C)(n:NoAttr X.K C f)(l:fs.lookup f=some v)
    (h:∀ u s',Inv X pins σ H s'→RelV v u→Q u s'):wpAny (model X.prog X.w) A (getAttr (.ref a) f b) Q E s:=by
  obtain ⟨mA,O,r,_,_,_⟩:=ins_get I.hok e
  obtain ⟨u,hu,ru⟩:=RelO.some_of (v:=v) (o:=mA f) (by rw [← l]; exact r f)
  exact get_map I.kIn O (c.get f) c.hd n hu (handed_of ru) (h u _ (I.tok _) ru)
theorem getmeth_ok {m:Str}{g:Addr}{pl:Sem Bool}{Q:Value×List Value→Shared→Prop}(I:Inv X pins σ H s)(e:H a=some (.ins C dx fs))(c:Cls X.K C)(k:Meth X.K C m g)(l:fs.lookup m=none)
    (h:Q (.ref g,[.ref a]) s):wpAny (model X.prog X.w) A (getMethod (.ref a) m pl) Q E s:=by
  obtain ⟨mA,O,r,_,_,_⟩:=ins_get I.hok e
  have hn:mA m=none:=RelO.none_of (by rw [← l]; exact r m)
  exact get_meth I.kIn O (c.get m) k.at_ k.fn hn h
theorem setattr_ok {y:V}{u:Value}{Q:Unit→Shared→Prop}(I:Inv X pins σ H s)(e:H a=some (.ins C dx fs))(c:Cls X.K C)(n:NoAttr X.K C f)(hl:fs.length<1000)(ry:RelV y u)
    (h:∀ s',Inv X pins σ (upd H a (.ins C dx (putF f y fs))) s'→Q () s'):wpAny (model X.prog X.w) A (setAttr (.ref a) f u) Q E s:=by
  obtain ⟨mA,O,r,wi,_,ho⟩:=ins_get I.hok e
  have hz:(fs.map (·.1)).length≤sizeLine:=by rw [List.length_map,sizeLine_eq]; omega
  refine set_map I.kIn O c.sa c.po n.taker c.hd wi hz fun h' O' sb=>h _ ?_
  have hd:∃ o,h'.get? dx=some o:=let ⟨o,_,_,e',_⟩:=O'.ns; ⟨o,e'⟩
  refine I.write (x:=a) (e:=dx) (by rw [e]; exact True.intro) (.inr ho) (fun b q hb z=>(sb.2 b hb).trans z) hd ?_
  refine ⟨by rw [upd_ne O.ne]; exact ho,?_,O.ne,O'.obj,_,O'.ns,fun g=>?_,fun g hg=>?_⟩
  · have:=length_putF f y fs; omega
  · show RelO ((putF f y fs).lookup g) (if g=f then some u else mA g)
    rw [lookup_putF]
    by_cases q:g=f
    · rw [if_pos q,if_pos q]; exact ry
    · rw [if_neg q,if_neg q]; exact r g
  · by_cases q:g=f
    · rw [q]; exact (keys_putF f y fs).1
    · refine (keys_putF f y fs).2 g (wi g fun z=>hg ?_)
      show (if g=f then some u else mA g)=none
      rw [if_neg q]; exact z
theorem Inv.made (I:Inv X pins σ H s):Inv X pins σ (upd (upd H s.heap.objs.size (.own (s.heap.objs.size+1))) (s.heap.objs.size+1) (.ins C s.heap.objs.size []))
    { s with heap:=(s.heap.push PySem.W.emptyDict).push (PySem.W.instObj C s.heap.objs.size) }:=by
  have e1:(s.heap.push PySem.W.emptyDict).get? s.heap.objs.size=some PySem.W.emptyDict:=Heap.get?_push_size s.heap rfl
  have e2:((s.heap.push PySem.W.emptyDict).push (PySem.W.instObj C s.heap.objs.size)).get? (s.heap.objs.size+1)=some (PySem.W.instObj C s.heap.objs.size):=by
    have:=Heap.get?_push_size (s.heap.push PySem.W.emptyDict) (o:=PySem.W.instObj C s.heap.objs.size) rfl
    rwa [Heap.size_push] at this
  have e3:(s.heap.push PySem.W.emptyDict).Ns s.heap.objs.size (fun _=>none):=⟨PySem.W.emptyDict,#[],_,e1,rfl,(fun e he=>absurd he (by simp)),fun _=>rfl⟩
  have I1:=I.laid (a:=s.heap.objs.size) (o:=.own (s.heap.objs.size+1)) (h':=s.heap.push PySem.W.emptyDict) (t':=s.toks) (fun b u q=>Heap.get?_push_of_some _ q) (Nat.le_refl _) ⟨_,e1⟩
  refine I1.laid (a:=s.heap.objs.size+1) (o:=.ins C s.heap.objs.size []) (t':=s.toks) (fun b u q=>Heap.get?_push_of_some _ q) (Nat.le_of_eq (Heap.size_push _ _)) ?_
  have ne:s.heap.objs.size≠s.heap.objs.size+1:=Nat.ne_of_lt (Nat.lt_succ_self _)
  refine ⟨by rw [upd_ne ne,upd_same],Nat.zero_le _,ne,e2,fun _=>none,(Heap.Ns1.of_empty e3).at fun o q=>Heap.get?_push_of_some _ q,fun _=>True.intro,fun y hy=>absurd rfl hy⟩
theorem attr_of {prog:Program}{w:World}{env:Env}{e:Expr}{f:Str}{pos:Pos}{s:Shared}{Q:Value→Shared→Prop}(hb:attributeBase e f env (eval e env)=eval e env)
    (h:wpAny (model prog w) A (eval e env) (fun o s₁=>wpAny (model prog w) A (getAttr o f true) Q E s₁) E s):wpAny (model prog w) A (eval (.Attribute e f pos) env) Q E s :=
  Attribute_any_ h (by rw [arm_eval_Attribute,hb])
end
def tFld (K:PySem.W.Frag)(ta:TE)(f:Str):TE:=fun σ H Q=>ta σ H fun x H1=>∃ a C dx fs v,x=.ref a∧H1 a=some (.ins C dx fs)∧Cls K C∧NoAttr K C f∧fs.lookup f=some v∧Q v H1
def sFld (K:PySem.W.Frag)(ta tv:TE)(f:Str):TS:=fun D σ H=>tv σ H fun y H1=>ta σ H1 fun x H2=>∃ a C dx fs,x=.ref a∧H2 a=some (.ins C dx fs)∧Cls K C∧NoAttr K C f∧fs.length<1000 ∧
  D.nx σ (upd H2 a (.ins C dx (putF f y fs)))
section
variable {X:Cx}{o e value:Expr}{f:Str}{pos pos' tpos:Pos}{ta tv:TE}
theorem pe_fld (he:PE X e ta)(hb:attributeBase e f X.env (eval e X.env)=eval e X.env):PE X (.Attribute e f pos) (tFld X.K ta f):=by
  intro pins s σ H Q I h
  refine attr_of hb (thn (he pins s σ H _ I h) fun u s1 ⟨x,H1,I1,rx,a,C,dx,fs,v,ex,ea,c,n,l,q⟩=>?_)
  subst ex
  obtain rfl:u=Value.ref a:=rx
  exact getattr_ok I1 ea c n l fun u' s2 I2 ru=>⟨v,H1,I2,ru,q⟩
theorem ps_fld (ha:PE X o ta)(hv:PE X value tv)(hs:swapsWith value (some (.Attribute o f pos')) pos.line X.env=pure false):PS X (.Assign [.Attribute o f pos'] value pos) (sFld X.K ta tv f):=by
  intro pins s σ H D I h
  refine plainObj_wpAny_Assign_Attribute (thn (hv pins s σ H _ I h) fun u s1 ⟨y,H1,I1,ry,q⟩=>thn (ha pins s1 σ H1 _ I1 q) fun ov s2 ⟨x,H2,I2,rx,a,C,dx,fs,ex,ea,c,n,l,q2⟩=>?_) hs
  subst ex
  obtain rfl:ov=Value.ref a:=rx
  exact setattr_ok I2 ea c n l ry fun s3 I3=>⟨σ,_,I3,q2⟩
end
section
variable {X:Cx}{pins:List (Addr×Obj)}{σ:St}{H:Hp}{s:Shared}{A:Around}{E:Value→Shared→Prop}{Q:Value→Shared→Prop}{c:Value}{b:Bool}
inductive TyOf (K:PySem.W.Frag) (H:Hp):V→Value→Prop where
  | non:TyOf K H .non (.type "NoneType")
  | bl (x:Bool):TyOf K H (.bl x) (.type "bool")
  | int (i:Int):TyOf K H (.int i) (.type "int")
  | str (x:Str):TyOf K H (.str x) (.type "str")
  | flt (x:UInt64):TyOf K H (.flt x) (.type "float")
  | lst {a:Addr} {xs:List V} (e:H a=some (.lst xs)):TyOf K H (.ref a) (.type "list")
  | frz {a:Addr} {o:Obj} {xs:List V} (e:H a=some (.frz o (.lst xs))):TyOf K H (.ref a) (.type "list")
  | tup {a:Addr} {xs:List V} (e:H a=some (.tup xs)):TyOf K H (.ref a) (.type "tuple")
  | dK {a:Addr} {kvs:List (Key×V)} (e:H a=some (.dK kvs)):TyOf K H (.ref a) (.type "dict")
  | dT {a:Addr} {kvs:List (List Key×V)} (e:H a=some (.dT kvs)):TyOf K H (.ref a) (.type "dict")
  | ins {a C dx:Addr} {fs:List (Str×V)} (e:H a=some (.ins C dx fs)) (cl:Cls K C) (ha:PySem.W.findIn K (.ref C) "__class__"=some (some (.builtin "object.__class__")))
      (hn:PySem.W.specialIn K (.builtin "object.__class__") "__get__"=some (some (.builtin "getset_descriptor.__get__"))) (htk:PySem.W.takesIn K (.builtin "object.__class__")=some true)
      (hm:PySem.W.mroIn K C (.type "object")=some true):TyOf K H (.ref a) (.ref C)
theorem isinst_ok {x:V}{u t:Value}(I:Inv X pins σ H s)(rx:RelV x u)(ty:TyOf X.K H x t)(e:PySem.W.kitOne X.K t c=some b)(h:∀ tk,Q (.bool b) { s with toks:=tk }) :
    wpAny (model X.prog X.w) A (call (.builtin "isinstance") [u,c]) Q E s:=by
  cases ty with
  | non=>cases (show u=Value.none from rx); exact PySem.W.kia_one PySem.W.kitx_none I.kIn True.intro e (fun z=>nomatch z) h
  | bl y=>cases (show u=Value.bool y from rx); exact PySem.W.kia_one PySem.W.kitx_bool I.kIn True.intro e (fun z=>nomatch z) h
  | int i=>obtain ⟨t,q⟩:=(show ∃ t,u=Value.int i t from rx); cases q; exact PySem.W.kia_one PySem.W.kitx_int I.kIn True.intro e (fun z=>nomatch z) h
  | str y=>obtain ⟨t,q⟩:=(show ∃ t,u=Value.str y t from rx); cases q; exact PySem.W.kia_one PySem.W.kitx_str I.kIn True.intro e (fun z=>nomatch z) h
  | flt y=>obtain ⟨t,q⟩:=(show ∃ t,u=Value.float y t from rx); cases q; exact PySem.W.kia_one PySem.W.kitx_float I.kIn True.intro e (fun z=>nomatch z) h
  | @lst a xs ea =>
    cases (show u=Value.ref a from rx)
    obtain ⟨_,_,n,_,h1⟩:=(show ObjOk X.prog X.w H s.heap a (.lst xs) from I.hok a _ ea)
    exact PySem.W.kia_one PySem.W.kitx_list I.kIn ⟨_,h1,rfl⟩ e (fun z=>nomatch z) h
  | @frz a ob xs ea =>
    cases (show u=Value.ref a from rx)
    obtain ⟨_,_,_,n,_,h1⟩:=(show ObjOk X.prog X.w H s.heap a (.frz ob (.lst xs)) from I.hok a _ ea)
    exact PySem.W.kia_one PySem.W.kitx_list I.kIn ⟨_,h1,rfl⟩ e (fun z=>nomatch z) h
  | @tup a xs ea =>
    cases (show u=Value.ref a from rx)
    obtain ⟨_,_,_,p⟩:=(show ObjOk X.prog X.w H s.heap a (.tup xs) from I.hok a _ ea)
    obtain ⟨o,h1,h2,_⟩:=p
    exact PySem.W.kia_one PySem.W.kitx_tuple I.kIn ⟨o,h1,h2⟩ e (fun z=>nomatch z) h
  | @dK a kvs ea =>
    cases (show u=Value.ref a from rx)
    obtain ⟨_,_,vs,_,p⟩:=(show ObjOk X.prog X.w H s.heap a (.dK kvs) from I.hok a _ ea)
    obtain ⟨o,es,ep,h1,h2,_⟩:=p
    exact PySem.W.kia_one PySem.W.kitx_dict I.kIn ⟨o,h1,h2.1⟩ e (fun z=>nomatch z) h
  | @dT a kvs ea =>
    cases (show u=Value.ref a from rx)
    obtain ⟨_,_,xs,_,o,es,ep,h1,h2,_⟩:=(show ObjOk X.prog X.w H s.heap a (.dT kvs) from I.hok a _ ea)
    exact PySem.W.kia_one PySem.W.kitx_dict I.kIn ⟨o,h1,h2.1⟩ e (fun z=>nomatch z) h
  | @ins a C dx fs ea cl ha hn htk hm =>
    cases (show u=Value.ref a from rx)
    obtain ⟨mA,O,_⟩:=ins_get I.hok ea
    obtain ⟨od,J,_⟩:=O.look
    exact PySem.W.kia_one (PySem.W.kitx_own (cl.get _) cl.hd ha hn htk hm) I.kIn J e (fun z=>nomatch z) h
end
end L2
namespace L2
open PySem PySem.Spec PyProof.Rows
structure Room (k:Nat)(A:Around):Prop where
  hd:A.handled=none
  dp:A.depth+3 * k+5<recursionLimit
  un:A.units+16 * k+200<cLine
  gd:A.guards=some []
theorem Room.mono {j k:Nat}{A:Around}(r:Room k A)(h:j≤k):Room j A:=⟨r.hd,by have:=r.dp; omega,by have:=r.un; omega,r.gd⟩
theorem Room.deeper {k:Nat}{A:Around}(r:Room (k+1) A)(env:Env):Room k (A.deeper env) :=
  ⟨r.hd,by have:=r.dp; show A.depth+1+3 * k+5<_; omega,by have:=r.un; show A.units+3+16 * k+200<_; omega,r.gd⟩
theorem Room.in1 {k:Nat}{A:Around}(r:Room (k+1) A):Room k A.in1 :=
  ⟨r.hd,by have:=r.dp; show A.depth+3 * k+5<_; omega,by have:=r.un; show A.units+1+16 * k+200<_; omega,r.gd⟩
theorem make_depth {A:Around}{C:Addr}{us:List Value}{kw:List (Str×Value)}:(A.under (.builtin "type.__call__" ⟨.ref C::us,kw⟩)).depth=A.depth+1:=by
  first | rfl | simp [Around.under,Code.weight,Code.isCreation,Code.isGuard,Code.isCaller,Code.frames,Code.isFrame,guardIds]
theorem make_units {A:Around}{C:Addr}{us:List Value}{kw:List (Str×Value)}:(A.under (.builtin "type.__call__" ⟨.ref C::us,kw⟩)).units=A.units+1:=by
  first | rfl | simp [Around.under,Code.cUnits,Code.frames,Code.isFrame]
theorem make_guards {A:Around}{C:Addr}{us:List Value}{kw:List (Str×Value)}:(A.under (.builtin "type.__call__" ⟨.ref C::us,kw⟩)).guards=A.guards:=by
  first | rfl | (cases h:A.guards <;> simp [Around.under,Code.guards,Code.isGuard,guardIds,pushGuards,h])
theorem Room.make {k:Nat}{A:Around}(r:Room (k+1) A)(C:Addr)(us:List Value)(kw:List (Str×Value)):Room k (A.under (.builtin "type.__call__" ⟨.ref C::us,kw⟩)) :=
  ⟨r.hd,by have:=r.dp; rw [make_depth]; omega,by have:=r.un; rw [make_units]; omega,by rw [make_guards]; exact r.gd⟩
theorem Room.depth {k:Nat}{A:Around}(r:Room k A):A.depth<recursionLimit:=by have:=r.dp; omega
theorem Room.units {k:Nat}{A:Around}(r:Room k A):A.units+64<cLine:=by have:=r.un; omega
def tNil:TA:=fun _ H Q=>Q [] H
def tCons (ta:TE)(tr:TA):TA:=fun σ H Q=>ta σ H fun x H1=>tr σ H1 fun xs H2=>Q (x::xs) H2
section
variable {X:Cx}{e:Expr}{es:List Expr}{te:TE}{t:TA}{pos:Pos}
theorem pa_nil:PA X [] tNil:=fun _ _ _ _ H Q I h=>Calls.spliced_nil ⟨[],H,I,.nil,h⟩
theorem pa_cons (ha:PE X e te)(hr:PA X es t)(hs:starEach (e::es) X.env=(false,eval e X.env)::starEach es X.env:=by rfl):PA X (e::es) (tCons te t):=by
  intro pos pins s σ H Q I h
  rw [hs]
  show wpAny _ _ (spliced ((false,eval e X.env)::backTo pos (starEach es X.env))) _ _ s
  refine Calls.spliced_cons (thn (ha pins s σ H _ I h) fun u s1 ⟨x,H1,I1,r1,q1⟩=>?_)
  exact thn (hr pos pins s1 σ H1 _ I1 q1) fun us s2 ⟨xs,H2,I2,r2,q2⟩=>⟨x::xs,H2,I2,.cons r1 r2,q2⟩
def tTup (t:TA):TE:=fun σ H Q=>t σ H fun xs H1=>xs.length≤sizeLine∧∀ p,H1 p=none→Q (.ref p) (upd H1 p (.tup xs))
def tLst (t:TA):TE:=fun σ H Q=>t σ H fun xs H1=>xs.length≤sizeLine∧∀ p,H1 p=none→Q (.ref p) (upd H1 p (.lst xs))
theorem pe_tup {x1}(h:PA X es t):PE X (.Tuple es x1 pos) (tTup t):=by
  intro pins s σ H Q I hq
  refine wpAny_Tuple_spliced (thn (h pos pins s σ H _ I hq) fun us s1 ⟨xs,H1,I1,r,z,q⟩=>⟨by rw [← r.length]; exact z,?_⟩)
  have hf:H1 s1.heap.objs.size=none:=I1.hok.fresh (Nat.le_refl _)
  refine ⟨.ref s1.heap.objs.size,upd H1 s1.heap.objs.size (.tup xs),I1.laid (t':=s1.toks) (fun b u e=>Heap.get?_push_of_some _ e) (Nat.le_refl _) ?_,rfl,q _ hf⟩
  exact ⟨z,us,r,⟨_,Heap.get?_push_size _ rfl,rfl,_,rfl⟩⟩
theorem pe_lst (h:PA X es t):PE X (.List es pos) (tLst t):=by
  intro pins s σ H Q I hq
  refine wpAny_List_spliced (thn (h pos pins s σ H _ I hq) fun us s1 ⟨xs,H1,I1,r,z,q⟩=>⟨by rw [← r.length]; exact z,?_⟩)
  have hf:H1 s1.heap.objs.size=none:=I1.hok.fresh (Nat.le_refl _)
  refine ⟨.ref s1.heap.objs.size,upd H1 s1.heap.objs.size (.lst xs),I1.laid (t':=s1.toks) (fun b u e=>Heap.get?_push_of_some _ e) (Nat.le_refl _) ?_,rfl,q _ hf⟩
  exact ⟨z,us,0,r,Heap.get?_push_size _ rfl⟩
end
abbrev Sp:=List V→Hp→VK→XK→Prop
abbrev CXT:=List Env→Hp→Shared→XK→Value→Shared→Prop
structure Env0 (P:Program)(w:World)(K:PySem.W.Frag)(mg:Str→Option Value)(base:Heap)(A:Around)(outer:List Env)(s:Shared)(H:Hp):Prop where
  frames:A.frames=some outer
  mod:Mod K mg base
  bs:∀ b o,base.get? b=some o→s.heap.get? b=some o∧H b=none
  bsz:base.objs.size≤s.heap.objs.size
  funs:s.heap.FunFrames base outer
  frf:∀ b∈frs outer,H b=none
  hok:HOk P w H s.heap
  bare:AllBare s.gens
def CE (outer:List Env)(P:Program)(w:World)(H:Hp)(s:Shared)(Q:VK)(u:Value)(s':Shared):Prop :=
  ∃ v H',s'.os=s.os∧AllBare s'.gens∧Un (frs outer) [] H H' s.heap s'.heap∧HOk P w H' s'.heap∧RelV v u∧Q v H'
def CR (CX:CXT)(outer:List Env)(P:Program)(w:World)(H:Hp)(s:Shared)(Q:VK)(E:XK)(r:Result)(s':Shared):Prop :=
  match r with
  | .ok (.ret u)=>CE outer P w H s Q u s'
  | .ok _=>False
  | .error e=>CX outer H s E e s'
structure FnOk (P:Program)(w:World)(K:PySem.W.Frag)(mg:Str→Option Value)(base:Heap)(CX:CXT)(k:Nat)(f:Addr)(fd:FuncData)(ps:List Str)(sp:Sp):Prop where
  len:∀ vs H Q E,sp vs H Q E→vs.length=ps.length
  run:∀ (A:Around) (outer:List Env) (s:Shared) (H:Hp) (args:Args) (us:List Value) (vs:List V) (Q:VK) (E:XK),Room k A→Env0 P w K mg base A outer s H→BindsTo s fd args (ps.zip us)→Vals vs us→sp vs H Q E →
    codeAny (model P w) A (.call (.ref f) args) (CR CX outer P w H s Q E) s
theorem FnOk.mono {P:Program}{w:World}{K:PySem.W.Frag}{mg:Str→Option Value}{base:Heap}{CX:CXT}{j k:Nat}{f:Addr}{fd:FuncData}{ps:List Str}{sp:Sp}(F:FnOk P w K mg base CX j f fd ps sp)(h:j≤k) :
    FnOk P w K mg base CX k f fd ps sp:=⟨F.len,fun A outer s H args us vs Q E hr=>F.run A outer s H args us vs Q E (hr.mono h)⟩
theorem FnOk.imp {P:Program}{w:World}{K:PySem.W.Frag}{mg:Str→Option Value}{base:Heap}{CX:CXT}{k:Nat}{f:Addr}{fd:FuncData}{ps:List Str}{sp sp':Sp}(F:FnOk P w K mg base CX k f fd ps sp)
    (h:∀ vs H Q E,sp' vs H Q E→sp vs H Q E):FnOk P w K mg base CX k f fd ps sp' :=
  ⟨fun vs H Q E q=>F.len vs H Q E (h _ _ _ _ q),fun A outer s H args us vs Q E hr he hb hv hs=>F.run A outer s H args us vs Q E hr he hb hv (h _ _ _ _ hs)⟩
theorem Env0.make {P:Program}{w:World}{K:PySem.W.Frag}{mg:Str→Option Value}{base:Heap}{A:Around}{outer:List Env}{s:Shared}{H:Hp}(e:Env0 P w K mg base A outer s H)(C:Addr)(us:List Value)(kw:List (Str×Value)) :
    Env0 P w K mg base (A.under (.builtin "type.__call__" ⟨.ref C::us,kw⟩)) outer s H:=⟨by first | exact e.frames | (simpa [Around.under,Code.envs,Code.isFrame,pushEnvs] using e.frames),e.mod,e.bs,e.bsz,e.funs,e.frf,e.hok,e.bare⟩
theorem Env0.in1 {P:Program}{w:World}{K:PySem.W.Frag}{mg:Str→Option Value}{base:Heap}{A:Around}{outer:List Env}{s:Shared}{H:Hp}(e:Env0 P w K mg base A outer s H) :
    Env0 P w K mg base A.in1 outer s H:=⟨e.frames,e.mod,e.bs,e.bsz,e.funs,e.frf,e.hok,e.bare⟩
section
variable {X:Cx}{pins:List (Addr×Obj)}{σ:St}{H:Hp}{s s':Shared}
theorem Inv.env0 (I:Inv X pins σ H s):Env0 X.prog X.w X.K X.mg X.base X.A X.stack s H :=
  ⟨I.ok.frames,I.ok.mod,I.bs,Nat.le_trans I.ok.bsz I.sz,I.stack,I.stkFree,I.hok,I.bare⟩
theorem Inv.after {Q:VK}{u:Value}(I:Inv X pins σ H s)(h:CE X.stack X.prog X.w H s Q u s'):EP X pins σ Q u s':=by
  obtain ⟨v,H',os,bare,un,hok,r,q⟩:=h
  obtain ⟨hh,g,d,t,os'⟩:=s'
  obtain rfl:os'=s.os:=os
  exact ⟨v,H',I.call (h':=hh) (g':=g) (d':=d) (t':=t) (ch:=[]) un hok bare (fun b z=>absurd z (by simp)),r,q⟩
end
def tCall (sp:Sp)(dvs:List V)(E:XK)(t:TA):TE:=fun σ H Q=>t σ H fun vs H1=>sp (vs++dvs) H1 Q E
def tMake (C:Addr)(sp:Sp)(dvs:List V)(E:XK)(t:TA):TE:=fun σ H Q=>t σ H fun vs H1=>∀ x dx,H1 x=none→H1 dx=none→dx≠x →
  sp (.ref x::(vs++dvs)) (upd (upd H1 dx (.own x)) x (.ins C dx [])) (fun v H2=>v=.non∧Q (.ref x) H2) E
def Binds (K:PySem.W.Frag)(fd:FuncData)(ps:List Str)(ds:List Value):Prop :=
  ∀ (s:Shared) (us:List Value),K.In s.heap→(us++ds).length=ps.length→BindsTo s fd ⟨us,[]⟩ (ps.zip (us++ds))
theorem Binds.all {K:PySem.W.Frag}{fd:FuncData}{ps:List Str}(h:∀ us:List Value,us.length=ps.length→bindArgs fd ⟨us,[]⟩=pure (ps.zip us)):Binds K fd ps []:=fun s us _ hl=>by
  rw [List.append_nil] at hl ⊢
  exact .of_eq (h us hl)
def Passes (CX:CXT)(X:Cx)(E:XK):Prop:=∀ (pins:List (Addr×Obj)) (σ:St) (H:Hp) (s:Shared) (e:Value) (s':Shared),Inv X pins σ H s→CX X.stack H s E e s'→X.xe e s'
section
variable {X:Cx}{CX:CXT}{k:Nat}{f C:Addr}{fd:FuncData}{ps:List Str}{sp:Sp}{dvs:List V}{ds:List Value}{E:XK}{x m:Str}{p pos apos:Pos}{e o:Expr}{es:List Expr}{ta:TE}{t:TA}
theorem run_fn {pins:List (Addr×Obj)}{σ:St}{H:Hp}{s:Shared}{Q:VK}{us:List Value}{vs:List V}(F:FnOk X.prog X.w X.K X.mg X.base CX k f fd ps sp)(hr:Room k X.A)(hb:Binds X.K fd ps ds)(hd:Vals dvs ds)(hx:Passes CX X E)
    (I:Inv X pins σ H s) (r:Vals vs us) (h:sp (vs++dvs) H Q E):wpAny (model X.prog X.w) X.A (call (.ref f) us) (EP X pins σ Q) X.xe s:=by
  have r2:Vals (vs++dvs) (us++ds):=r.append hd
  have hl:(us++ds).length=ps.length:=by rw [← r2.length]; exact F.len _ _ _ _ h
  refine wpAny_call (codeAny_mono (F.run X.A X.stack s H ⟨us,[]⟩ (us++ds) (vs++dvs) Q E hr I.env0 (hb s us I.kIn hl) r2 h) fun r s' hq=>?_)
  cases r with
  | error e=>exact hx pins σ H s e s' I hq
  | ok fl =>
    cases fl with
    | ret u=>exact I.after hq
    | next=>exact False.elim hq
    | brk=>exact False.elim hq
    | cont=>exact False.elim hq
theorem pe_call (F:FnOk X.prog X.w X.K X.mg X.base CX k f fd ps sp)(hr:Room k X.A)(hg:Gl X x)(hm:X.mg x=some (.ref f))(hk:PySem.W.keepIn X.K (.ref f)=true)(hb:Binds X.K fd ps ds)(hd:Vals dvs ds)(hx:Passes CX X E)
    (ha:PA X (e::es) t) (hdb:(x == ("__debug__":Str))=false:=by decide) (he:starEach (e::es) X.env=(false,eval e X.env)::starEach es X.env:=by rfl) (hpl:(backTo pos (starEach es X.env)).any (·.1)=false:=by rfl) :
    PE X (.Call (.Name x p) (e::es) [] pos) (tCall sp dvs E t):=by
  intro pins s σ H Q I h
  refine wpAny_Call_Name_kw (ld_glob I hg hm ?_ hdb)
  refine PySem.W.callWith_K (h₀:=X.base) I.ok.mod.kin hk (thn (ha pos pins s σ H _ I h) fun us s1 ⟨vs,H1,I1,r,q⟩=>⟨I1.kIn,?_⟩) he hpl
  exact run_fn F hr hb hd hx I1 r q
structure Mk (K:PySem.W.Frag)(C f:Addr):Prop where
  makes:PySem.W.makesIn K C=true
  init:PySem.W.findIn K (.ref C) "__init__"=some (some (.ref f))
  fn:PySem.W.isFn K (.ref f)=true
  kp:PySem.W.keepIn K (.ref C)=true
theorem run_make {pins:List (Addr×Obj)}{σ:St}{H:Hp}{s:Shared}{Q:VK}{us:List Value}{vs:List V}(M:Mk X.K C f)(F:FnOk X.prog X.w X.K X.mg X.base CX k f fd ps sp)(hr:Room (k+1) X.A)(hb:Binds X.K fd ps ds)(hd:Vals dvs ds)
    (hx:Passes CX X E) (I:Inv X pins σ H s) (r:Vals vs us)
    (h:∀ x dx,H x=none→H dx=none→dx≠x→sp (.ref x::(vs++dvs)) (upd (upd H dx (.own x)) x (.ins C dx [])) (fun v H2=>v=.non∧Q (.ref x) H2) E) :
    wpAny (model X.prog X.w) X.A (call (.ref C) us) (EP X pins σ Q) X.xe s:=by
  have hq:=h (s.heap.objs.size+1) s.heap.objs.size (I.hok.fresh (Nat.le_succ _)) (I.hok.fresh (Nat.le_refl _)) (Nat.ne_of_lt (Nat.lt_succ_self _))
  have I2:=Inv.made (C:=C) I
  have r2:Vals (V.ref (s.heap.objs.size+1)::(vs++dvs)) (Value.ref (s.heap.objs.size+1)::(us++ds)):=.cons rfl (r.append hd)
  have hl:(Value.ref (s.heap.objs.size+1)::us++ds).length=ps.length:=by
    have e:=r2.length
    rw [F.len _ _ _ _ hq] at e
    exact e.symm
  refine wpAny_call (make_map (f:=f) I.kIn M.makes M.init (beq_iff_eq.mp M.fn) (codeAny_mono (F.run _ X.stack _ _ ⟨Value.ref (s.heap.objs.size+1)::us,[]⟩ (Value.ref (s.heap.objs.size+1)::(us++ds)) _ _ E (hr.make C us [])
    (I2.env0.make C us []) (hb _ (Value.ref (s.heap.objs.size+1)::us) I2.kIn hl) r2 hq) fun r s' hq'=>?_))
  cases r with
  | error e=>exact hx pins σ _ _ e s' I2 hq'
  | ok fl =>
    cases fl with
    | ret u =>
      obtain ⟨v,H',I3,rv,ev,q3⟩:=I2.after hq'
      subst ev
      exact ⟨rv,⟨V.ref (s.heap.objs.size+1),H',I3,rfl,q3⟩⟩
    | next=>exact False.elim hq'
    | brk=>exact False.elim hq'
    | cont=>exact False.elim hq'
theorem pe_make (M:Mk X.K C f)(F:FnOk X.prog X.w X.K X.mg X.base CX k f fd ps sp)(hr:Room (k+1) X.A)(hg:Gl X x)(hm:X.mg x=some (.ref C))(hb:Binds X.K fd ps ds)(hd:Vals dvs ds)(hx:Passes CX X E)
    (ha:PA X (e::es) t) (hdb:(x == ("__debug__":Str))=false:=by decide) (he:starEach (e::es) X.env=(false,eval e X.env)::starEach es X.env:=by rfl) (hpl:(backTo pos (starEach es X.env)).any (·.1)=false:=by rfl) :
    PE X (.Call (.Name x p) (e::es) [] pos) (tMake C sp dvs E t):=by
  intro pins s σ H Q I h
  refine wpAny_Call_Name_kw (ld_glob I hg hm ?_ hdb)
  refine PySem.W.callWith_K (h₀:=X.base) I.ok.mod.kin M.kp (thn (ha pos pins s σ H _ I h) fun us s1 ⟨vs,H1,I1,r,q⟩=>⟨I1.kIn,?_⟩) he hpl
  exact run_make M F hr hb hd hx I1 r q
end
section
variable {X:Cx}{CX:CXT}{k:Nat}{f C:Addr}{fd:FuncData}{ps ks:List Str}{sp:Sp}{E:XK}{x m:Str}{p pos apos kpos:Pos}{e o:Expr}{es:List Expr}{kws:List Keyword}{te ta:TE}{t tk:TA}{nm:Option Str}
variable {g:List Value→List Value→List Value}{gV:List V→List V→List V}
end
structure FnScope (N P:List Str)(sc:Scope):Prop where
  kind:sc.kind=.function
  co:sc.isCoroutine=false
  gen:sc.isGenerator=false
  nd:N.Nodup
  pre:N.take P.length=P
  par:∀ x∈P,sc.names.lookup x=some .local∨sc.names.lookup x=some .cell
  nofree:∀ y∈sc.names,y.2≠.free
theorem bindL_out {kindOf:Str→Option NameKind}{x:Str}:∀ {binds:List (Str×Value)} {m:Str→Option Value},(∀ v,(x,v)∉binds)→bindL kindOf binds m x=m x
  | [],_,_=>rfl
  | (n,v)::r,m,h=>by
    unfold bindL
    rw [bindL_out fun w hw=>h w (List.mem_cons_of_mem _ hw)]
    split
    · have:x≠n:=by rintro rfl; exact h v List.mem_cons_self
      simp [this]
    · rfl
theorem bindC_out {kindOf:Str→Option NameKind}{x:Str}:∀ {binds:List (Str×Value)} {m:Str→Option Value},(∀ v,(x,v)∉binds)→bindC kindOf binds m x=m x
  | [],_,_=>rfl
  | (n,v)::r,m,h=>by
    unfold bindC
    rw [bindC_out fun w hw=>h w (List.mem_cons_of_mem _ hw)]
    split
    · rfl
    · have:x≠n:=by rintro rfl; exact h v List.mem_cons_self
      simp [this]
theorem bindL_get {kindOf:Str→Option NameKind}{x:Str}{v:Value}:∀ {P:List Str} {vs:List Value} {i:Nat} {m:Str→Option Value},P.Nodup→P[i]?=some x→vs[i]?=some v→kindOf x=some .local →
    bindL kindOf (P.zip vs) m x=some v
  | [],_,_,_,_,h,_,_=>by simp at h
  | _::_,[],_,_,_,_,h,_=>by simp at h
  | p::P,w::vs,0,m,nd,h1,h2,hk=>by
    simp at h1 h2; subst h1; subst h2
    show bindL kindOf ((p,w)::P.zip vs) m p=_
    unfold bindL
    rw [bindL_out fun v hv=>(List.nodup_cons.mp nd).1 (List.of_mem_zip hv).1,if_pos hk]
    simp
  | p::P,w::vs,i+1,m,nd,h1,h2,hk=>by
    show bindL kindOf ((p,w)::P.zip vs) m x=_
    unfold bindL
    exact bindL_get (i:=i) (List.nodup_cons.mp nd).2 (by simpa using h1) (by simpa using h2) hk
theorem bindC_get {kindOf:Str→Option NameKind}{x:Str}{v:Value}:∀ {P:List Str} {vs:List Value} {i:Nat} {m:Str→Option Value},P.Nodup→P[i]?=some x→vs[i]?=some v→kindOf x≠some .local →
    bindC kindOf (P.zip vs) m x=some v
  | [],_,_,_,_,h,_,_=>by simp at h
  | _::_,[],_,_,_,_,h,_=>by simp at h
  | p::P,w::vs,0,m,nd,h1,h2,hk=>by
    simp at h1 h2; subst h1; subst h2
    show bindC kindOf ((p,w)::P.zip vs) m p=_
    unfold bindC
    rw [bindC_out fun v hv=>(List.nodup_cons.mp nd).1 (List.of_mem_zip hv).1,if_neg hk]
    simp
  | p::P,w::vs,i+1,m,nd,h1,h2,hk=>by
    show bindC kindOf ((p,w)::P.zip vs) m x=_
    unfold bindC
    exact bindC_get (i:=i) (List.nodup_cons.mp nd).2 (by simpa using h1) (by simpa using h2) hk
def start (N:List Str)(vs:List V):St:=vs.map some++List.replicate (N.length - vs.length) none
def cxOf (CX:CXT)(P:Program)(w:World)(K:PySem.W.Frag)(mg:Str→Option Value)(base:Heap)(N:List Str)(qual:Str)(scope:Scope)(f:Addr)(cd:Value)(A:Around)(outer:List Env)(s:Shared)(H:Hp)(E:XK):Cx where
  prog:=P
  w:=w
  K:=K
  mg:=mg
  base:=base
  A:=A.deeper (envOfC qual scope s.heap.objs.size f cd)
  N:=N
  s₀:=s
  H₀:=H
  env:=envOfC qual scope s.heap.objs.size f cd
  outer:=outer
  stack:=envOfC qual scope s.heap.objs.size f cd::outer
  ex:=[]
  calm:=true
  fn:=fun _=>true
  pn:=[]
  xe:=fun e s'=>wpAny (model P w) (A.deeper (envOfC qual scope s.heap.objs.size f cd)) (leaving (envOfC qual scope s.heap.objs.size f cd) e) (fun _ s''=>CX outer H s E e s'') (fun e' s''=>CX outer H s E e' s'') s'
theorem cell_has {sc:Scope}{n:Nat}{x:Str}(h:sc.names.lookup x=some .cell):∃ c,(cellsFrom n sc.names []).lookup x=some c:=by
  have q:=PySem.W.cellsFrom_some sc.names n [] (.inl h)
  exact Option.isSome_iff_exists.mp q
theorem inv_start {CX:CXT}{P:Program}{w:World}{K:PySem.W.Frag}{mg:Str→Option Value}{base:Heap}{N ps:List Str}{qual:Str}{scope:Scope}{f:Addr}{cd:Value}{A:Around}{outer:List Env}{s s1:Shared}{H:Hp}{E:XK}{us:List Value}{vs:List V}
    (S:FnScope N ps scope) (hd:A.handled=none) (e0:Env0 P w K mg base A outer s H) (hl:vs.length=ps.length) (r:Vals vs us)
    (x:InCallC s s.heap.objs.size (bindL (envOfC qual scope s.heap.objs.size f cd).kindOf (ps.zip us) fun _=>none) (cellsFrom (s.heap.objs.size+1) scope.names []) (bindC (envOfC qual scope s.heap.objs.size f cd).kindOf (ps.zip us) fun _=>none) s1) :
    Inv (cxOf CX P w K mg base N qual scope f cd A outer s H E) [] (start N vs) H s1:=by
  have hpl:ps.length≤N.length:=by have:=congrArg List.length S.pre; rw [List.length_take] at this; omega
  obtain ⟨h1,tk,rfl,hk⟩:=x.done
  have noA:∀ b:Addr,b∉(cxOf CX P w K mg base N qual scope f cd A outer s H E).ex:=fun b z=>absurd (show b∈([]:List Addr) from z) (by simp)
  refine ⟨⟨e0.mod,S.kind,rfl,rfl,Nat.le_refl _,fun y z c h1 h2=>?_,fun y hy=>?_,fun y c _ h=>?_,fun _=>hd,Around.frames_deeper e0.frames,.inr ⟨rfl,rfl⟩,fun b z=>absurd z (noA b),e0.bs,e0.bsz,fun b _ _=>noA b,fun b z=>absurd z (noA b),e0.funs,e0.frf⟩,
    rfl,e0.bare,Un.kept hk,⟨_,x.toInCall.ns,fun i y v h1 h2 h3=>?_⟩,fun y c h=>⟨_,x.cell y c h⟩,e0.hok.fresh (Nat.le_refl _),fun y c h=>?_,fun p hp=>absurd (show p∈([]:List (Addr×Obj)) from hp) (by simp),e0.hok.kept hk,?_⟩
  · exact name_of_addr x.apart (PySem.mem_of_lookup h1) (PySem.mem_of_lookup h2)
  · have hy:scope.names.lookup y=some .cell∨scope.names.lookup y=some .free:=hy
    rcases hy with hy | hy
    · exact cell_has hy
    · exact absurd rfl (S.nofree _ (PySem.mem_of_lookup hy))
  · exact Nat.le_of_lt (x.above y c (PySem.mem_of_lookup h))
  · have hi:i<vs.length:=by
      unfold start at h2
      by_cases hi:i<vs.length
      · exact hi
      · rw [List.getElem?_append_right (by simpa using hi)] at h2
        rw [List.getElem?_replicate] at h2
        split at h2 <;> cases h2
    have ha:vs[i]?=some v:=by
      unfold start at h2
      rw [List.getElem?_append_left (by simpa using hi),List.getElem?_map] at h2
      cases e:vs[i]? with
      | none=>rw [e] at h2; cases h2
      | some a=>rw [e] at h2; cases h2; rfl
    obtain ⟨u,hu,rv⟩:=r.get ha
    have hp:ps[i]?=some y:=by
      rw [← S.pre,List.getElem?_take_of_lt (by omega)]; exact h1
    have ndP:ps.Nodup:=by rw [← S.pre]; exact S.nd.sublist (List.take_sublist _ _)
    refine ⟨u,rv,?_⟩
    rcases S.par y (List.mem_of_getElem? hp) with k | k
    · exact .inl ⟨k,bindL_get ndP hp hu k⟩
    · obtain ⟨c,e⟩:=cell_has (n:=s.heap.objs.size+1) k
      refine .inr ⟨.inl k,c,e,?_⟩
      have q:=x.cell y c e
      rw [bindC_get ndP hp hu (by show scope.names.lookup y≠_; rw [k]; decide)] at q
      exact q
  · exact e0.hok.fresh (Nat.le_of_lt (x.above y c (PySem.mem_of_lookup h)))
  · unfold start
    show _=N.length
    rw [List.length_append,List.length_map,List.length_replicate]
    omega
theorem fn_of {CX:CXT}{P:Program}{w:World}{K:PySem.W.Frag}{mg:Str→Option Value}{base:Heap}{k:Nat}{f:Addr}{name qual:Str}{params:Arguments}{body:List Stmt}{scope:Scope}{dV kV doc pm cdv ct oc:Value}{an od:Option Addr}
    {osl:Array (Option Value)} {N ps:List Str} {sp:Sp} (lk:K.lookup f=some ⟨oc,od,.func (PySem.W.fnOf name qual params body scope dV kV doc pm an cdv ct),osl⟩) (hcd:PySem.W.codeIn K cdv qual=true) (S:FnScope N ps scope)
    (len:∀ vs H Q E,sp vs H Q E→vs.length=ps.length)
    (hbody:∀ (A:Around) (outer:List Env) (s:Shared) (H:Hp) (vs:List V) (Q:VK) (E:XK),Room k (A.deeper (envOfC qual scope s.heap.objs.size f cdv))→sp vs H Q E →
      ∃ t,PSs (cxOf CX P w K mg base N qual scope f cdv A outer s H E) body t∧t { nx:=fun _ H'=>Q .non H',rt:=Q } (start N vs) H) :
    FnOk P w K mg base CX (k+1) f (PySem.W.fnOf name qual params body scope dV kV doc pm an cdv ct) ps sp:=by
  refine ⟨len,fun A outer s H args us vs Q E hr e0 hb r hsp=>?_⟩
  have hl:=len _ _ _ _ hsp
  have KX:K.In s.heap:=e0.mod.kin.keeps fun b o e=>(e0.bs b o e).1
  have lim:s.heap.NoLimit:=e0.mod.nolimit.keeps fun b o e=>(e0.bs b o e).1
  have hkind:∀ y∈ps.zip us,scope.names.lookup y.1=some .local∨(scope.names.lookup y.1=some .cell∧((cellsFrom (s.heap.objs.size+1) scope.names []).lookup y.1).isSome=true):=fun ⟨n,v⟩ hy=>by
    rcases S.par n (List.of_mem_zip hy).1 with q | q
    · exact .inl q
    · exact .inr ⟨q,PySem.W.cellsFrom_some _ _ _ (.inl q)⟩
  refine codeAny_call_function hr.depth (KX _ _ lk) rfl S.co S.gen rfl (PySem.W.codeRec_of KX hcd) (hb _ _ _ _ ?_)
  refine wpAny_newFunctionEnv_cells S.kind hkind fun env he s1 x=>?_
  subst he
  refine ⟨lim.keeps x.toInCall.keep,codeAny_func ?_⟩
  obtain ⟨t,ht,hq⟩:=hbody A outer s H vs Q E (hr.deeper _) hsp
  have I:Inv (cxOf CX P w K mg base N qual scope f cdv A outer s H E) [] (start N vs) H s1:=inv_start S hr.hd e0 hl r x
  refine wpAny_mono (ht [] s1 (start N vs) H _ I hq) (fun fl s' hs=>?_) fun e s' hs=>hs
  have fin:∀ {σ':St} {H':Hp} {v:V} {u:Value},Inv (cxOf CX P w K mg base N qual scope f cdv A outer s H E) [] σ' H' s'→RelV v u→Q v H'→CE outer P w H s Q u s' :=
    fun {σ' H' v u} J rv q=>⟨v,H',J.os,J.bare,J.base,J.hok,rv,q⟩
  cases fl with
  | ret u =>
    obtain ⟨v,σ',H',J,rv,q⟩:=hs
    exact fin J rv q
  | next =>
    obtain ⟨σ',H',J,q⟩:=hs
    exact fin (v:=V.non) (u:=Value.none) J rfl q
  | brk =>
    obtain ⟨_,_,_,q⟩:=hs
    exact False.elim q
  | cont =>
    obtain ⟨_,_,_,q⟩:=hs
    exact False.elim q
end L2
namespace L2
open PySem PySem.Spec PyProof.Rows
section
variable {X:Cx}{x:Str}{p pos:Pos}{e:Expr}{es:List Expr}{t:TA}{id T:String}{r:List V→Hp→VK→Prop}
def tCB (r:List V→Hp→VK→Prop)(t:TA):TE:=fun σ H Q=>t σ H fun vs H1=>r vs H1 Q
theorem pe_callB (hc:CallR X (.builtin id) r)(hg:Gl X x)(hm:X.mg x=none)(hv:bootBuiltins x=some (.builtin id))(ha:PA X (e::es) t)(hn:x≠"__name__":=by decide)(hdb:(x == ("__debug__":Str))=false:=by decide)
    (he:starEach (e::es) X.env=(false,eval e X.env)::starEach es X.env:=by rfl) (hpl:(backTo pos (starEach es X.env)).any (·.1)=false:=by rfl):PE X (.Call (.Name x p) (e::es) [] pos) (tCB r t):=by
  intro pins s σ H Q I h
  refine wpAny_Call_Name_kw (ld_blt I hg hm hv ?_ hn hdb)
  exact PyProof.Rows.callWith_builtin1 (thn (ha pos pins s σ H _ I h) fun us s1 ⟨vs,H1,I1,r1,q1⟩=>hc pins s1 σ H1 vs us Q I1 r1 q1) he hpl
theorem pe_callTy (hc:CallR X (.type T) r)(hg:Gl X x)(hm:X.mg x=none)(hv:bootBuiltins x=some (.type T))(ha:PA X (e::es) t)(hn:x≠"__name__":=by decide)(hdb:(x == ("__debug__":Str))=false:=by decide)
    (he:starEach (e::es) X.env=(false,eval e X.env)::starEach es X.env:=by rfl) (hpl:(backTo pos (starEach es X.env)).any (·.1)=false:=by rfl):PE X (.Call (.Name x p) (e::es) [] pos) (tCB r t):=by
  intro pins s σ H Q I h
  refine wpAny_Call_Name_kw (ld_blt I hg hm hv ?_ hn hdb)
  exact PyProof.Rows.callWith_type1 (thn (ha pos pins s σ H _ I h) fun us s1 ⟨vs,H1,I1,r1,q1⟩=>hc pins s1 σ H1 vs us Q I1 r1 q1) he hpl
end
end L2
namespace HT
open PySem PyProof.Rows
section
open PySem.SeqAt
open PySem.AutoSeq1 (wpAny_loadPart')
open PySem.MeetsSeq PySem.MeetsSeq2 PySem.MeetsSeq3
end
section
variable {prog:Program}{w:World}{A:Around}{E:Value→Shared→Prop}{s:Shared}
def sIx (n d:Nat):Option Int→Nat
  | none=>d
  | some v=>if v<0 then (v+(n:Int)).toNat else min v.toNat n
theorem sIx_none (n d:Nat):sIx n d none=d:=rfl
theorem sIx_nat (n d k:Nat):sIx n d (some (k:Int))=min k n:=by
  show (if (k:Int)<0 then ((k:Int)+(n:Int)).toNat else min (k:Int).toNat n)=min k n
  rw [if_neg (by omega),Int.toNat_natCast]
end
end HT
namespace L2
open PySem PySem.Spec PyProof.Rows
abbrev TO:=St→Hp→(Option Int→Hp→Prop)→Prop
def PO (X:Cx)(e:Option Expr)(t:TO):Prop :=
  ∀ (pins:List (Addr×Obj)) (s:Shared) (σ:St) (H:Hp) (Q:Option Int→Hp→Prop),Inv X pins σ H s→t σ H Q →
    wpAny (model X.prog X.w) X.A (evalPart e X.env) (fun u s'=>∃ o H',Inv X pins σ H' s'∧IsPart u o∧Q o H') X.xe s
def tNoPart:TO:=fun _ H Q=>Q none H
def tPart (t:TE):TO:=fun σ H Q=>t σ H fun x H1=>∃ i,x=.int i∧Q (some i) H1
section
variable {X:Cx}{e:Expr}{te:TE}{lo hi:Option Expr}{tl th:TO}{pos p2:Pos}
theorem po_none:PO X none tNoPart:=by
  intro pins s σ H Q I h
  rw [evalPart_none]
  exact wpAny_pure ⟨none,H,I,.none,h⟩
theorem po_some (h:PE X e te):PO X (some e) (tPart te):=by
  intro pins s σ H Q I hw
  rw [evalPart_some]
  refine thn (h pins s σ H _ I hw) fun u s1 ⟨x,H1,I1,r1,q1⟩=>?_
  obtain ⟨i,rfl,q⟩:=q1
  obtain ⟨t,rfl⟩:=r1
  exact ⟨some i,H1,I1,.int i t,q⟩
def SlR (X:Cx)(r:V→Option Int→Option Int→Hp→VK→Prop):Prop :=
  ∀ (pins:List (Addr×Obj)) (s:Shared) (σ:St) (H:Hp) (x:V) (v vl vu:Value) (lo hi:Option Int) (sl:Addr) (Q:VK),Inv X pins σ H s→RelV x v→s.heap.IsSliceOf sl vl vu .none→IsPart vl lo→IsPart vu hi→r x lo hi H Q →
    ∃ T id,typeLookup (.type T) "__getitem__"=pure (some (.builtin id))∧s.TypeIs v T∧wpAny (model X.prog X.w) X.A (getItem v (.ref sl)) (EP X pins σ Q) X.xe s
def tSl (r:V→Option Int→Option Int→Hp→VK→Prop)(te:TE)(tl th:TO):TE:=fun σ H Q=>te σ H fun x H1=>tl σ H1 fun l H2=>th σ H2 fun u H3=>r x l u H3 Q
theorem pe_slice {r:V→Option Int→Option Int→Hp→VK→Prop}(hr:SlR X r)(he:PE X e te)(hl:PO X lo tl)(hu:PO X hi th):PE X (.Subscript e (.Slice lo hi none p2) pos) (tSl r te tl th):=by
  intro pins s σ H Q I h
  refine Subscript_ (thn (he pins s σ H _ I h) fun v s1 ⟨x,H1,I1,r1,q1⟩=>?_)
  refine wpAny_Slice (thn (hl pins s1 σ H1 _ I1 q1) fun vl s2 ⟨l,H2,I2,pl,q2⟩=>thn (hu pins s2 σ H2 _ I2 q2) fun vu s3 ⟨u,H3,I3,pu,q3⟩=>?_)
  rw [evalPart_none]
  refine wpAny_pure ?_
  have I4:Inv X pins σ H3 { s3 with heap:=s3.heap.push { cls:=.type "slice",data:=.fields #[vl,vu,.none] } }:=I3.kept (t':=s3.toks) fun b ob q=>Heap.get?_push_of_some _ q
  obtain ⟨T,id,hT,ht,hg⟩:=hr pins { s3 with heap:=s3.heap.push { cls:=.type "slice",data:=.fields #[vl,vu,.none] } } σ H3 x v vl vu l u s3.heap.objs.size Q I4 r1 (Heap.IsSliceOf.new ..) pl pu q3
  show wpAny (model X.prog X.w) X.A (subscriptTail e (.Slice lo hi none p2) v (.ref s3.heap.objs.size)) (EP X pins σ Q) X.xe { s3 with heap:=s3.heap.push { cls:=.type "slice",data:=.fields #[vl,vu,.none] } }
  exact tail_any (ops:=[.ref s3.heap.objs.size,v]) ht hT hg (by with_unfolding_all rfl)
def cutV (xs:List V)(lo hi:Option Int):List V:=(xs.drop (HT.sIx xs.length 0 lo)).take (HT.sIx xs.length xs.length hi - HT.sIx xs.length 0 lo)
theorem cutV_length (xs:List V)(lo hi:Option Int):(cutV xs lo hi).length≤xs.length:=by
  unfold cutV
  rw [List.length_take,List.length_drop]
  omega
end
end L2
namespace L2
open PySem PySem.Spec PyProof.Rows
def ixN (n:Nat)(i:Int):Option Nat:=if 0≤i then (if i<n then some i.toNat else none) else if -(n:Int)≤i then some (i+n).toNat else none
def atI {α:Type}(xs:List α)(i:Int):Option α:=(ixN xs.length i).bind fun j=>xs[j]?
theorem ixN_seq {n:Nat}{i:Int}{j:Nat}(h:ixN n i=some j):seqIndex? i n=some j∧j<n∧-(n:Int)≤i∧i<n:=by
  unfold ixN at h
  by_cases h0:0≤i
  · rw [if_pos h0] at h
    by_cases h1:i<n
    · rw [if_pos h1] at h
      have e:i.toNat=j:=Option.some.inj h
      exact ⟨by rw [seqIndex_of h0 h1,e],by omega,by omega,h1⟩
    · rw [if_neg h1] at h; cases h
  · rw [if_neg h0] at h
    by_cases h1:-(n:Int)≤i
    · rw [if_pos h1] at h
      have e:(i+n).toNat=j:=Option.some.inj h
      exact ⟨by rw [seqIndex_neg (by omega) h1,e],by omega,h1,by omega⟩
    · rw [if_neg h1] at h; cases h
theorem atI_get {α:Type}{xs:List α}{i:Int}{v:α}(h:atI xs i=some v):∃ j,seqIndex? i xs.length=some j∧xs[j]?=some v∧j<xs.length∧-(xs.length:Int)≤i∧i<xs.length:=by
  unfold atI at h
  cases e:ixN xs.length i with
  | none=>rw [e] at h; cases h
  | some j =>
    rw [e] at h
    obtain ⟨h1,h2,h3,h4⟩:=ixN_seq e
    exact ⟨j,h1,h,h2,h3,h4⟩
theorem atI_nat {α:Type}{xs:List α}{j:Nat}{v:α}(h:xs[j]?=some v):atI xs (j:Int)=some v:=by
  have hj:j<xs.length:=(List.getElem?_eq_some_iff.mp h).1
  have e:ixN xs.length (j:Int)=some j:=by
    unfold ixN
    rw [if_pos (by omega),if_pos (by omega)]; simp
  unfold atI; rw [e]; exact h
def PlainIx (b:Expr):Prop:=∀ o i,subscripted b false o i=operate [o,i] (getItem o i)
def IxR (X:Cx)(r:R2):Prop :=
  ∀ (value slice:Expr) (pins:List (Addr×Obj)) (s:Shared) (σ:St) (H:Hp) (x y:V) (v u:Value) (Q:VK),Inv X pins σ H s→RelV x v→RelV y u→r x y H Q →
    subscripted slice false v u=operate [v,u] (getItem v u)→wpAny (model X.prog X.w) X.A (subscriptTail value slice v u) (EP X pins σ Q) X.xe s
def MtR (X:Cx)(id:String)(r:V→List V→Hp→VK→Prop):Prop :=
  ∀ (pins:List (Addr×Obj)) (s:Shared) (σ:St) (H:Hp) (x:V) (xs:List V) (v:Value) (us:List Value) (Q:VK),Inv X pins σ H s→RelV x v→Vals xs us→r x xs H Q →
    wpAny (model X.prog X.w) X.A (call (.builtin id) (v::us)) (EP X pins σ Q) X.xe s
section
variable {X:Cx}{a b:Expr}{ta tb:TE}{pos:Pos}
theorem pe_ix {r:R2}(hr:IxR X r)(ha:PE X a ta)(hb:PE X b tb)(hs:PlainIx b):PE X (.Subscript a b pos) (tOp r ta tb):=by
  intro pins s σ H Q I h
  exact Subscript_ (binT ha hb I h fun v u s2 x y H2 I2 rx ry q=>hr a b pins s2 σ H2 x y v u Q I2 rx ry q (hs _ _))
def rIxL (K:PySem.W.Frag):R2:=fun x y H Q=>∃ p xs i v,x=.ref p∧y=.int i∧SqL K H p xs∧atI xs i=some v∧Q v H
def rIxT (K:PySem.W.Frag):R2:=fun x y H Q=>∃ p xs i v,x=.ref p∧y=.int i∧SqT K H p xs∧atI xs i=some v∧Q v H
def rIxS:R2:=fun x y H Q=>∃ z i c,x=.str z∧y=.int i∧z.length≤sizeLine∧atI z.cps.toList i=some c∧Q (.str ⟨#[c]⟩) H
theorem ix_list:IxR X (rIxL X.K):=by
  intro value slice pins s σ H x y v u Q I rx ry h hs
  obtain ⟨p,xs,i,z,rfl,rfl,hq,he,q⟩:=h
  cases rx
  obtain ⟨t,rfl⟩:=ry
  obtain ⟨its,r,pl,hz⟩:=I.list hq
  obtain ⟨j,h1,h2,h3,h4,h5⟩:=atI_get he
  obtain ⟨w,ew,rw'⟩:=r.get h2
  have hl:=r.length
  have hn:=line63
  have fin:EP X pins σ Q w s:=⟨z,H,I,rw',q⟩
  by_cases h0:0≤i
  · have hj:i.toNat=j:=by
      rw [seqIndex_of h0 h5] at h1
      exact Option.some.inj h1
    exact item_listR pl.isList h0 (by omega) (by rw [hj]; simpa using ew) fin hs
  · have hj:(i+(its.toArray.size:Int)).toNat=j:=by
      rw [seqIndex_neg (by omega) h4] at h1
      rw [List.size_toArray,← hl]
      exact Option.some.inj h1
    exact subscriptTail_builtinR (x:=w) pl.isList.typeIs slot_list_getitem.lookup
      (wpAny_getItem_list_neg (Q:=fun r s'=>r=w∧EP X pins σ Q r s') pl.isList (by omega) (by rw [List.size_toArray] <;> omega) (by omega) (by rw [hj]; simpa using ew) ⟨rfl,fin⟩) hs
theorem ix_tup:IxR X (rIxT X.K):=by
  intro value slice pins s σ H x y v u Q I rx ry h hs
  obtain ⟨p,xs,i,z,rfl,rfl,hq,he,q⟩:=h
  cases rx
  obtain ⟨t,rfl⟩:=ry
  obtain ⟨its,r,pl,hz⟩:=I.tuple hq
  obtain ⟨j,h1,h2,h3,h4,h5⟩:=atI_get he
  obtain ⟨w,ew,rw'⟩:=r.get h2
  have hl:=r.length
  have hn:=line63
  have fin:EP X pins σ Q w s:=⟨z,H,I,rw',q⟩
  exact subscriptTail_builtinR (x:=w) pl.typeIs slot_tuple_getitem.lookup
    (getItem_tuple (j:=j) (Q:=fun r s'=>r=w∧EP X pins σ Q r s') pl (by omega) (by omega) (by rw [List.size_toArray,← hl]; exact h1) (by simpa using ew) ⟨rfl,fin⟩) hs
theorem ix_str:IxR X rIxS:=by
  intro value slice pins s σ H x y v u Q I rx ry h hs
  obtain ⟨z,i,c,rfl,rfl,hz,he,q⟩:=h
  obtain ⟨t,rfl⟩:=rx
  obtain ⟨t',rfl⟩:=ry
  obtain ⟨j,h1,h2,h3,h4,h5⟩:=atI_get he
  have hl:z.cps.toList.length=z.length:=by simp [Str.length]
  rw [hl] at h1 h4 h5
  have hn:=line63
  exact tail_any (typeIs_str s z t) slot_str_getitem.lookup (getItem_str (c:=c) (by
    have e1:decide (i < -(2 ^ 63:Int))=false:=decide_eq_false (by omega)
    have e2:decide (i ≥ 2 ^ 63)=false:=decide_eq_false (by omega)
    rw [e1,e2,Bool.or_false]) (by rw [h1]; simpa using h2) ⟨.str ⟨#[c]⟩,H,I.tok _,⟨_,rfl⟩,q⟩) hs
theorem mapSeq_set (its:List Value)(n j:Nat)(u:Value):Obj.mapSeq (·.setIfInBounds j u) { cls:=.type "list",data:=.seq its.toArray n }={ cls:=.type "list",data:=.seq (its.set j u).toArray n }:=by
  simp [Obj.mapSeq]
theorem Inv.lst {pins:List (Addr×Obj)}{σ:St}{H:Hp}{s:Shared}{p:Addr}{xs:List V}(I:Inv X pins σ H s)(h:H p=some (.lst xs)) :
    ∃ (its:List Value) (n:Nat),Vals xs its∧s.heap.get? p=some { cls:=.type "list",data:=.seq its.toArray n }∧xs.length≤sizeLine:=by
  obtain ⟨z,its,n,r,e⟩:=I.hok p _ h
  exact ⟨its,n,r,e,z⟩
theorem Inv.lstUpd {pins:List (Addr×Obj)}{σ:St}{H:Hp}{s:Shared}{p:Addr}{xs ys:List V}{its its':List Value}{n n':Nat}{f:Obj→Obj}(I:Inv X pins σ H s)(h:H p=some (.lst xs))
    (ho:s.heap.get? p=some { cls:=.type "list",data:=.seq its.toArray n }) (hf:f { cls:=.type "list",data:=.seq its.toArray n }={ cls:=.type "list",data:=.seq its'.toArray n' }) (r:Vals ys its') (hz:ys.length≤sizeLine) (t:Nat) :
    Inv X pins σ (upd H p (.lst ys)) { s with heap:=s.heap.update p f,toks:=t }:=by
  have e:(s.heap.update p f).get? p=some { cls:=.type "list",data:=.seq its'.toArray n' }:=by
    rw [Heap.get?_update_self f ho (by rw [hf] <;> rfl),hf]
  refine I.write (x:=p) (e:=p) (by rw [h]; trivial) (.inl rfl) (fun b u hb q=>(Heap.get?_update_other _ _ (Ne.symm hb)).trans q) ⟨_,e⟩ ?_
  exact ⟨hz,its',n',r,e⟩
def rSetL:V→V→V→Hp→(Hp→Prop)→Prop:=fun o i v H Q=>∃ p xs k j,o=.ref p∧i=.int k∧H p=some (.lst xs)∧ixN xs.length k=some j∧Q (upd H p (.lst (xs.set j v)))
theorem set_list:PSet X rSetL:=by
  intro pins s σ H o i v ov iv u Q I ro ri rv h
  obtain ⟨p,xs,k,j,rfl,rfl,hp,hj,q⟩:=h
  cases ro
  obtain ⟨t,rfl⟩:=ri
  obtain ⟨its,n,r,ho,hz⟩:=I.lst hp
  obtain ⟨h1,h2,h3,h4⟩:=ixN_seq hj
  have hl:=r.length
  have hn:=line63
  have I':Inv X pins σ (upd H p (.lst (xs.set j v))) { s with heap:=s.heap.update p (Obj.mapSeq (·.setIfInBounds j u)) } :=
    I.lstUpd hp ho (mapSeq_set its n j u) (r.set rv j) (by rw [List.length_set]; exact hz) s.toks
  by_cases h0:0≤k
  · have hk:k.toNat=j:=by
      rw [seqIndex_of h0 h4] at h1
      exact Option.some.inj h1
    exact PySem.W.ki_setAt ho h0 (by omega) (by rw [List.size_toArray,← hl]; exact h4) (by rw [hk]; exact ⟨_,I',q⟩)
  · have hk:(k+(its.toArray.size:Int)).toNat=j:=by
      rw [seqIndex_neg (by omega) h3] at h1
      rw [List.size_toArray,← hl]
      exact Option.some.inj h1
    exact PySem.W.ki_setBack ho (by omega) (by rw [List.size_toArray,← hl]; exact h3) (by omega) (by rw [hk]; exact ⟨_,I',q⟩)
theorem slice_bounds (lo hi:Option Int)(n:Nat):(sliceBounds lo hi none n).1=((HT.sIx n 0 lo:Nat):Int)∧(sliceBounds lo hi none n).2.1=((HT.sIx n n hi:Nat):Int)∧(sliceBounds lo hi none n).2.2=1:=by
  refine ⟨?_,?_,rfl⟩
  · cases lo with
    | none=>simp [sliceBounds,HT.sIx]
    | some i =>
      simp only [sliceBounds,HT.sIx,Option.getD_none,show (1:Int) > 0 by decide,if_true]
      by_cases h:i<0
      · simp only [h,if_true] <;> omega
      · simp only [h,if_false] <;> omega
  · cases hi with
    | none=>simp [sliceBounds,HT.sIx]
    | some i =>
      simp only [sliceBounds,HT.sIx,Option.getD_none,show (1:Int) > 0 by decide,if_true]
      by_cases h:i<0
      · simp only [h,if_true] <;> omega
      · simp only [h,if_false] <;> omega
theorem slicePick_cut (its:List Value)(lo hi:Option Int):slicePick its.toArray lo hi none=((its.drop (HT.sIx its.length 0 lo)).take (HT.sIx its.length its.length hi - HT.sIx its.length 0 lo)).toArray:=by
  obtain ⟨h1,h2,h3⟩:=slice_bounds lo hi its.toArray.size
  unfold slicePick
  rw [h1,h2,h3]
  simp only [sliceRange_one,pick_run,List.size_toArray] <;> rfl
def rSlL (K:PySem.W.Frag):V→Option Int→Option Int→Hp→VK→Prop:=fun x lo hi H Q=>∃ a xs,x=.ref a∧SqL K H a xs∧∀ p,H p=none→Q (.ref p) (upd H p (.lst (cutV xs lo hi)))
theorem sl_list:SlR X (rSlL X.K):=by
  intro pins s σ H x v vl vu lo hi sl Q I rx hs pl pu h
  obtain ⟨a,xs,rfl,hx,q⟩:=h
  cases rx
  obtain ⟨its,r,ht,hz⟩:=I.list hx
  have hlen:=r.length
  refine ⟨"list",_,slot_list_getitem.lookup,ht.isList.typeIs,?_⟩
  refine wpAny_getItem_list_slice ht.isList hs pl pu .none (by simp) ?_ (by rw [List.size_toArray] <;> omega)
  rw [slicePick_cut,← hlen]
  refine ⟨.ref s.heap.objs.size,_,I.laid (t':=s.toks) (o:=.lst (cutV xs lo hi)) (fun b ob q=>Heap.get?_push_of_some _ q) (Nat.le_refl _) ?_,rfl,q _ (I.hok.fresh (Nat.le_refl _))⟩
  exact ⟨Nat.le_trans (cutV_length xs lo hi) hz,_,0,(r.drop (HT.sIx xs.length 0 lo)).take (HT.sIx xs.length xs.length hi - HT.sIx xs.length 0 lo),Heap.get?_push_size _ rfl⟩
def flatV:V→Bool
  | .non=>true
  | .bl _=>true
  | .int _=>true
  | .str _=>true
  | _=>false
def eqV:V→V→Bool
  | .non,.non=>true
  | .bl a,.bl b=>a == b
  | .bl a,.int b=>(if a then 1 else 0) == b
  | .int a,.bl b=>a == (if b then 1 else 0)
  | .int a,.int b=>a == b
  | .str a,.str b=>a == b
  | _,_=>false
theorem eqAt_V {A:Around}{s:Shared}{y x:V}{u v:Value}(ry:RelV y u)(rx:RelV x v)(fy:flatV y=true)(fx:flatV x=true):SeqAt.EqAt A s u v (eqV y x):=by
  cases y with
  | non =>
    cases ry
    cases x with
    | non=>cases rx; exact SeqAt.EqAt.same _
    | bl b=>cases rx; exact SeqAt.EqAt.none_bool b
    | int b=>obtain ⟨t,rfl⟩:=rx; exact SeqAt.EqAt.none_int b t
    | str b=>obtain ⟨t,rfl⟩:=rx; exact SeqAt.EqAt.none_str b t
    | _=>exact absurd (show false=true from fx) Bool.false_ne_true
  | bl a =>
    cases ry
    cases x with
    | non=>cases rx; exact SeqAt.EqAt.bool_none a
    | bl b=>cases rx; exact SeqAt.EqAt.bool_bool a b
    | int b=>obtain ⟨t,rfl⟩:=rx; exact SeqAt.EqAt.bool_int a b t
    | str b=>obtain ⟨t,rfl⟩:=rx; exact SeqAt.EqAt.bool_str a b t
    | _=>exact absurd (show false=true from fx) Bool.false_ne_true
  | int a =>
    obtain ⟨t',rfl⟩:=ry
    cases x with
    | non=>cases rx; exact SeqAt.EqAt.int_none a t'
    | bl b=>cases rx; exact SeqAt.EqAt.int_bool a t' b
    | int b=>obtain ⟨t,rfl⟩:=rx; exact SeqAt.EqAt.int_int a t' b t
    | str b=>obtain ⟨t,rfl⟩:=rx; exact SeqAt.EqAt.int_str a t' b t
    | _=>exact absurd (show false=true from fx) Bool.false_ne_true
  | str a =>
    obtain ⟨t',rfl⟩:=ry
    cases x with
    | non=>cases rx; exact SeqAt.EqAt.str_none a t'
    | bl b=>cases rx; exact SeqAt.EqAt.str_bool a t' b
    | int b=>obtain ⟨t,rfl⟩:=rx; exact SeqAt.EqAt.str_int a t' b t
    | str b=>obtain ⟨t,rfl⟩:=rx; exact SeqAt.EqAt.str_str a t' b t
    | _=>exact absurd (show false=true from fx) Bool.false_ne_true
  | _=>exact absurd (show false=true from fy) Bool.false_ne_true
def eqU (x:V)(u:Value):Bool:=match u with
  | .none=>eqV .non x
  | .bool b=>eqV (.bl b) x
  | .int i _=>eqV (.int i) x
  | .str z _=>eqV (.str z) x
  | _=>false
theorem eqU_of {x y:V}{u:Value}(r:RelV y u)(f:flatV y=true):eqU x u=eqV y x:=by
  cases y with
  | non=>cases r; rfl
  | bl b=>cases r; rfl
  | int i=>obtain ⟨t,rfl⟩:=r; rfl
  | str z=>obtain ⟨t,rfl⟩:=r; rfl
  | _=>exact absurd (show false=true from f) Bool.false_ne_true
theorem any_eqU {x:V}:∀ {xs:List V} {us:List Value},Vals xs us→xs.all flatV=true→us.any (eqU x)=xs.any fun y=>eqV y x
  | _,_,.nil,_=>rfl
  | y::xs,u::us,.cons r t,f=>by
    rw [List.all_cons,Bool.and_eq_true] at f
    rw [List.any_cons,List.any_cons,eqU_of r f.1,any_eqU t f.2]
theorem mem_eqAt {A:Around}{s:Shared}{x:V}{v:Value}(rx:RelV x v)(fx:flatV x=true):∀ {xs:List V} {us:List Value},Vals xs us→xs.all flatV=true→∀ u∈us,SeqAt.EqAt A s u v (eqU x u)
  | _,_,.nil,_=>fun u hu=>by cases hu
  | y::xs,u::us,.cons r t,f=>fun u' hu=>by
    rw [List.all_cons,Bool.and_eq_true] at f
    rcases List.mem_cons.mp hu with rfl | hu
    · rw [eqU_of r f.1]; exact eqAt_V r rx f.1 fx
    · exact mem_eqAt rx fx t f.2 u' hu
def inV (x:V)(xs:List V):Bool:=xs.any fun y=>eqV y x
def rIn (K:PySem.W.Frag)(neg:Bool):R2:=fun x y H Q=>∃ p xs,y=.ref p∧(SqL K H p xs∨SqT K H p xs)∧flatV x=true∧xs.all flatV=true∧Q (.bl (if neg then !inV x xs else inV x xs)) H
theorem op_in_seq:OpR X (compareOp .In) (rIn X.K false):=by
  intro pins s σ H x y v u Q I rx ry h
  obtain ⟨p,xs,rfl,hq,fx,fs,q⟩:=h
  cases ry
  rcases hq with hq | hq
  · obtain ⟨its,r,pl,hz⟩:=I.list hq
    refine SeqAt.in_listAt (eqU x) pl.isList (fun w hw=>mem_eqAt rx fx r fs w (by simpa using hw)) ⟨.bl _,H,I,rfl,?_⟩
    rw [show its.toArray.any (eqU x)=its.any (eqU x) by simp,any_eqU r fs]
    exact q
  · obtain ⟨its,r,pl,hz⟩:=I.tuple hq
    refine SeqAt.in_tupleAt (eqU x) pl (fun w hw=>mem_eqAt rx fx r fs w (by simpa using hw)) ⟨.bl _,H,I,rfl,?_⟩
    rw [show its.toArray.any (eqU x)=its.any (eqU x) by simp,any_eqU r fs]
    exact q
theorem op_notIn_seq:OpR X (compareOp .NotIn) (rIn X.K true):=by
  intro pins s σ H x y v u Q I rx ry h
  obtain ⟨p,xs,rfl,hq,fx,fs,q⟩:=h
  cases ry
  rcases hq with hq | hq
  · obtain ⟨its,r,pl,hz⟩:=I.list hq
    refine SeqAt.notIn_listAt (eqU x) pl.isList (fun w hw=>mem_eqAt rx fx r fs w (by simpa using hw)) ⟨.bl _,H,I,rfl,?_⟩
    rw [show its.toArray.any (eqU x)=its.any (eqU x) by simp,any_eqU r fs]
    exact q
  · obtain ⟨its,r,pl,hz⟩:=I.tuple hq
    refine SeqAt.notIn_tupleAt (eqU x) pl (fun w hw=>mem_eqAt rx fx r fs w (by simpa using hw)) ⟨.bl _,H,I,rfl,?_⟩
    rw [show its.toArray.any (eqU x)=its.any (eqU x) by simp,any_eqU r fs]
    exact q
theorem call_len_seq:CallR X (.builtin "len") (fun xs H Q=>∃ p ys,xs=[.ref p]∧(SqL X.K H p ys∨SqT X.K H p ys)∧Q (.int ys.length) H):=by
  intro pins s σ H xs us Q I r h
  obtain ⟨p,ys,rfl,hq,q⟩:=h
  obtain ⟨u,rfl,rx⟩:=vals1 r
  cases rx
  have hn:=line63
  rcases hq with hq | hq
  · obtain ⟨its,r',pl,hz⟩:=I.list hq
    have hlen:=r'.length
    exact Calls.call_len_list pl.isList (by simp only [List.size_toArray] <;> omega) ⟨.int ys.length,H,I.tok _,⟨s.toks+1,by rw [List.size_toArray,hlen]⟩,q⟩
  · obtain ⟨its,r',pl,hz⟩:=I.tuple hq
    have hlen:=r'.length
    exact len_tuple pl (by simp only [List.size_toArray] <;> omega) ⟨.int ys.length,H,I.tok _,⟨s.toks+1,by rw [List.size_toArray,hlen]⟩,q⟩
theorem call_list_of:CallR X (.type "list") (fun xs H Q=>∃ p ys,xs=[.ref p]∧(SqL X.K H p ys∨SqT X.K H p ys)∧∀ l,H l=none→Q (.ref l) (upd H l (.lst ys))):=by
  intro pins s σ H xs us Q I r h
  obtain ⟨p,ys,rfl,hq,q⟩:=h
  obtain ⟨u,rfl,rx⟩:=vals1 r
  cases rx
  have fin:∀ (its:List Value),Vals ys its→ys.length≤sizeLine→∀ (h':Heap) (c':Nat),(∀ b o',s.heap.get? b=some o'→h'.get? b=some o') →
      h'.get? s.heap.objs.size=some { cls:=.type "list",dict:=none,data:=.seq its.toArray c',slots:=#[] }→EP X pins σ Q (.ref s.heap.objs.size) { s with heap:=h' }:=fun its r' hz h' c' kp e =>
    ⟨.ref s.heap.objs.size,_,I.laid (t':=s.toks) kp (Nat.le_refl _) (show ObjOk X.prog X.w _ h' _ (.lst ys) from ⟨hz,its,c',r',e⟩),rfl,q _ (I.hok.fresh (Nat.le_refl _))⟩
  rcases hq with hq | hq
  · obtain ⟨its,r',pl,hz⟩:=I.list hq
    have hlen:=r'.length
    obtain ⟨o,ho,hc,n,hd⟩:=pl.isList
    exact call_list_seq p (.inl rfl) ho hc hd (fun h' c' kp e=>fin its r' hz h' c' kp e) (by simp only [List.size_toArray] <;> omega)
  · obtain ⟨its,r',pl,hz⟩:=I.tuple hq
    have hlen:=r'.length
    obtain ⟨o,ho,hc,n,hd⟩:=pl
    exact call_list_seq p (.inr rfl) ho hc hd (fun h' c' kp e=>fin its r' hz h' c' kp e) (by simp only [List.size_toArray] <;> omega)
theorem call_tuple_of:CallR X (.type "tuple") (fun xs H Q=>∃ p ys,xs=[.ref p]∧((SqL X.K H p ys∧∀ l,H l=none→Q (.ref l) (upd H l (.tup ys)))∨(SqT X.K H p ys∧Q (.ref p) H))):=by
  intro pins s σ H xs us Q I r h
  obtain ⟨p,ys,rfl,h⟩:=h
  obtain ⟨u,rfl,rx⟩:=vals1 r
  cases rx
  rcases h with ⟨hq,q⟩ | ⟨hq,q⟩
  · obtain ⟨its,r',pl,hz⟩:=I.list hq
    have hlen:=r'.length
    refine call_tuple_list pl.isList (fun h' kp=>?_) (by simp only [List.size_toArray] <;> omega)
    have I1:Inv X pins σ H { s with heap:=h' }:=I.kept (t':=s.toks) kp
    have I2:Inv X pins σ (upd H h'.objs.size (.tup ys)) { s with heap:=h'.push { cls:=.type "tuple",data:=.seq its.toArray } } :=
      I1.laid (t':=s.toks) (fun b o e=>Heap.get?_push_of_some _ e) (Nat.le_refl _) (show ObjOk X.prog X.w _ _ _ (.tup ys) from ⟨hz,its,r',IsTup.new _ _⟩)
    exact ⟨.ref h'.objs.size,_,I2,rfl,q _ (I1.hok.fresh (Nat.le_refl _))⟩
  · obtain ⟨its,r',pl,hz⟩:=I.tuple hq
    exact call_tuple_same pl ⟨.ref p,H,I,rfl,q⟩
def tyV (K:PySem.W.Frag)(T:String)(x:V)(H:Hp):Prop:=match x with
  | .str _=>T="str"
  | .int _=>T="int"
  | .ref p=>(T="list"∧∃ xs,SqL K H p xs)∨(T="tuple"∧∃ o,K.lookup p=some o∧o.cls=.type "tuple"∧o.dict=none) ∨
      (T="dict"∧((∃ kvs,H p=some (.dK kvs))∨∃ kvs,H p=some (.dT kvs)))∨(T="set"∧∃ S n,H p=some (.set S n))
  | _=>False
theorem tyV_is {pins:List (Addr×Obj)}{σ:St}{H:Hp}{s:Shared}{T:String}{x:V}{v:Value}(I:Inv X pins σ H s)(r:RelV x v)(ty:tyV X.K T x H) :
    s.TypeIs v T∧∀ a,v=.ref a→∃ ob,s.heap.get? a=some ob∧ob.dict=none:=by
  cases x with
  | str z =>
    obtain ⟨t,rfl⟩:=r
    cases (show T="str" from ty)
    exact ⟨typeIs_str s z t,fun _ e=>nomatch e⟩
  | int i =>
    obtain ⟨t,rfl⟩:=r
    cases (show T="int" from ty)
    exact ⟨typeIs_int s i t,fun _ e=>nomatch e⟩
  | ref p =>
    cases r
    rcases ty with ⟨rfl,xs,hq⟩ | ⟨rfl,o,hk,hc,hd⟩ | ⟨rfl,hk⟩ | ⟨rfl,S,n,hk⟩
    · obtain ⟨its,_,pl,_⟩:=I.list hq
      refine ⟨pl.isList.typeIs,fun a e=>?_⟩
      cases e
      obtain ⟨o,n,e,c,hd,_⟩:=pl
      exact ⟨o,e,hd⟩
    · refine ⟨⟨o,I.kIn p o hk,hc⟩,fun a e=>?_⟩
      cases e
      exact ⟨o,I.kIn _ o hk,hd⟩
    · have z:∃ o,s.heap.get? p=some o∧o.ExactDict:=by
        rcases hk with ⟨kvs,hk⟩ | ⟨kvs,hk⟩
        · obtain ⟨_,_,_,_,o,_,_,e,ex,_⟩:=I.hok p _ hk
          exact ⟨o,e,ex⟩
        · obtain ⟨_,_,_,_,o,_,_,e,ex,_⟩:=I.hok p _ hk
          exact ⟨o,e,ex⟩
      obtain ⟨o,e,ex⟩:=z
      refine ⟨⟨o,e,ex.1⟩,fun a e2=>?_⟩
      cases e2
      exact ⟨o,e,ex.2.1⟩
    · obtain ⟨o,_,_,_,e,ex,_⟩:=I.hok p _ hk
      refine ⟨⟨o,e,ex.1⟩,fun a e2=>?_⟩
      cases e2
      exact ⟨o,e,ex.2.1⟩
  | _=>exact False.elim ty
def tBM (K:PySem.W.Frag)(T:String)(r:V→List V→Hp→VK→Prop)(to:TE)(t:TA):TE:=fun σ H Q=>to σ H fun x H1=>tyV K T x H1∧t σ H1 fun xs H2=>r x xs H2 Q
variable {o e:Expr}{es:List Expr}{to:TE}{t:TA}{name:Str}{apos cpos:Pos}{T id:String}{r:V→List V→Hp→VK→Prop}
theorem pe_bm (pa:PlainAttrs T)(slot:Slot T name id)(hty:typeOf (.builtin id)=pure (.type "method_descriptor"))(hm:MtR X id r)(ho:PE X o to)(ha:PA X (e::es) t)
    (hbase:attributeBase o name X.env (eval o X.env)=eval o X.env:=by rfl)
    (hfew:((backTo cpos (starEach (e::es) X.env)).all (fun x=>!x.1) && (backToKw cpos (keywordEach [] X.env)).all (fun x=>x.1.isSome)
      && decide ((e::es).length+([]:List Keyword).length+(if ([]:List Keyword).isEmpty then 0 else 1)<30))=true:=by rfl)
    (hline:(apos.endLine == cpos.line)=true:=by rfl) (hs:starEach (e::es) X.env=(false,eval e X.env)::starEach es X.env:=by rfl) (hplain:(backTo cpos (starEach es X.env)).any (·.1)=false:=by rfl) :
    PE X (.Call (.Attribute o name apos) (e::es) [] cpos) (tBM X.K T r to t):=by
  intro pins s σ H Q I h
  refine wpAny_Call_method_late hbase hfew hline rfl (thn (ho pins s σ H _ I h) fun v s1 ⟨x,H1,I1,r1,ty,q1⟩=>?_)
  obtain ⟨h1,h2⟩:=tyV_is I1 r1 ty
  refine ⟨T,id,pa,slot,hty,h1,h2,?_⟩
  have hA:=ha cpos pins s1 σ H1 _ I1 q1
  rw [hs] at hA ⊢
  refine Calls.callWith_builtin (by show (false || (backTo cpos (starEach es X.env)).any (·.1))=false; rw [hplain] <;> rfl) (Calls.evalArgs_plain ?_)
  exact thn hA fun us s2 ⟨vs,H2,I2,r2,q2⟩=>hm pins s2 σ H2 x vs v us Q I2 r1 r2 q2
/- xs.append(e),list.index on a module's tuple .. are MtR facts of 06m -/
end
end L2
namespace L2
open PySem PySem.Spec PyProof.Rows
def MtM (X:Cx)(id:String)(r:V→List V→Hp→VK→Prop):Prop :=
  ∀ (pins:List (Addr×Obj)) (s:Shared) (σ:St) (H:Hp) (x:V) (xs:List V) (v:Value) (us:List Value) (Q:VK),Inv X pins σ H s→RelV x v→Vals xs us→r x xs H Q →
    wpAny (model X.prog X.w) X.A (call (.builtin id) (v::us)) (EP X pins σ Q) X.xe s
theorem Vals.one:∀ {x:V} {us:List Value},Vals [x] us→∃ u,us=[u]∧RelV x u
  | _,_,.cons r .nil=>⟨_,rfl,r⟩
theorem Vals.two:∀ {x y:V} {us:List Value},Vals [x,y] us→∃ u v,us=[u,v]∧RelV x u∧RelV y v
  | _,_,_,.cons r (.cons q .nil)=>⟨_,_,rfl,r,q⟩
section
variable {X:Cx}{pins:List (Addr×Obj)}{σ:St}{H:Hp}{s:Shared}{l b:Addr}{xs ys zs:List V}
theorem Inv.lset {its its':List Value}{n:Nat}{f:Array Value→Array Value}{t':Nat}(I:Inv X pins σ H s)(hH:H l=some (.lst xs))
    (e:s.heap.get? l=some { cls:=.type "list",data:=.seq its.toArray n }) (hf:f its.toArray=its'.toArray) (hv:Vals ys its') (hz:ys.length≤sizeLine) :
    Inv X pins σ (upd H l (.lst ys)) { s with heap:=s.heap.update l (Obj.mapSeq f),toks:=t' }:=by
  have q:=PySem.IsL.update e f
  rw [hf] at q
  refine I.write (x:=l) (e:=l) (by rw [hH]; exact trivial) (.inl rfl) (fun b' u hb hu=>(Heap.get?_update_other s.heap (Obj.mapSeq f) (Ne.symm hb)).trans hu) ⟨_,q⟩ ?_
  exact ⟨hz,its',_,hv,q⟩
theorem Inv.lnew {its:List Value}{t':Nat}(I:Inv X pins σ H s)(hv:Vals ys its)(hz:ys.length≤sizeLine) :
    Inv X pins σ (upd H s.heap.objs.size (.lst ys)) { s with heap:=s.heap.push { cls:=.type "list",data:=.seq its.toArray },toks:=t' } :=
  I.laid (fun _ _ q=>Heap.get?_push_of_some _ q) (Nat.le_refl _) ⟨hz,its,0,hv,Heap.get?_push_size _ rfl⟩
theorem Inv.fresh (I:Inv X pins σ H s):H s.heap.objs.size=none:=I.hok.fresh (Nat.le_refl _)
theorem Inv.lstM (I:Inv X pins σ H s)(hH:H l=some (.lst xs)):xs.length≤sizeLine∧∃ (its:List Value) (n:Nat),Vals xs its∧xs.length=its.length∧s.heap.get? l=some { cls:=.type "list",data:=.seq its.toArray n }:=by
  obtain ⟨z,its,n,r,e⟩:=I.hok l _ hH
  exact ⟨z,its,n,r,r.length,e⟩
end
section
variable {X:Cx}
def rAppend:V→List V→Hp→VK→Prop:=fun x vs H Q=>∃ l xs y,x=.ref l∧vs=[y]∧H l=some (.lst xs)∧xs.length<sizeLine∧Q .non (upd H l (.lst (xs++[y])))
theorem mt_append:MtM X "list.append" rAppend:=by
  intro pins s σ H x vs v us Q I rx rv h
  obtain ⟨l,xs,y,rfl,rfl,hH,hz,q⟩:=h
  cases rx
  obtain ⟨u,rfl,ru⟩:=rv.one
  obtain ⟨z,its,n,r,hl,e⟩:=I.lstM hH
  refine call_meets F.slot_list_append ⟨_,e,rfl⟩ F.entry_list_append (F.args_list_append_2 _ _) (PySem.list_append l its.toArray n u (by rw [List.size_toArray]; omega)) ⟨e,?_⟩
  refine ⟨.non,_,I.lset (its':=its++[u]) hH e (by simp) (r.append (.cons ru .nil)) ?_,rfl,q⟩
  rw [List.length_append,List.length_singleton]
  omega
end
section
variable {prog:Program}{w:World}{A:Around}{E:Value→Shared→Prop}{s:Shared}
set_option maxRecDepth 100000 in
end
section
variable {X:Cx}
end
end L2
namespace Att
open PySem PySem.W PySem.Calls PyProof.Rows
theorem ints_of_wellAll {P:Params}{h:Heap}:∀ (ns:List Int) (vs:List Value),WellAll P h vs (ns.map WData.int)→IntsAre vs ns:=by
  intro ns
  induction ns with
  | nil =>
    intro vs w
    rw [List.map_nil] at w
    cases w
    exact .nil
  | cons n ns ih =>
    intro vs w
    rw [List.map_cons] at w
    cases w with
    | cons a b =>
      cases a
      exact .cons _ _ (ih _ b)
theorem script_of {l:OpenLaw}{n:Nat}(hn:l.most=some n){P:Params}{h:Heap}{args:List WData}{vals:List Value}
    (hpre:l.row.toRowW.claim.pre args=true) (hwl:WellAll P h vals args) :
    ∃ a vs ns,vals=[Value.ref a]∧args=[WData.list (ns.map WData.int)]∧h.get? a=some { cls:=.type "list",data:=.seq vs.toArray }∧IntsAre vs ns∧ns.length≤n:=by
  have hsh:WShape.hasAll [] args [.list .int]=true:=(pre_splitW hpre).1
  have hc:l.pre.holds [] { args:=args }=true:=(pre_splitW hpre).2
  obtain ⟨d,r,rfl,h1,h2⟩:=hasAllW_cons hsh
  obtain rfl:=hasAllW_nil h2
  obtain ⟨xs,rfl,h3⟩:=hasW_list h1
  obtain ⟨ns,rfl⟩:=items_int h3
  have hlen:ns.length≤n:=by
    unfold OpenLaw.pre at hc
    have h4:(WTm.not (.lt (.lit (.int (n:Int))) (.len (.arg 0)))).holds [] { args:=[.list (ns.map .int)] }=true:=by
      have h4:=(holds_andW hc).1
      rw [hn] at h4
      exact h4
    have h5:=condW_of h4 (w_not (w_lt w_lit (w_len_list (w_arg rfl))))
    rw [List.length_map] at h5
    refine Nat.le_of_not_lt fun q=>?_
    have q':(n:Int)<((ns.length:Nat):Int):=by omega
    first
      | (rw [decide_eq_true q'] at h5; exact absurd h5 (by decide))
      | (simp at h5; omega)
  cases hwl with
  | cons w1 w2 =>
    cases w2
    cases w1 with
    | list ho hall=>exact ⟨_,_,ns,rfl,rfl,ho,ints_of_wellAll ns _ hall,hlen⟩
theorem post_true (l:OpenLaw)(args:List WData):l.row.toRowW.claim.post args (.bool true) args=true :=
  postW_of (r:=l.row.toRowW) (X:=(true == true))
    (show WShape.has [] (.bool true) .bool=true by first | rfl | decide | simp [WShape.has,WShape.arms,WShape.armsAll])
    (show (WTm.eq .res (.lit (.bool true))).value [] { args:=args,res:=some (.bool true),after:=args }=some (.bool (true == true)) from w_eq_bool (w_res rfl) w_lit) rfl
theorem attach_call {l:OpenLaw}{n:Nat}{q:Program}{loose:List Str}{XP:(Str→Option Value)→Heap→Prop}{YP:World→Heap→Prop}{d:DefRec}
    (hn:l.most=some n) (hdf:d.params.defaults=[])
    (call:∀ (w:World) (s₀ s₁:Shared) (mg mb:Str→Option Value) (fa:Addr) (o:Obj) (pm cd doc:Value) (a:Addr) (vs:List Value) (ns:List Int),
      Ground q loose [] XP w s₀ mg mb s₁.heap→YP w s₁.heap →
      s₁.heap.get? fa=some o→o.data=.func (docDef d.name d.params d.body d.scope pm cd doc)→s₁.heap.CodeRec cd d.name→mg d.name=some (.ref fa) →
      s₁.heap.get? a=some { cls:=.type "list",data:=.seq vs.toArray }→IntsAre vs ns→ns.length≤n→s₁.gens=#[] →
      codeAny (model l.prog w) callerA (.call (.ref fa) ⟨[.ref a],[]⟩) (fun r s'=>r=.ok (.ret (.bool true))∧OldK s₁.heap s'.heap∧s'.os=s₁.os∧AllBare s'.gens) s₁) :
    WalkO q loose XP YP l.row.toRowW d [] (fun f vs=>PySem.call f vs):=by
  intro w s₀ s₁ mg mb G Y fa o pm cd doc dV kV ho hd hcd hD hmg hg args vals as hpre hlay hrd hwl hlo
  obtain rfl:dV=.none:=Dflts.none hD hdf
  obtain rfl:kV=.none:=Dflts.noKw hD
  obtain ⟨a,vs,ns,rfl,rfl,hobj,hints,hlen⟩:=script_of hn hpre hwl
  refine enter_call (codeAny_mono (call w s₀ s₁ mg mb fa o pm cd doc a vs ns G Y ho (fd_plain hd) hcd hmg hobj hints hlen hg) fun r s' hq=>?_)
  obtain ⟨rfl,h2,h3,h4⟩:=hq
  exact ⟨.inl ⟨.bool true,.bool true,[],rfl,fun _=>rfl,.bool true,post_true l _,fun _=>⟨List.Pairwise.nil,fun _ hm=>(nomatch hm)⟩⟩,h2,h3,h4⟩
section
variable {prog:Program}{w:World}{A:Around}{E:Value→Shared→Prop}{s:Shared}{K:Frag}
end
end Att
namespace L2
open PySem PySem.Spec PyProof.Rows
theorem vals_ints:∀ {vs:List Value} {ns:List Int},IntsAre vs ns→Vals (ns.map V.int) vs
  | _,_,.nil=>.nil
  | _,_,.cons n t h=>.cons ⟨t,rfl⟩ (vals_ints h)
def Only (H:Hp):Prop:=∀ b,H b=none∨∃ o xs,H b=some (.frz o (.lst xs))
theorem law_call {P:Program}{w:World}{K:PySem.W.Frag}{mg mb:Str→Option Value}{CX:CXT}{k:Nat}{fa a:Addr}{fd:FuncData}{x:Str}{sp:Sp}{s₁:Shared}{vs:List Value}{ns:List Int}
    (KX:K.In s₁.heap) (hns:s₁.heap.Ns mainGlobals mg) (hb:s₁.heap.Ns builtinsNs mb) (hbb:∀ x:Str,x≠"__name__"→mb x=bootBuiltins x) (hlim:s₁.heap.NoLimit) (hg:s₁.gens=#[])
    (ha:s₁.heap.get? a=some { cls:=.type "list",data:=.seq vs.toArray }) (hi:IntsAre vs ns) (hl:ns.length≤sizeLine) (hr:Room k callerA)
    (F:∀ base:Heap,K.In base→base.Ns mainGlobals mg→FnOk P w K mg base CX k fa fd [x] sp) (hbind:∀ (s:Shared) (u:Value),BindsTo s fd ⟨[u],[]⟩ [(x,u)])
    (hsp:∀ H:Hp,Only H→SqL K H a (ns.map V.int)→sp [.ref a] H (fun v _=>v=.bl true) fun _ _ _=>False)
    (hCX:∀ H e s',CX [] H s₁ (fun _ _ _=>False) e s'→False) :
    codeAny (model P w) callerA (.call (.ref fa) ⟨[.ref a],[]⟩) (fun r s'=>r=.ok (.ret (.bool true))∧OldK s₁.heap s'.heap∧s'.os=s₁.os∧AllBare s'.gens) s₁:=by
  have rv:=vals_ints hi
  have lenV:=hi.length
  -- from an abstract heap in which nothing but the script may be tracked
  have core:∀ H:Hp,Only H→SqL K H a (ns.map V.int)→HOk P w H s₁.heap→(∀ b,H b≠none→b=a)→(H a≠none→K.lookup a=none) →
      codeAny (model P w) callerA (.call (.ref fa) ⟨[.ref a],[]⟩) (fun r s'=>r=.ok (.ret (.bool true))∧OldK s₁.heap s'.heap∧s'.os=s₁.os∧AllBare s'.gens) s₁:=by
    intro H hO hS hok hA hK
    have base_of:∀ {b:Addr} {o:Obj},s₁.heap.get? b=some o→H b=none→(hidT s₁.heap H).get? b=some o:=fun e n=>hidT_get e n
    have noA:∀ {b:Addr} {o:Obj} {es:Array DictEntry} {ep:Nat},s₁.heap.get? b=some o→o.data=.dict es ep→H b=none:=fun {b o es ep} e d=>by
      cases q:H b with
      | none=>rfl
      | some u =>
        have e':b=a:=hA b (by rw [q]; simp)
        subst e'
        rw [ha] at e; cases e
        have d':Data.seq vs.toArray _=Data.dict es ep:=d
        cases d'
    have nsK:∀ {b:Addr} {m:Str→Option Value},s₁.heap.Ns b m→(hidT s₁.heap H).Ns b m:=fun {b m} ⟨o,es,ep,e,d,r⟩=>⟨o,es,ep,base_of e (noA e d),d,r⟩
    have hKb:K.In (hidT s₁.heap H):=fun b o e=>base_of (KX b o e) (by
      cases q:H b with
      | none=>rfl
      | some u =>
        have e':b=a:=hA b (by rw [q]; simp)
        subst e'
        rw [hK (by rw [q]; simp)] at e; cases e)
    have hM:Mod K mg (hidT s₁.heap H):=⟨hKb,nsK hns,⟨mb,nsK hb,hbb⟩,let ⟨mc,h1,h2⟩:=hlim; ⟨mc,nsK h1,h2⟩⟩
    have e0:Env0 P w K mg (hidT s₁.heap H) callerA [] s₁ H:=⟨rfl,hM,fun b o e=>of_hidT e,Nat.le_of_eq (hidT_size _ _),trivial,fun b hb=>absurd (show b∈([]:List Addr) from hb) (by simp),hok,.of_eq hg⟩
    refine codeAny_mono ((F _ hKb (nsK hns)).run callerA [] s₁ H ⟨[.ref a],[]⟩ [.ref a] [.ref a] _ _ hr e0 (hbind s₁ (.ref a)) (.cons rfl .nil) (hsp H hO hS)) fun r s' h=>?_
    cases r with
    | error e=>exact (hCX H e s' h).elim
    | ok fl =>
      cases fl with
      | next=>exact False.elim h
      | brk=>exact False.elim h
      | cont=>exact False.elim h
      | ret u =>
        obtain ⟨v,H',os,bare,un,hok',r',q⟩:=h
        have q':v=.bl true:=q
        subst q'
        obtain rfl:u=Value.bool true:=r'
        refine ⟨rfl,OldK.of_keep fun b o e=>?_,os,bare⟩
        cases q:H b with
        | none=>exact un.keep b o e q (by intro z; exact absurd (show b∈([]:List Addr) from z) (by simp)) (by simp)
        | some u =>
          rcases hO b with z | ⟨ob,xs,z⟩
          · rw [q] at z; cases z
          · have z2:=un.frzs b ob _ z
            obtain ⟨e1,_⟩:=hok b _ z
            obtain ⟨e2,_⟩:=hok' b _ z2
            rw [e] at e1; cases e1
            exact e2
  cases hk:K.lookup a with
  | some o =>
    -- the script is one of the module's own objects
    have e:=KX a o hk
    rw [ha] at e
    cases e
    refine core (fun _=>none) (fun _=>.inl rfl) (.inr ⟨_,vs.toArray,_,hk,rfl,rfl,rfl,by rw [List.size_toArray,lenV]; exact hl,by simpa using rv⟩) (fun b u z=>by have z':(none:Option HO)=some u:=z; cases z') (fun b z=>absurd rfl z) fun z=>absurd rfl z
  | none =>
    refine core (fun b=>if b=a then some (.frz { cls:=.type "list",data:=.seq vs.toArray } (.lst (ns.map V.int))) else none) (fun b=>?_) (.inl (.inr ⟨{ cls:=.type "list",data:=.seq vs.toArray },if_pos rfl⟩)) (fun b u z=>?_) (fun b z=>?_) fun _=>hk
    · by_cases hb:b=a
      · exact .inr ⟨_,_,if_pos hb⟩
      · exact .inl (if_neg hb)
    · by_cases hb:b=a
      · have z':=(if_pos hb).symm.trans z
        cases z'
        subst hb
        exact ⟨ha,by rw [List.length_map]; exact hl,vs,_,rv,ha⟩
      · have z':=(if_neg hb).symm.trans z
        cases z'
    · by_cases hb:b=a
      · exact hb
      · exact absurd (if_neg hb) z
end L2
namespace L2
open PySem PySem.Spec PyProof.Rows
theorem walk_of {l:PySem.W.OpenLaw}{n k:Nat}{q:Program}{loose:List Str}{XP:(Str→Option Value)→Heap→Prop}{YP:World→Heap→Prop}{d:DefRec}{K:Params→PySem.W.Frag}{CX:World→CXT}{sp:World→Sp}{x:Str}
    (hn:l.most=some n) (hn2:n≤sizeLine) (hdf:d.params.defaults=[]) (hr:Room k callerA)
    (hY:∀ (w:World) (h:Heap),YP w h→(K w.params).In h)
    (F:∀ (w:World) (mg:Str→Option Value) (fa:Addr) (h:Heap),(K w.params).In h→h.Ns mainGlobals mg→mg d.name=some (.ref fa) →
      ∃ fd:FuncData,(∀ (s:Shared) (u:Value),BindsTo s fd ⟨[u],[]⟩ [(x,u)]) ∧
        ∀ base:Heap,(K w.params).In base→base.Ns mainGlobals mg→FnOk l.prog w (K w.params) mg base (CX w) k fa fd [x] (sp w))
    (hsp:∀ (w:World) (H:Hp) (a:Addr) (ns:List Int),ns.length≤n→Only H→SqL (K w.params) H a (ns.map V.int)→sp w [.ref a] H (fun v _=>v=.bl true) fun _ _ _=>False)
    (hCX:∀ (w:World) (H:Hp) (s:Shared) (e:Value) (s':Shared),CX w [] H s (fun _ _ _=>False) e s'→False) :
    PySem.W.WalkO q loose XP YP l.row.toRowW d [] (fun f vs=>PySem.call f vs):=by
  refine Att.attach_call hn hdf fun w s₀ s₁ mg mb fa o pm cd doc a vs ns G Y ho hd hcd hmg hobj hints hlen hg=>?_
  have KX:=hY w _ Y
  obtain ⟨fd,hb,hF⟩:=F w mg fa _ KX G.T.g hmg
  exact law_call KX G.T.g G.T.b G.T.builtins G.T.nolimit hg hobj hints (Nat.le_trans hlen hn2) hr hF hb (fun H hO hS=>hsp w H a ns hlen hO hS) fun H e s'=>hCX w H s₁ e s'
end L2
/- THE LAST THEOREM (shape; LID,My.* are yours):
   My.Adr: a structure of the addresses that your layer names (classes,functions); My.Txt K t: a structure (Prop) of the equations over K;
   My.txt_mk:{K} {implicit addresses ..} (e1:nsIn K mainGlobals "law"=some (some (.ref f))) (e2:K.lookup f=some ⟨oc,od,.func (fnOf "law" "law" params body scope dV kV doc pm an cdv ct),sl⟩) (e3:codeIn K cdv "law"=true) ..:∃ t,My.Txt K t
set_option maxRecDepth 100000 in
set_option maxHeartbeats 0 in
theorem PySem.Challenge.cw_LID_holds : PySem.Challenge.rw_LID.Holds := by
  w_on; o_law; k_head; (case hw=>w_witness2)
  k_fill
  refine L2.walk_of (l:=PySem.Challenge.rw_LID) (n:=63) (k:=40) (x:="script") (CX:=fun w=>..) (sp:=fun _=>My.sp_law) rfl (by decide) rfl ⟨rfl,by decide,by decide⟩ (fun w h Y=>PySem.W.kIn_of Y) ?F ?S ?C
  case F =>
    intro w mg fa h KX G hmg
    have T:∃ t,My.Txt (L2.KOf KX) t:=by
      dsimp only [L2.KOf]                          -- K must stand as «<heap const> w.params» for k_is
      refine' My.txt_mk ?e1 ?e2 ?e3 ..
      (case e1=>PySem.W.k_is)                    -- in the order: a name -> its address -> its object -> its parts
      (case e2=>PySem.W.k_is)
      ..
    obtain ⟨t,T⟩:=T
    have e0:=hmg.symm.trans (PySem.W.mg_of KX G T.law)
    cases e0                                       -- fa is the law's own address
    exact ⟨_,fun s u=>.of_eq rfl,fun base kb nb=>My.law_fn T kb nb⟩     -- if «.of_eq rfl» comes too early: refine' ⟨_,?b,fun base kb nb=>My.law_fn T kb nb⟩; exact fun s u=>.of_eq rfl
  case S=>exact fun w H a ns hl hO hS=>..
  case C=>exact ..
(the tactic k_is has no namespace: write k_is) -/
namespace L2
open PySem PySem.Spec PyProof.Rows
def inClass (s:Stmt)(j:Nat):Stmt:=match s with
  | .ClassDef _ _ _ body _ _ _ _ _ _ _=>body.getD j (.Pass ⟨0,0,0,0⟩)
  | _=>.Pass ⟨0,0,0,0⟩
def defArgs (s:Stmt):Arguments:=match s with
  | .FunctionDef _ a _ _ _ _ _ _ _ _=>a
  | _=>{ posonlyargs:=[],args:=[],vararg:=none,kwonlyargs:=[],kw_defaults:=[],kwarg:=none,defaults:=[] }
def defBody (s:Stmt):List Stmt:=match s with
  | .FunctionDef _ _ b _ _ _ _ _ _ _=>b
  | _=>[]
def defScope (s:Stmt):Scope:=match s with
  | .FunctionDef _ _ _ _ _ _ sc _ _ _=>sc
  | _=>{ kind:=.function,names:=[],isGenerator:=false,isCoroutine:=false }
abbrev CX0:CXT:=fun _ _ _ _ _ _=>False
abbrev E0:XK:=fun _ _ _=>False
theorem pass0 {X:Cx}:Passes CX0 X E0:=fun _ _ _ _ _ _ _ h=>h.elim
structure Fun (K:PySem.W.Frag)(x qual:Str)(st:Stmt)(f:Addr)(fd:FuncData):Prop where
  ex:∃ (oc:Value) (od:Option Addr) (kV doc pm:Value) (an:Option Addr) (cdv ct:Value) (osl:Array (Option Value)),
    fd=PySem.W.fnOf x qual (defArgs st) (defBody st) (defScope st) .none kV doc pm an cdv ct∧K.lookup f=some ⟨oc,od,.func fd,osl⟩∧PySem.W.codeIn K cdv qual=true
  kp:PySem.W.keepIn K (.ref f)=true
section
variable {P:Program}{w:World}{K:PySem.W.Frag}{mg:Str→Option Value}{base:Heap}
theorem Fun.ok {x qual:Str}{st:Stmt}{f:Addr}{fd:FuncData}{N ps:List Str}{k:Nat}{sp:Sp}(F:Fun K x qual st f fd)(S:FnScope N ps (defScope st))(len:∀ vs H Q E,sp vs H Q E→vs.length=ps.length)
    (hbody:∀ (cdv:Value) (A:Around) (outer:List Env) (s:Shared) (H:Hp) (vs:List V) (Q:VK) (E:XK),Room k (A.deeper (envOfC qual (defScope st) s.heap.objs.size f cdv))→sp vs H Q E →
      ∃ t,PSs (cxOf CX0 P w K mg base N qual (defScope st) f cdv A outer s H E).nox (defBody st) t∧t { nx:=fun _ H'=>Q .non H',rt:=Q } (start N vs) H):FnOk P w K mg base CX0 (k+1) f fd ps sp:=by
  obtain ⟨oc,od,kV,doc,pm,an,cdv,ct,osl,rfl,lk,hcd⟩:=F.ex
  refine fn_of lk hcd S len fun A outer s H vs Q E hr hsp=>?_
  obtain ⟨t,h,q⟩:=hbody cdv A outer s H vs Q E hr hsp
  exact ⟨t,h.nox,q⟩
theorem Fun.binds {x qual:Str}{st:Stmt}{f:Addr}{fd:FuncData}{ps:List Str}(F:Fun K x qual st f fd)
    (h:∀ (kV doc pm:Value) (an:Option Addr) (cdv ct:Value) (us:List Value),us.length=ps.length→bindArgs (PySem.W.fnOf x qual (defArgs st) (defBody st) (defScope st) .none kV doc pm an cdv ct) ⟨us,[]⟩=pure (ps.zip us)):Binds K fd ps []:=by
  obtain ⟨oc,od,kV,doc,pm,an,cdv,ct,osl,rfl,lk,hcd⟩:=F.ex
  exact .all (h kV doc pm an cdv ct)
theorem fun_mk {x qual:Str}{st:Stmt}{f:Addr}{oc:Value}{od an:Option Addr}{osl:Array (Option Value)}{kV doc pm cdv ct:Value}(l:K.lookup f=some ⟨oc,od,.func (PySem.W.fnOf x qual (defArgs st) (defBody st) (defScope st) .none kV doc pm an cdv ct),osl⟩)
    (c:PySem.W.codeIn K cdv qual=true) (k:PySem.W.keepIn K (.ref f)=true):Fun K x qual st f (PySem.W.fnOf x qual (defArgs st) (defBody st) (defScope st) .none kV doc pm an cdv ct):=⟨⟨oc,od,kV,doc,pm,an,cdv,ct,osl,rfl,l,c⟩,k⟩
end
theorem hu_of {A:Around}{k:Nat}(hr:Room k A):A.units+1<cLine:=Nat.lt_of_le_of_lt (Nat.add_le_add_left (by decide:1≤64) _) hr.units
theorem small1000 {n:Nat}(h:n≤1000):n<sizeLine:=Nat.lt_of_le_of_lt h (by decide)
section
variable {X:Cx}
theorem pv (i:Nat){x:Str}{pos:Pos}(hN:X.N[i]?=some x:=by rfl)(hv:Vis X.env.scope x:=by first | exact Or.inl rfl | exact Or.inr (Or.inl rfl) | exact Or.inr (Or.inr rfl))(hd:(x == ("__debug__":Str))=false:=by decide)
    (hcd:(x == ("__classdict__":Str))=false:=by decide):PE X (.Name x pos) (tVar i):=pe_var hN hv hd hcd
end
def Same (H H':Hp):Prop:=∀ b o,H b=some o→H' b=some o
theorem Same.refl (H:Hp):Same H H:=fun _ _ h=>h
theorem Same.trans {H H1 H2:Hp}(a:Same H H1)(b:Same H1 H2):Same H H2:=fun c o h=>b c o (a c o h)
theorem Same.free {H H':Hp}(e:Same H H'){l:Addr}(h:H' l=Option.none):H l=Option.none:=by
  cases q:H l with
  | none=>rfl
  | some o =>
    rw [e l o q] at h
    cases h
theorem Same.seq {K:PySem.W.Frag}{H H':Hp}{a:Addr}{xs:List V}(e:Same H H')(h:SqL K H a xs):SqL K H' a xs:=by
  rcases h with (h | ⟨o,h⟩) | h
  · exact .inl (.inl (e _ _ h))
  · exact .inl (.inr ⟨o,e _ _ h⟩)
  · exact .inr h
end L2
section
end
set_option maxHeartbeats 4000000
namespace Sv
open PySem PySem.Spec PyProof.Rows L2
section
variable {X:Cx}
def CDivW (_ j:Int):Prop:=0<j∧j<18446744073709551616
theorem op_divW:OpR X (binaryOp .FloorDiv) (rI CDivW fun i j=>.int (i / j)):=opI fun i j _ _ _ _ _ hc q=>by
 have p1:(0:Int)<j:=hc.1
 have p2:j<18446744073709551616:=hc.2
 have lg:j.natAbs.log2<9000:=by
  have a:j.natAbs≠0:=by omega
  have b:j.natAbs<2 ^ 64:=by omega
  have c:=(Nat.log2_lt a).mpr b
  omega
 refine floordiv_int (by omega) ?_ (.inl (PyProof.noPylong_of_log2 lg))
 rw [Int.fdiv_eq_ediv_of_nonneg i (by omega)]
 exact q
def Its (lo c:Int)(n:Nat):It:=⟨fun i _=>i<n,fun i H x H'=>H'=H∧x=.int (lo+(i:Int) * c),fun i _=>n≤i⟩
def evens (hi:Int):Nat:=((hi+1) / 2).toNat
def rIsi (K:PySem.W.Frag):List V→Hp→VK→Prop:=fun xs H Q=>∃ x T t b,xs=[x,.ty T]∧TyOf K H x t∧PySem.W.kitOne K t (.type T)=some b∧Q (.bl b) H
theorem call_isi:CallR X (.builtin "isinstance") (rIsi X.K):=by
 intro pins s σ H xs us Q I r h
 obtain ⟨x,T,t,b,rfl,ty,e,q⟩:=h
 obtain ⟨u,v,rfl,ru,rv⟩:=Vals.two r
 obtain rfl:v=Value.type T:=rv
 exact isinst_ok I ru ty e fun tk=>⟨.bl b,H,I.tok tk,rfl,q⟩
theorem kit_same (K:PySem.W.Frag)(T:String):PySem.W.kitOne K (.type T) (.type T)=some true:=by
 unfold PySem.W.kitOne
 rw [if_pos (beq_self_eq_true _)]
theorem kit_int_bool (K:PySem.W.Frag):PySem.W.kitOne K (.type "int") (.type "bool")=some false:=by
 first
 | decide +kernel
 | rfl
mutual
inductive Dt (H:Hp):V→PyData→Prop where
 | non:Dt H .non .none
 | bl (b:Bool):Dt H (.bl b) (.bool b)
 | int (i:Int):Dt H (.int i) (.int i)
 | str (x:Str):Dt H (.str x) (.str x)
 | tup {a:Addr} {xs:List V} {ds:List PyData} (e:Rd H a (.tup xs)) (r:Dts H xs ds):Dt H (.ref a) (.tuple ds)
 | lst {a:Addr} {xs:List V} {ds:List PyData} (e:Rd H a (.lst xs)) (r:Dts H xs ds):Dt H (.ref a) (.list ds)
inductive Dts (H:Hp):List V→List PyData→Prop where
 | nil:Dts H [] []
 | cons {x:V} {d:PyData} {xs:List V} {ds:List PyData} (h:Dt H x d) (t:Dts H xs ds):Dts H (x::xs) (d::ds)
end
mutual
theorem Dt.reads {pins:List (Addr×Obj)}{σ:L2.St}{H:Hp}{s:Shared}(I:Inv X pins σ H s):∀ {x:V} {d:PyData} {u:Value},Dt H x d→RelV x u→∃ as,Reads s.heap u d as
 | _,_,_,.non,r=>by cases r; exact ⟨_,.none⟩
 | _,_,_,.bl b,r=>by cases r; exact ⟨_,.bool b⟩
 | _,_,_,.int i,r=>by obtain ⟨t,rfl⟩:=r; exact ⟨_,.int i t⟩
 | _,_,_,.str x,r=>by obtain ⟨t,rfl⟩:=r; exact ⟨_,.str x t⟩
 | _,_,_,.tup e q,r=>by
  cases r
  obtain ⟨_,its,rv,o,h1,h2,n,h3⟩:=e.ok I.hok
  obtain ⟨as,ra⟩:=Dts.reads I q rv
  exact ⟨_,.tuple h1 h2 h3 (by simpa using ra)⟩
 | _,_,_,.lst e q,r=>by
  cases r
  obtain ⟨_,its,n,rv,h1⟩:=e.ok I.hok
  obtain ⟨as,ra⟩:=Dts.reads I q rv
  exact ⟨_,.list h1 rfl rfl (by simpa using ra)⟩
theorem Dts.reads {pins:List (Addr×Obj)}{σ:L2.St}{H:Hp}{s:Shared}(I:Inv X pins σ H s):∀ {xs:List V} {ds:List PyData} {us:List Value},Dts H xs ds→Vals xs us→∃ as,ReadsAll s.heap us ds as
 | _,_,_,.nil,r=>by cases r; exact ⟨_,.nil⟩
 | _,_,_,.cons h t,r=>by
  cases r with
  | cons r1 r2 =>
   obtain ⟨a1,q1⟩:=Dt.reads I h r1
   obtain ⟨a2,q2⟩:=Dts.reads I t r2
   exact ⟨_,.cons q1 q2⟩
end
def rEqD (neg:Bool):R2:=fun x y H Q=>∃ d e,Dt H x d∧Dt H y e∧SeqAt.shaped d=true∧SeqAt.shaped e=true∧Q (.bl (if neg then !PyData.eqv d e else PyData.eqv d e)) H
theorem op_eqD (hu:X.A.units+64<cLine):OpR X (compareOp .Eq) (rEqD false):=by
 intro pins s σ H x y v u Q I rx ry h
 obtain ⟨d,e,hd,he,sd,se,q⟩:=h
 obtain ⟨as,ra⟩:=hd.reads I rx
 obtain ⟨bs,rb⟩:=he.reads I ry
 exact SeqAt.eqOverData X.prog X.w X.A _ s v u d e as bs _ ra rb (SeqAt.canLay_of_shaped sd) (SeqAt.canLay_of_shaped se) (SeqAt.room_of_shaped sd hu) ⟨.bl _,H,I,rfl,q⟩
theorem op_neD (hu:X.A.units+64<cLine):OpR X (compareOp .NotEq) (rEqD true):=by
 intro pins s σ H x y v u Q I rx ry h
 obtain ⟨d,e,hd,he,sd,se,q⟩:=h
 obtain ⟨as,ra⟩:=hd.reads I rx
 obtain ⟨bs,rb⟩:=he.reads I ry
 exact SeqAt.neOverData X.prog X.w X.A _ s v u d e as bs _ ra rb (SeqAt.canLay_of_shaped sd) (SeqAt.canLay_of_shaped se) (SeqAt.room_of_shaped sd hu) ⟨.bl _,H,I,rfl,q⟩
end
end Sv
namespace Sv
open PySem PySem.Spec PyProof.Rows L2
def BrS (b:Bool)(f g:L2.St→Hp→Prop)(σ:L2.St)(H:Hp):Prop:=if b=true then f σ H else g σ H
def BrA (b:Bool)(u:TT)(σ:L2.St)(H:Hp)(Q:Bool→Hp→Prop):Prop:=if b=true then u σ H Q else Q false H
def BrO (b:Bool)(u:TT)(σ:L2.St)(H:Hp)(Q:Bool→Hp→Prop):Prop:=if b=true then Q true H else u σ H Q
def BrAV (b:Bool)(u:TE)(σ:L2.St)(H:Hp)(Q:VK):Prop:=if b=true then u σ H Q else Q (.bl false) H
section
variable {f g:L2.St→Hp→Prop}{σ:L2.St}{H:Hp}{u:TT}{ue:TE}{Q:Bool→Hp→Prop}{Qv:VK}{b:Bool}
theorem brS_t:BrS true f g σ H=f σ H:=rfl
theorem brS_f:BrS false f g σ H=g σ H:=rfl
theorem brA_t:BrA true u σ H Q=u σ H Q:=rfl
theorem brA_f:BrA false u σ H Q=Q false H:=rfl
theorem brO_t:BrO true u σ H Q=Q true H:=rfl
theorem brO_f:BrO false u σ H Q=u σ H Q:=rfl
theorem brAV_t:BrAV true ue σ H Qv=ue σ H Qv:=rfl
theorem brAV_f:BrAV false ue σ H Qv=Qv (.bl false) H:=rfl
theorem BrS.go (h1:b=true→f σ H)(h2:b=false→g σ H):BrS b f g σ H:=by
 cases b with
 | true=>exact h1 rfl
 | false=>exact h2 rfl
theorem BrS.dec {c:Prop} [Decidable c](h1:c→f σ H)(h2:¬ c→g σ H):BrS (decide c) f g σ H :=
 BrS.go (fun e=>h1 (of_decide_eq_true e)) fun e=>h2 (of_decide_eq_false e)
theorem BrA.dec {c:Prop} [Decidable c](h1:c→u σ H Q)(h2:¬ c→Q false H):BrA (decide c) u σ H Q:=by
 by_cases z:c
 ·rw [decide_eq_true z]; exact h1 z
 ·rw [decide_eq_false z]; exact h2 z
end
def ForR (J:It)(g:TG)(tb:TS)(D:Ends)(σ:L2.St)(H:Hp):Prop:=∃ W:Nat→Nat→L2.St→Hp→Prop,(∃ m,W 0 m σ H)∧∀ i m σ H,W i m σ H →
 (J.stop i H∧D.nx σ H)∨(J.go i H∧∃ N:L2.St→Hp→Prop,(∀ σ' H',N σ' H'→∃ m',m'<m∧W (i+1) m' σ' H')∧∀ x H',J.yld i H x H'→g x σ H' fun σ2 H2=>tb { D with nx:=N,ct:=N,bk:=D.nx } σ2 H2)
theorem ForR.range {lo:Int}{n:Nat}{g:TG}{tb:TS}{D:Ends}{σ:L2.St}{H:Hp}(Pv:Nat→L2.St→Hp→Prop)(h0:Pv 0 σ H)
  (hs:∀ i σ H,i<n→Pv i σ H→g (.int (lo+i)) σ H fun σ2 H2=>tb { D with nx:=Pv (i+1),ct:=Pv (i+1),bk:=D.nx } σ2 H2) (hd:∀ σ H,Pv n σ H→D.nx σ H):ForR (Itr lo n) g tb D σ H :=
 for_range Pv h0 hs hd
theorem ForR.list {K:PySem.W.Frag}{a:Addr}{xs:List V}{g:TG}{tb:TS}{D:Ends}{σ:L2.St}{H:Hp}(Pv:Nat→L2.St→Hp→Prop)(h0:Pv 0 σ H)(hl:∀ i σ H,i≤xs.length→Pv i σ H→SqL K H a xs)
  (hs:∀ i x σ H,xs[i]?=some x→Pv i σ H→g x σ H fun σ2 H2=>tb { D with nx:=Pv (i+1),ct:=Pv (i+1),bk:=D.nx } σ2 H2) (hd:∀ σ H,Pv xs.length σ H→D.nx σ H):ForR (Itl K a) g tb D σ H :=
 for_list Pv h0 hl hs hd
def WhR (Pv:L2.St→Hp→Prop)(μ:L2.St→Hp→Nat)(m:Nat)(tb:TS)(D:Ends)(b:Bool)(σ:L2.St)(H:Hp):Prop :=
 if b=true then ∃ N:L2.St→Hp→Prop,(∀ σ' H',N σ' H'→∃ m',m'<m∧(m'=μ σ' H'∧Pv σ' H'))∧tb { D with nx:=N,ct:=N,bk:=D.nx } σ H else D.nx σ H
theorem WhR.on {Pv:L2.St→Hp→Prop}{μ:L2.St→Hp→Nat}{m:Nat}{tb:TS}{D:Ends}{b:Bool}{σ:L2.St}{H:Hp}(h1:b=true→tb { D with nx:=fun σ' H'=>Pv σ' H'∧μ σ' H'<m,ct:=fun σ' H'=>Pv σ' H'∧μ σ' H'<m,bk:=D.nx } σ H)
  (h2:b=false→D.nx σ H):WhR Pv μ m tb D b σ H:=by
 cases b with
 | true=>exact ⟨_,fun σ' H' p=>⟨_,p.2,rfl,p.1⟩,h1 rfl⟩
 | false=>exact h2 rfl
theorem while_go {c:TT}{tb:TS}{D:Ends}{σ:L2.St}{H:Hp}(Pv:L2.St→Hp→Prop)(μ:L2.St→Hp→Nat)(h0:Pv σ H)
  (hs:∀ σ H,Pv σ H→c σ H fun b H1=>WhR Pv μ (μ σ H) tb D b σ H1):tWhile c tb D σ H:=by
 refine ⟨fun m σ H=>m=μ σ H∧Pv σ H,⟨_,rfl,h0⟩,fun m σ H hw=>?_⟩
 obtain ⟨rfl,p⟩:=hw
 exact hs σ H p
section
variable {t u:TS}{D:Ends}{σ:L2.St}{H:Hp}{te ta tb tc:TE}{Q:VK}{tr:TA}{c tt tu:TT}{Qb:Bool→Hp→Prop}{Ql:List V→Hp→Prop}{G:TG}{v x:V}{r r':R2}{wi:TI}
theorem seq_:tSeq t u D σ H=t { D with nx:=u D } σ H:=rfl
theorem next_:tNext D σ H=D.nx σ H:=rfl
theorem ret_:tRet te D σ H=te σ H D.rt:=rfl
theorem drop_:tDrop te D σ H=te σ H fun _ H1=>D.nx σ H1:=rfl
theorem ifS_:tIfS c t u D σ H=c σ H fun b H1=>BrS b (t D) (u D) σ H1:=rfl
theorem asg_:tAsg te G D σ H=te σ H fun x H1=>G x σ H1 D.nx:=rfl
theorem gname_ {i:Nat}{R:L2.St→Hp→Prop}:gName i v σ H R=R (σ.set i (some v)) H:=rfl
theorem var_ {i:Nat}:tVar i σ H Q=∃ v,σ[i]?=some (some v)∧Q v H:=rfl
theorem ex_ {α:Type}{x:α}{P:α→Prop}:(∃ v,some (some x)=some (some v)∧P v)=P x:=by
 apply propext
 constructor
 ·intro h
  obtain ⟨v,e,p⟩:=h
  cases e
  exact p
 ·exact fun p=>⟨x,rfl,p⟩
theorem exb_ {b:Bool}{P:Bool→Prop}:(∃ k,V.bl b=V.bl k∧P k)=P b:=by
 apply propext
 constructor
 ·intro h
  obtain ⟨v,e,p⟩:=h
  cases e
  exact p
 ·exact fun p=>⟨b,rfl,p⟩
theorem c_:tC v σ H Q=Q v H:=rfl
theorem op_:tOp r ta tb σ H Q=ta σ H fun x H1=>tb σ H1 fun y H2=>r x y H2 Q:=rfl
theorem test_:tTest te σ H Qb=te σ H fun x H1=>∃ k,x=.bl k∧Qb k H1:=rfl
theorem tB_:tB te σ H Qb=te σ H fun x H1=>∃ k,x=.bl k∧Qb k H1:=rfl
theorem and_:tAnd tt tu σ H Qb=tt σ H fun b H1=>BrA b tu σ H1 Qb:=rfl
theorem or_:tOr tt tu σ H Qb=tt σ H fun b H1=>BrO b tu σ H1 Qb:=rfl
theorem not_:tNot tt σ H Qb=tt σ H fun b H1=>Qb (!b) H1:=rfl
theorem andV_:tAndV ta tb σ H Q=ta σ H fun x H1=>∃ k,x=.bl k∧BrAV k tb σ H1 Q:=rfl
theorem notV_:tNotV ta σ H Q=ta σ H fun x H1=>∃ k,x=.bl k∧Q (.bl (!k)) H1:=rfl
theorem rI0_ {g:Int→Int→V}{i j:Int}:rI0 g (.int i) (.int j) H Q=Q (g i j) H:=by
 apply propext
 constructor
 ·intro h
  obtain ⟨a,b,e1,e2,q⟩:=h
  cases e1; cases e2
  exact q
 ·exact fun q=>⟨i,j,rfl,rfl,q⟩
theorem rI_ {C:Int→Int→Prop}{g:Int→Int→V}{i j:Int}:rI C g (.int i) (.int j) H Q=(C i j∧Q (g i j) H):=by
 apply propext
 constructor
 ·intro h
  obtain ⟨a,b,e1,e2,q⟩:=h
  cases e1; cases e2
  exact q
 ·exact fun q=>⟨i,j,rfl,rfl,q⟩
theorem rEqI_ {i j:Int}:rEq (.int i) (.int j) H Q=Q (.bl (decide (i=j))) H:=by
 have e:decide (V.int i=V.int j)=decide (i=j):=by rw [dec_int,Bool.beq_eq_decide_eq]
 unfold rEq
 rw [e]
 exact propext ⟨fun h=>h.2,fun h=>⟨rfl,h⟩⟩
theorem rEqS_ {i j:Str}:rEq (.str i) (.str j) H Q=Q (.bl (decide (i=j))) H:=by
 have e:decide (V.str i=V.str j)=decide (i=j):=by rw [dec_str,Bool.beq_eq_decide_eq]
 unfold rEq
 rw [e]
 exact propext ⟨fun h=>h.2,fun h=>⟨rfl,h⟩⟩
theorem nil_:tNil σ H Ql=Ql [] H:=rfl
theorem cons_:tCons te tr σ H Ql=te σ H fun x H1=>tr σ H1 fun xs H2=>Ql (x::xs) H2:=rfl
def TupR (xs:List V)(H:Hp)(Q:VK):Prop:=xs.length≤sizeLine∧∀ p,H p=none→Q (.ref p) (upd H p (.tup xs))
def LstR (xs:List V)(H:Hp)(Q:VK):Prop:=xs.length≤sizeLine∧∀ p,H p=none→Q (.ref p) (upd H p (.lst xs))
theorem tup_:tTup tr σ H Q=tr σ H fun xs H1=>TupR xs H1 Q:=rfl
theorem lst_:tLst tr σ H Q=tr σ H fun xs H1=>LstR xs H1 Q:=rfl
theorem TupR.go {xs:List V}(h:xs.length≤1000)(q:∀ p,H p=none→Q (.ref p) (upd H p (.tup xs))):TupR xs H Q:=⟨Nat.le_of_lt (small1000 h),q⟩
theorem LstR.go {xs:List V}(h:xs.length≤1000)(q:∀ p,H p=none→Q (.ref p) (upd H p (.lst xs))):LstR xs H Q:=⟨Nat.le_of_lt (small1000 h),q⟩
theorem call_ {sp:Sp}{E:XK}:tCall sp [] E tr σ H Q=tr σ H fun vs H1=>sp vs H1 Q E:=by
 unfold tCall
 simp only [List.append_nil]
theorem cb_ {f:List V→Hp→VK→Prop}:tCB f tr σ H Q=tr σ H fun vs H1=>f vs H1 Q:=rfl
theorem for_:tFor wi G t D σ H=wi σ H fun J H1=>ForR J G t D σ H1:=rfl
def RngR (vs:List V)(H:Hp)(R:It→Hp→Prop):Prop:=∃ j:Int,vs=[.int j]∧-(2 ^ 62)≤j∧j<2 ^ 62∧R (Itr 0 j.toNat) H
theorem rng1_ {R:It→Hp→Prop}:iRng1 tr σ H R=tr σ H fun vs H1=>RngR vs H1 R:=rfl
theorem RngR.go {j:Int}{R:It→Hp→Prop}(h1:-(2 ^ 62)≤j)(h2:j<2 ^ 62)(q:R (Itr 0 j.toNat) H):RngR [.int j] H R:=⟨j,rfl,h1,h2,q⟩
def Rng3R (vs:List V)(H:Hp)(R:It→Hp→Prop):Prop:=∃ j:Int,vs=[.int 0,.int j,.int 2]∧0≤j∧j<1000000∧R (Its 0 2 (evens j)) H
theorem Rng3R.go {j:Int}{R:It→Hp→Prop}(h1:0≤j)(h2:j<1000000)(q:R (Its 0 2 (evens j)) H):Rng3R [.int 0,.int j,.int 2] H R:=⟨j,rfl,h1,h2,q⟩
def LenR (K:PySem.W.Frag):List V→Hp→VK→Prop:=fun xs H Q=>∃ p ys,xs=[.ref p]∧(SqL K H p ys∨SqT K H p ys)∧Q (.int ys.length) H
theorem call_lenR {X:Cx}:CallR X (.builtin "len") (LenR X.K):=call_len_seq
theorem LenR.lst {K:PySem.W.Frag}{a:Addr}{ys:List V}(h:SqL K H a ys)(q:Q (.int ys.length) H):LenR K [.ref a] H Q:=⟨a,ys,rfl,.inl h,q⟩
def MaxR:List V→Hp→VK→Prop:=fun xs H Q=>∃ i j,xs=[.int i,.int j]∧Q (.int (if j > i then j else i)) H
theorem call_maxR {X:Cx}(hc:X.calm=true):CallR X (.builtin "max") MaxR:=call_max2 hc
theorem max_ {i j:Int}:MaxR [.int i,.int j] H Q=Q (.int (max i j)) H:=by
 have e:(if j > i then j else i)=max i j:=by split <;> omega
 apply propext
 constructor
 ·intro h
  obtain ⟨a,b,e1,q⟩:=h
  cases e1
  rw [e] at q
  exact q
 ·intro q
  refine ⟨i,j,rfl,?_⟩
  rw [e]
  exact q
theorem ixT_go {K:PySem.W.Frag}{a:Addr}{xs:List V}{i:Nat}(h:SqT K H a xs)(e:xs[i]?=some v)(q:Q v H):rIxT K (.ref a) (.int (i:Int)) H Q:=⟨a,xs,_,v,rfl,rfl,h,atI_nat e,q⟩
theorem ixL_go {K:PySem.W.Frag}{a:Addr}{xs:List V}{i:Nat}(h:SqL K H a xs)(e:xs[i]?=some v)(q:Q v H):rIxL K (.ref a) (.int (i:Int)) H Q:=⟨a,xs,_,v,rfl,rfl,h,atI_nat e,q⟩
theorem bm_ {K:PySem.W.Frag}{T:String}{f:V→List V→Hp→VK→Prop}:tBM K T f te tr σ H Q=te σ H fun x H1=>tyV K T x H1∧tr σ H1 fun xs H2=>f x xs H2 Q:=rfl
theorem tyInt_ {K:PySem.W.Frag}{i:Int}:tyV K "int" (.int i) H=True:=propext ⟨fun _=>True.intro,fun _=>rfl⟩
theorem tyStr_ {K:PySem.W.Frag}{z:Str}:tyV K "str" (.str z) H=True:=propext ⟨fun _=>True.intro,fun _=>rfl⟩
end
theorem isi_int {K:PySem.W.Frag}{H:Hp}{Q:VK}{i:Int}(q:Q (.bl true) H):rIsi K [.int i,.ty "int"] H Q:=⟨_,_,_,_,rfl,.int i,kit_same K "int",q⟩
theorem isi_int_bool {K:PySem.W.Frag}{H:Hp}{Q:VK}{i:Int}(q:Q (.bl false) H):rIsi K [.int i,.ty "bool"] H Q:=⟨_,_,_,_,rfl,.int i,kit_int_bool K,q⟩
theorem isi_str {K:PySem.W.Frag}{H:Hp}{Q:VK}{z:Str}(q:Q (.bl true) H):rIsi K [.str z,.ty "str"] H Q:=⟨_,_,_,_,rfl,.str z,kit_same K "str",q⟩
theorem isi_lst {K:PySem.W.Frag}{H:Hp}{Q:VK}{a:Addr}{xs:List V}(e:H a=some (.lst xs))(q:Q (.bl true) H):rIsi K [.ref a,.ty "list"] H Q:=⟨_,_,_,_,rfl,.lst e,kit_same K "list",q⟩
theorem cxK {CX:CXT}{P:Program}{w:World}{K:PySem.W.Frag}{mg:Str→Option Value}{base:Heap}{N:List Str}{qual:Str}{sc:Scope}{f:Addr}{cd:Value}{A:Around}{outer:List Env}{s:Shared}{H:Hp}{E:XK} :
  (cxOf CX P w K mg base N qual sc f cd A outer s H E).nox.K=K:=rfl
theorem same_new {H:Hp}{p:Addr}(h:H p=none)(o:HO):Same H (upd H p o):=fun b u q=>by
 rw [upd_ne (ne_of_none q h)]
 exact q
end Sv
namespace Sv
open PySem L2
end Sv
namespace Sv
open PySem L2
theorem gtup2 {K:PySem.W.Frag}{a:Addr}{x y:V}{i j:Nat}{σ:L2.St}{H:Hp}{R:L2.St→Hp→Prop}(h:SqT K H a [x,y])(q:R ((σ.set i (some x)).set j (some y)) H) :
  gTup K 2 (gCons (gName i) (gCons (gName j) gNil)) (.ref a) σ H R:=⟨a,_,rfl,h,rfl,_,_,rfl,_,_,rfl,rfl,q⟩
theorem app_go {l:Addr}{xs:List V}{y:V}{H:Hp}{Q:VK}(h:H l=some (.lst xs))(z:xs.length≤1000)(q:Q .non (upd H l (.lst (xs++[y])))):rAppend (.ref l) [y] H Q :=
 ⟨l,xs,y,rfl,rfl,h,small1000 z,q⟩
theorem ty_lst {K:PySem.W.Frag}{l:Addr}{xs:List V}{H:Hp}(h:H l=some (.lst xs)):tyV K "list" (.ref l) H:=.inl ⟨rfl,xs,SqL.of h⟩
end Sv
namespace Sv
open PySem L2
def IlR (K:PySem.W.Frag)(x:V)(H:Hp)(R:It→Hp→Prop):Prop:=∃ a,x=.ref a∧(∃ xs,SqL K H a xs)∧R (Itl K a) H
theorem ilist_ {K:PySem.W.Frag}{te:TE}{σ:L2.St}{H:Hp}{R:It→Hp→Prop}:iList K te σ H R=te σ H fun x H1=>IlR K x H1 R:=rfl
theorem IlR.go {K:PySem.W.Frag}{a:Addr}{xs:List V}{H:Hp}{R:It→Hp→Prop}(h:SqL K H a xs)(q:R (Itl K a) H):IlR K (.ref a) H R:=⟨a,rfl,⟨xs,h⟩,q⟩
end Sv
namespace Sv
open PySem L2
theorem cxK2 {CX:CXT}{P:Program}{w:World}{K:PySem.W.Frag}{mg:Str→Option Value}{base:Heap}{N:List Str}{qual:Str}{sc:Scope}{f:Addr}{cd:Value}{A:Around}{outer:List Env}{s:Shared}{H:Hp}{E:XK} :
  (cxOf CX P w K mg base N qual sc f cd A outer s H E).K=K:=rfl
end Sv
namespace Sv
open PySem PySem.Spec PyProof.Rows L2
theorem bo_len:bootBuiltins "len"=some (.builtin "len"):=by decide +kernel
theorem bo_max:bootBuiltins "max"=some (.builtin "max"):=by decide +kernel
theorem bo_isinstance:bootBuiltins "isinstance"=some (.builtin "isinstance"):=by decide +kernel
theorem bo_int:bootBuiltins "int"=some (.type "int"):=by decide +kernel
theorem bo_bool:bootBuiltins "bool"=some (.type "bool"):=by decide +kernel
theorem bo_str:bootBuiltins "str"=some (.type "str"):=by decide +kernel
theorem bo_tuple:bootBuiltins "tuple"=some (.type "tuple"):=by decide +kernel
theorem bo_list:bootBuiltins "list"=some (.type "list"):=by decide +kernel
structure Fn (P:Program)(w:World)(K:PySem.W.Frag)(mg:Str→Option Value)(base:Heap)(x:Str)(k:Nat)(ps:List Str)(sp:Sp):Prop where
 ex:∃ (f:Addr) (fd:FuncData),FnOk P w K mg base CX0 k f fd ps sp∧mg x=some (.ref f)∧PySem.W.keepIn K (.ref f)=true∧Binds K fd ps []
section
variable {X:Cx}{x:Str}{k j:Nat}{ps:List Str}{sp:Sp}{e:Expr}{es:List Expr}{t:TA}{p pos:Pos}
theorem pe_fn (F:Fn X.prog X.w X.K X.mg X.base x k ps sp)(hr:Room j X.A)(hk:k≤j)(hg:Gl X x)(ha:PA X (e::es) t)(hdb:(x == ("__debug__":Str))=false:=by decide)
  (he:starEach (e::es) X.env=(false,eval e X.env)::starEach es X.env:=by rfl) (hpl:(backTo pos (starEach es X.env)).any (·.1)=false:=by rfl):PE X (.Call (.Name x p) (e::es) [] pos) (tCall sp [] E0 t):=by
 obtain ⟨f,fd,G,m,kp,b⟩:=F.ex
 exact pe_call G (hr.mono hk) hg m kp b .nil pass0 ha hdb he hpl
end
structure Def (K:PySem.W.Frag)(mg:Str→Option Value)(x:Str)(st:Stmt):Prop where
 ex:∃ (f:Addr) (fd:FuncData),Fun K x x st f fd∧mg x=some (.ref f)
theorem mk_def {K:PySem.W.Frag}{h:Heap}{mg:Str→Option Value}{x:Str}{st:Stmt}{f:Addr}{oc kV dc pm cd ct:Value}{od an:Option Addr}{sl:Array (Option Value)}(X:K.In h)(G:h.Ns mainGlobals mg)
  (a:PySem.W.nsIn K mainGlobals x=some (some (.ref f))) (l:K.lookup f=some ⟨oc,od,.func (PySem.W.fnOf x x (defArgs st) (defBody st) (defScope st) .none kV dc pm an cd ct),sl⟩)
  (c:PySem.W.codeIn K cd x=true) (k:PySem.W.keepIn K (.ref f)=true):Def K mg x st:=⟨⟨f,_,fun_mk l c k,PySem.W.mg_of X G a⟩⟩
theorem Def.fn {P:Program}{w:World}{K:PySem.W.Frag}{mg:Str→Option Value}{base:Heap}{x:Str}{st:Stmt}{k:Nat}{ps:List Str}{sp:Sp}(D:Def K mg x st)
  (b:∀ (kV doc pm:Value) (an:Option Addr) (cdv ct:Value) (us:List Value),us.length=ps.length→bindArgs (PySem.W.fnOf x x (defArgs st) (defBody st) (defScope st) .none kV doc pm an cdv ct) ⟨us,[]⟩=pure (ps.zip us))
  (ok:∀ (f:Addr) (fd:FuncData),Fun K x x st f fd→FnOk P w K mg base CX0 k f fd ps sp):Fn P w K mg base x k ps sp:=by
 obtain ⟨f,fd,F,m⟩:=D.ex
 exact ⟨⟨f,fd,ok f fd F,m,F.kp,F.binds b⟩⟩
def cell (ns:List Int)(k:Int):Int:=ns.getD k.toNat 0
def spCell (K:PySem.W.Frag):Sp:=fun vs H Q _=>∃ (a:Addr) (ns:List Int) (k:Int),vs=[.ref a,.int k]∧SqL K H a (ns.map V.int)∧0≤k∧Q (.int (cell ns k)) H
def spWhole:Sp:=fun vs H Q _=>∃ i:Int,vs=[.int i]∧Q (.bl true) H
def spLaw (K:PySem.W.Frag):Sp:=fun vs H Q _=>∃ (a:Addr) (ns:List Int),vs=[.ref a]∧SqL K H a (ns.map V.int)∧ns.length≤63∧∀ H',Q (.bl true) H'
theorem spCell.go {K:PySem.W.Frag}{H:Hp}{Q:VK}{E:XK}{a:Addr}{ns:List Int}{k:Int}(h:SqL K H a (ns.map V.int))(h0:0≤k)(q:Q (.int (cell ns k)) H):spCell K [.ref a,.int k] H Q E:=⟨a,ns,k,rfl,h,h0,q⟩
theorem spWhole.go {H:Hp}{Q:VK}{E:XK}{i:Int}(q:Q (.bl true) H):spWhole [.int i] H Q E:=⟨i,rfl,q⟩
end Sv
namespace Sv
theorem us1 {α:Type}{us:List α}(h:us.length=1):∃ a,us=[a]:=by
 cases us with
 | nil=>cases h
 | cons a us=>cases us with
  | nil=>exact ⟨a,rfl⟩
  | cons b us=>cases h
theorem us2 {α:Type}{us:List α}(h:us.length=2):∃ a b,us=[a,b]:=by
 cases us with
 | nil=>cases h
 | cons a us =>
  obtain ⟨b,rfl⟩:=us1 (Nat.succ.inj h)
  exact ⟨a,b,rfl⟩
theorem us3 {α:Type}{us:List α}(h:us.length=3):∃ a b c,us=[a,b,c]:=by
 cases us with
 | nil=>cases h
 | cons a us =>
  obtain ⟨b,c,rfl⟩:=us2 (Nat.succ.inj h)
  exact ⟨a,b,c,rfl⟩
theorem us4 {α:Type}{us:List α}(h:us.length=4):∃ a b c d,us=[a,b,c,d]:=by
 cases us with
 | nil=>cases h
 | cons a us =>
  obtain ⟨b,c,d,rfl⟩:=us3 (Nat.succ.inj h)
  exact ⟨a,b,c,d,rfl⟩
end Sv
namespace Sv
open PySem PySem.Spec PyProof.Rows L2
def VarQ (o:Option (Option V))(H:Hp)(Q:VK):Prop:=match o with
 | some (some v)=>Q v H
 | _=>False
theorem VarQ.ex {o:Option (Option V)}{H:Hp}{Q:VK}(h:VarQ o H Q):∃ v,o=some (some v)∧Q v H:=by
 match o,h with
 | some (some v),h=>exact ⟨v,rfl,h⟩
def jI0 (g:Int→Int→V):R2:=fun x y H Q=>match x,y with
 | .int i,.int j=>Q (g i j) H
 | _,_=>False
def jI (C:Int→Int→Prop)(g:Int→Int→V):R2:=fun x y H Q=>match x,y with
 | .int i,.int j=>C i j∧Q (g i j) H
 | _,_=>False
theorem jI0.ex {g:Int→Int→V}{x y:V}{H:Hp}{Q:VK}(h:jI0 g x y H Q):rI0 g x y H Q:=by
 match x,y,h with
 | .int i,.int j,h=>exact ⟨i,j,rfl,rfl,h⟩
theorem jI.ex {C:Int→Int→Prop}{g:Int→Int→V}{x y:V}{H:Hp}{Q:VK}(h:jI C g x y H Q):rI C g x y H Q:=by
 match x,y,h with
 | .int i,.int j,h=>exact ⟨i,j,rfl,rfl,h.1,h.2⟩
section
variable {X:Cx}
theorem OpR.j {f:Value→Value→Sem Value}{C:Int→Int→Prop}{g:Int→Int→V}(o:OpR X f (rI C g)):OpR X f (jI C g):=fun pins s σ H x y v u Q I r1 r2 h=>o pins s σ H x y v u Q I r1 r2 h.ex
variable {x:Str}{k j:Nat}{ps:List Str}{sp:Sp}{e:Expr}{es:List Expr}{t:TA}{p pos:Pos}
end
end Sv
namespace Sv
open PySem PySem.Spec PyProof.Rows L2
theorem forIn_foldl {α β:Type}{f:α→β→Sem (ForInStep β)}(g:β→α→β):∀ (l:List α) (c:β),(∀ x∈l,∀ c,f x c=pure (.yield (g c x)))→forIn l c f=pure (l.foldl g c)
 | [],_,_=>rfl
 | x::l,c,h=>by
  rw [List.forIn_cons,h x List.mem_cons_self,pure_bind]
  exact forIn_foldl g l (g c x) fun y hy=>h y (List.mem_cons_of_mem _ hy)
def clStep (env:Env)(b:List (Str×Addr))(x:Str×NameKind):List (Str×Addr):=if x.2 == .free then (x.1,(env.cells.lookup x.1).getD 0)::b else b
def clOf (env:Env)(sc:Scope):List (Str×Addr):=sc.names.foldl (clStep env) []
theorem closure_eq {env:Env}{sc:Scope}(hf:∀ x∈sc.names,x.2=.free→∃ c,env.cells.lookup x.1=some c):closureFor sc env=pure (clOf env sc):=by
 simp only [closureFor]
 rw [forIn_foldl (clStep env) sc.names [] (fun x hx c=>by
  obtain ⟨n,k⟩:=x
  cases hk:k == NameKind.free with
  | true =>
   obtain ⟨a,ha⟩:=hf (n,k) hx (by simpa using hk)
   have ha':env.cells.lookup n=some a:=ha
   simp only [clStep,hk,if_true,cellOf,ha',Option.getD_some,pure_bind]
  | false=>simp only [clStep,hk,Bool.false_eq_true,if_false])]
 rfl
theorem cl_all {env:Env}:∀ (names:List (Str×NameKind)) (acc:List (Str×Addr)),(∀ x∈names,x.2=.free→∃ c,env.cells.lookup x.1=some c)→(∀ p∈acc,env.cells.lookup p.1=some p.2) →
  ∀ p∈names.foldl (clStep env) acc,env.cells.lookup p.1=some p.2
 | [],_,_,ha,p,hp=>ha p hp
 | (n,k)::r,acc,hf,ha,p,hp=>by
  refine cl_all r (clStep env acc (n,k)) (fun x hx=>hf x (List.mem_cons_of_mem _ hx)) (fun q hq=>?_) p hp
  unfold clStep at hq
  split at hq
  ·rename_i hk
   rcases List.mem_cons.mp hq with e | hq
   ·obtain ⟨c,hc⟩:=hf (n,k) List.mem_cons_self (by simpa using hk)
    have hc':env.cells.lookup n=some c:=hc
    rw [e]
    show env.cells.lookup n=some ((env.cells.lookup n).getD 0)
    rw [hc']
    rfl
   ·exact ha q hq
  ·exact ha q hq
theorem cl_sub {env:Env}:∀ (names:List (Str×NameKind)) (acc:List (Str×Addr)) (p:Str×Addr),p∈acc→p∈names.foldl (clStep env) acc
 | [],_,_,h=>h
 | (n,k)::r,acc,p,h=>by
  refine cl_sub r (clStep env acc (n,k)) p ?_
  unfold clStep
  split
  ·exact List.mem_cons_of_mem _ h
  ·exact h
theorem cl_mem {env:Env}:∀ (names:List (Str×NameKind)) (acc:List (Str×Addr)) (x:Str),(x,NameKind.free)∈names→∃ c,(x,c)∈names.foldl (clStep env) acc
 | [],_,_,h=>nomatch h
 | (n,k)::r,acc,x,h=>by
  rcases List.mem_cons.mp h with e | h
  ·have e1:x=n:=congrArg Prod.fst e
   have e2:k=.free:=(congrArg Prod.snd e).symm
   refine ⟨(env.cells.lookup n).getD 0,cl_sub r (clStep env acc (n,k)) _ ?_⟩
   simp [clStep,e1,e2]
  ·exact cl_mem r (clStep env acc (n,k)) x h
theorem lookup_some {β:Type}:∀ {l:List (Str×β)} {x:Str} {c:β},(x,c)∈l→∃ c',l.lookup x=some c'
 | [],_,_,h=>nomatch h
 | (y,d)::r,x,c,h=>by
  rw [List.lookup_cons]
  cases e:x == y with
  | true=>exact ⟨d,rfl⟩
  | false =>
   rcases List.mem_cons.mp h with q | q
   ·cases q
    simp at e
   ·exact lookup_some q
theorem relabel_back {env:Env}:∀ {names:List (Str×NameKind)} {x:Str} {k':NameKind},
  (names.map fun (n,k)=>if (k == NameKind.free && env.scope.kind == .function && env.kindOf n == some .cell) then (n,NameKind.cell) else (n,k)).lookup x=some k' →
   names.lookup x=some k'∨(names.lookup x=some .free∧k'=.cell)
 | [],_,_,h=>by simp at h
 | (n,k)::r,x,k',h=>by
  have ih:=@relabel_back env r x k'
  rw [List.map_cons] at h
  dsimp only at h
  by_cases hc:(k == NameKind.free && env.scope.kind == .function && env.kindOf n == some .cell)=true
  ·rw [if_pos hc] at h
   have hk:k=.free:=by
    rw [Bool.and_eq_true,Bool.and_eq_true] at hc
    simpa using hc.1.1
   cases e:x == n with
   | true =>
    simp only [List.lookup_cons,e] at h ⊢
    rw [hk]
    exact .inr ⟨rfl,(Option.some.inj h).symm⟩
   | false =>
    simp only [List.lookup_cons,e] at h ⊢
    exact ih h
  ·rw [if_neg hc] at h
   cases e:x == n with
   | true =>
    simp only [List.lookup_cons,e] at h ⊢
    exact .inl h
   | false =>
    simp only [List.lookup_cons,e] at h ⊢
    exact ih h
theorem relabel_free {env:Env}:∀ {names:List (Str×NameKind)} {x:Str},names.lookup x=some .free →
  (names.map fun (n,k)=>if (k == NameKind.free && env.scope.kind == .function && env.kindOf n == some .cell) then (n,NameKind.cell) else (n,k)).lookup x=some .cell ∨
  (names.map fun (n,k)=>if (k == NameKind.free && env.scope.kind == .function && env.kindOf n == some .cell) then (n,NameKind.cell) else (n,k)).lookup x=some .free
 | [],_,h=>by simp at h
 | (n,k)::r,x,h=>by
  have ih:=@relabel_free env r x
  rw [List.map_cons]
  dsimp only
  by_cases hc:(k == NameKind.free && env.scope.kind == .function && env.kindOf n == some .cell)=true
  ·rw [if_pos hc]
   cases e:x == n with
   | true =>
    simp only [List.lookup_cons,e]
    exact .inl trivial
   | false =>
    simp only [List.lookup_cons,e] at h ⊢
    exact ih h
  ·rw [if_neg hc]
   cases e:x == n with
   | true =>
    simp only [List.lookup_cons,e] at h ⊢
    exact .inr h
   | false =>
    simp only [List.lookup_cons,e] at h ⊢
    exact ih h
def cxC (X:Cx)(sc:Scope)(T:List Str)(cap:List Nat)(fp:List Addr)(s:Shared)(H:Hp):Cx where
 prog:=X.prog
 w:=X.w
 K:=X.K
 mg:=X.mg
 base:=X.base
 A:=X.A
 N:=T++cap.map fun i=>X.N.getD i Str.empty
 s₀:=s
 H₀:=H
 env:=compEnvC sc (clOf X.env sc) s.heap.objs.size X.env
 outer:=X.stack
 stack:=X.stack
 ex:=fp
 fn:=fun _=>false
 calm:=X.calm
 pn:=[]
 xe:=fun _ _=>False
structure COk (X:Cx)(sc:Scope)(cap:List Nat):Prop where
 kind:sc.kind=.function
 nocell:∀ y∈sc.names,y.2≠.cell
 loc:∀ y∈sc.names,y.2=.local→sc.names.lookup y.1=some .local
 free:∀ y∈sc.names,y.2=.free→X.env.kindOf y.1=some .cell∨X.env.kindOf y.1=some .free
 cap:∀ i∈cap,∃ x,X.N[i]?=some x∧sc.names.lookup x=some .free
def cChk (sc out:Scope)(N:List Str)(cap:List Nat):Bool :=
 sc.kind == .function && (sc.names.all fun y=>y.2 != .cell && (y.2 != .local || sc.names.lookup y.1 == some .local) && (y.2 != .free || (out.names.lookup y.1 == some .cell || out.names.lookup y.1 == some .free))) &&
  cap.all fun i=>match N[i]? with | some x=>sc.names.lookup x == some .free | none=>false
theorem COk.of {X:Cx}{sc out:Scope}{N:List Str}{cap:List Nat}(ho:X.env.scope=out)(hN:X.N=N)(h:cChk sc out N cap=true):COk X sc cap:=by
 unfold cChk at h
 rw [Bool.and_eq_true,Bool.and_eq_true,List.all_eq_true,List.all_eq_true] at h
 obtain ⟨⟨h1,h2⟩,h3⟩:=h
 have h2':∀ y∈sc.names,y.2≠.cell∧(y.2=.local→sc.names.lookup y.1=some .local)∧(y.2=.free→out.names.lookup y.1=some .cell∨out.names.lookup y.1=some .free):=fun y hy=>by
  have q:=h2 y hy
  rw [Bool.and_eq_true,Bool.and_eq_true] at q
  obtain ⟨⟨q1,q2⟩,q3⟩:=q
  refine ⟨by simpa using q1,fun e=>?_,fun e=>?_⟩
  ·rw [e] at q2
   simpa using q2
  ·rw [e] at q3
   simpa using q3
 refine ⟨by simpa using h1,fun y hy=>(h2' y hy).1,fun y hy=>(h2' y hy).2.1,fun y hy e=>?_,fun i hi=>?_⟩
 ·have q:=(h2' y hy).2.2 e
  rw [← ho] at q
  exact q
 ·have q:=h3 i hi
  rw [hN]
  cases e:N[i]? with
  | none =>
   rw [e] at q
   cases q
  | some x =>
   rw [e] at q
   exact ⟨x,rfl,by simpa using q⟩
section
variable {X:Cx}{sc:Scope}{T:List Str}{cap:List Nat}{fp:List Addr}{pins:List (Addr×Obj)}{σ:L2.St}{H:Hp}{s:Shared}{h₁:Heap}{t':Nat}{m:Str→Option Value}
theorem COk.cells (O:COk X sc cap)(ok:X.Ok):∀ x∈sc.names,x.2=.free→∃ c,X.env.cells.lookup x.1=some c:=fun x hx e=>ok.has x.1 (O.free x hx e)
theorem COk.cl (O:COk X sc cap)(ok:X.Ok){x:Str}{c:Addr}(h:(clOf X.env sc).lookup x=some c):X.env.cells.lookup x=some c :=
 cl_all sc.names [] (O.cells ok) (fun p hp=>nomatch hp) (x,c) (PySem.mem_of_lookup h)
theorem COk.has (O:COk X sc cap){x:Str}(h:sc.names.lookup x=some .free):∃ c,(clOf X.env sc).lookup x=some c:=by
 obtain ⟨c,hc⟩:=cl_mem (env:=X.env) sc.names [] x (PySem.mem_of_lookup h)
 exact lookup_some hc
theorem inv_comp (O:COk X sc cap)(I:Inv X pins σ H s)(hf:∀ b∈fp,FpOk X pins H b)(hfo:∀ b∈fp,∃ o,s.heap.get? b=some o)(hn:h₁.Ns s.heap.objs.size m)(keep:∀ b o,s.heap.get? b=some o→h₁.get? b=some o) :
  Inv (cxC X sc T cap fp s H) [] (List.replicate T.length none++cap.map fun i=>σ.getD i none) H { s with heap:=h₁,toks:=t' }:=by
 have cle:∀ x c,(clOf X.env sc).lookup x=some c→X.env.cells.lookup x=some c:=fun x c h=>O.cl I.ok h
 have fr:∀ x,(cxC X sc T cap fp s H).env.kindOf x=some .cell∨(cxC X sc T cap fp s H).env.kindOf x=some .free→sc.names.lookup x=some .free:=fun x h=>by
  rcases h with h | h
  ·rcases relabel_back (env:=X.env) (names:=sc.names) (x:=x) h with q | q
   ·exact absurd rfl (O.nocell _ (PySem.mem_of_lookup q))
   ·exact q.1
  ·rcases relabel_back (env:=X.env) (names:=sc.names) (x:=x) h with q | q
   ·exact q
   ·exact q.1
 refine ⟨⟨I.ok.mod,O.kind,I.ok.glob,I.ok.blt,Nat.le_refl _,fun x y c h1 h2=>I.ok.inj x y c (cle x c h1) (cle y c h2),fun x h=>O.has (fr x h),fun x c h=>absurd h Bool.false_ne_true,I.ok.hd,I.ok.frames,.inl rfl,
  fun b hb=>?_,I.bs,Nat.le_trans I.ok.bsz I.sz,fun b o e hb=>?_,fun b hb h=>?_,I.stack,I.stkFree⟩,rfl,I.bare,Un.kept keep,⟨m,hn,fun i x v e1 e2 e3=>?_⟩,fun x c e=>?_,I.hok.fresh (Nat.le_refl _),fun x c e=>I.freeC x c (cle x c e),
  fun p hp=>absurd hp (by simp [cxC]),I.hok.kept keep,?_⟩
 ·obtain ⟨o,ho⟩:=hfo b hb
  exact ⟨Nat.ne_of_lt (Heap.lt_size ho),fun x c e=>(hf b hb).2.2.2.2.1 x c (cle x c e)⟩
 ·rcases (hf b hb).2.2.2.1 with z | z
  ·exact I.ok.noex b o e z
  ·exact absurd (Nat.lt_of_lt_of_le (Heap.lt_size e) (Nat.le_trans I.ok.bsz z)) (Nat.lt_irrefl _)
 ·rcases List.mem_cons.mp (I.stkSub b h) with z | z
  ·exact (hf b hb).2.1 z
  ·exact (hf b hb).2.2.1 z
 ·have e1':(T++cap.map fun i=>X.N.getD i Str.empty)[i]?=some x:=e1
  by_cases hi:i<T.length
  ·rw [List.getElem?_append_left (by simpa using hi),List.getElem?_replicate] at e2
   split at e2 <;> cases e2
  ·rw [List.getElem?_append_right (by simpa using hi),List.length_replicate,List.getElem?_map] at e2
   rw [List.getElem?_append_right (by simpa using hi),List.getElem?_map] at e1'
   cases q:cap[i - T.length]? with
   | none=>rw [q] at e2; cases e2
   | some j =>
    rw [q] at e1' e2
    obtain ⟨x',hx',hfr⟩:=O.cap j (List.mem_of_getElem? q)
    have ex:x'=x:=by
     have z:X.N.getD j Str.empty=x:=Option.some.inj e1'
     rw [List.getD_eq_getElem?_getD,hx'] at z
     exact z
    subst ex
    have ev:σ[j]?=some (some v):=by
     have z:σ.getD j none=some v:=Option.some.inj e2
     rw [List.getD_eq_getElem?_getD] at z
     cases q2:σ[j]? with
     | none=>rw [q2] at z; cases z
     | some y=>rw [q2] at z; exact congrArg some z
    have vis:=O.free (x',.free) (PySem.mem_of_lookup hfr) rfl
    obtain ⟨m0,hn0,hl0⟩:=I.loc
    obtain ⟨u,r,l⟩:=hl0 j x' v hx' ev (.inr vis)
    refine ⟨u,r,.inr ⟨relabel_free (env:=X.env) hfr,?_⟩⟩
    obtain ⟨c',hc'⟩:=O.has hfr
    rcases l with ⟨kk,_⟩ | ⟨_,c,ec,z⟩
    ·rcases vis with z | z
     ·rw [show X.env.kindOf x'=some .local from kk] at z; cases z
     ·rw [show X.env.kindOf x'=some .local from kk] at z; cases z
    ·have e:=cle x' c' hc'
     rw [ec] at e
     cases e
     obtain ⟨o,ho,hd⟩:=z
     exact ⟨_,hc',o,keep _ o ho,hd⟩
 ·obtain ⟨v,o,ho,hd⟩:=I.cell x c (cle x c e)
  exact ⟨v,o,keep c o ho,hd⟩
 ·show _=(T++cap.map fun i=>X.N.getD i Str.empty).length
  simp
end
section
variable {prog:Program}{w:World}{A:Around}{R:Result→Shared→Prop}{s:Shared}
theorem compLoop_any {elt target iter:Expr}{ifs:List Expr}{scope:Scope}{pos:Pos}{it acc:Value}{env:Env}(I:Nat→Shared→Prop)
  (turn:∀ n s,I n s→wpAny (model prog w) A (pyNext it) (fun r s₁=>match r with
   | none=>R (.ok .next) s₁
   | some v=>wpAny (model prog w) A (letOwnedTupleGo target it v) (fun _ s₀=>wpAny (model prog w) A (assign target env v) (fun _ s₂ =>
     wpAny (model prog w) A (forIn ifs true fun c r=>if r=true then do let ok ← isTrue c env (eval c env); pure (ForInStep.yield ok) else pure (ForInStep.yield r)) (fun ok s₃ =>
      if ok=true then wpAny (model prog w) A (eval elt env) (fun x s₄=>wpAny (model prog w) A (call (.builtin "list.append") [acc,x]) (fun _ s₅=>∃ m,m<n∧I m s₅) (fun _ _=>False) s₄) (fun _ _=>False) s₃
      else ∃ m,m<n∧I m s₃) (fun _ _=>False) s₂) (fun _ _=>False) s₀) (fun _ _=>False) s₁) (fun _ _=>False) s)
  (n:Nat) (h:I n s):codeAny (model prog w) A (.compLoop (.ListComp elt [⟨target,iter,ifs,0⟩] scope pos) 0 it acc env) R s:=by
 refine codeAny_loop rfl I (fun n s hI=>?_) n h
 show wpAny _ A ((compTurn (.ListComp elt [⟨target,iter,ifs,0⟩] scope pos) 0 it acc env).onRaise (fun x=>do noteFrame x env; theTreesLotGoes x)) _ _ s
 refine wpAny_noted ?_
 rw [compTurn_list]
 have nf:∀ {E:Value→Shared→Prop} (x:Value) (s:Shared),(fun _ _=>False:Value→Shared→Prop) x s→E x s:=fun _ _ z=>z.elim
 refine wpAny_bind (wpAny_standAt (wpAny_bind (wpAny_mono (turn n s hI) (fun r s₁ h₁=>?_) nf)))
 cases r with
 | none=>exact wpAny_pure h₁
 | some v =>
  refine wpAny_bind (wpAny_mono h₁ (fun _ s₀ h₀=>wpAny_bind (wpAny_mono h₀ (fun _ s₂ h₂=>wpAny_bind (wpAny_mono h₂ (fun ok s₃ h₃=>?_) nf)) nf)) nf)
  cases ok with
  | false=>exact wpAny_pure ⟨rfl,h₃⟩
  | true=>exact wpAny_bind (wpAny_bind (wpAny_mono h₃ (fun x s₄ h₄=>wpAny_bind (wpAny_mono h₄ (fun _ s₅ h₅=>wpAny_pure (wpAny_pure ⟨rfl,h₅⟩)) nf)) nf))
end
def PIfs (X:Cx)(ifs:List Expr)(tc:TT):Prop:=∀ (pins:List (Addr×Obj)) (s:Shared) (σ:L2.St) (H:Hp) (Q:Bool→Hp→Prop),Inv X pins σ H s→tc σ H Q →
 wpAny (model X.prog X.w) X.A (forIn ifs true fun c r=>if r=true then do let ok ← isTrue c X.env (eval c X.env); pure (ForInStep.yield ok) else pure (ForInStep.yield r)) (TP X pins σ Q) X.xe s
def tYes:TT:=fun _ H Q=>Q true H
theorem pifs_nil {X:Cx}:PIfs X [] tYes:=fun _ _ _ H _ I h=>wpAny_tests_nil ⟨H,I,h⟩
theorem pifs_one {X:Cx}{c:Expr}{tc:TT}(hc:PT X c tc):PIfs X [c] tc:=fun pins s σ H Q I h=>wpAny_tests_one (hc pins s σ H Q I h)
def CompR (D:Addr)(J:It)(g:TG)(tc:TT)(te:TE)(σ:L2.St)(H:Hp)(Q:VK):Prop :=
 ∃ W:Nat→Nat→L2.St→Hp→Prop,(∃ m,W 0 m σ H)∧∀ i m σ H,W i m σ H →
  (J.stop i H∧Q (.ref D) H)∨(J.go i H∧∃ N:L2.St→Hp→Prop,(∀ σ' H',N σ' H'→∃ m',m'<m∧W (i+1) m' σ' H') ∧
   ∀ x H',J.yld i H x H'→g x σ H' fun σ2 H2=>tc σ2 H2 fun b H3=>if b=true then te σ2 H3 fun y H4=>∃ ys,H4 D=some (.lst ys)∧ys.length<sizeLine∧N σ2 (upd H4 D (.lst (ys++[y]))) else N σ2 H3)
def CmpR (nT:Nat)(cap:List Nat)(g:TG)(tc:TT)(te:TE)(J:It)(σ:L2.St)(H:Hp)(Q:VK):Prop :=
 ∀ D,H D=none→CompR D J g tc te (List.replicate nT none++cap.map fun i=>σ.getD i none) (upd H D (.lst [])) Q
def tComp (wi:TI)(nT:Nat)(cap:List Nat)(g:TG)(tc:TT)(te:TE):TE:=fun σ H Q=>wi σ H fun J H1=>CmpR nT cap g tc te J σ H1 Q
section
variable {X:Cx}{sc:Scope}{T:List Str}{cap:List Nat}{tg elt iter:Expr}{ifs:List Expr}{pos:Pos}{g:TG}{tc:TT}{te:TE}{wi:TI}
theorem comp_core {pins:List (Addr×Obj)}{s₂:Shared}{σ:L2.St}{H2:Hp}{it:Addr}{fp:List Addr}{tn:Nat→Heap→Prop}{J:It}{Q:VK}{RR:Value→Addr→Result→Shared→Prop}{E:Value→Shared→Prop}
  (hc:X.calm=true) (O:COk X sc cap) (hg:∀ fp s H,PG (cxC X sc T cap fp s H) tg g) (hifs:∀ fp s H,PIfs (cxC X sc T cap fp s H) ifs tc) (helt:∀ fp s H,PE (cxC X sc T cap fp s H) elt te)
  (I2:Inv X pins σ H2 s₂) (Tn:Turn X.prog X.w X.K tg J fp it tn) (st2:tn 0 s₂.heap) (f2:∀ b∈fp,FpOk X pins H2 b) (h:CmpR T.length cap g tc te J σ H2 Q)
  (hRR:∀ D C s' H',Inv X pins σ H' s'→FpOk X pins H' C→(∃ m,s'.heap.Ns C m)→Q (.ref D) H'→RR (.ref D) C (.ok .next) s') :
  wpAny (model X.prog X.w) X.A (newList []) (fun acc s₃=>wpAny (model X.prog X.w) X.A (newFunctionEnv sc X.env.globals (clOf X.env sc) [] X.env.qual none .none (some X.env)) (fun cenv s₄ =>
   codeAny (model X.prog X.w) X.A (.compStart (.ListComp elt [⟨tg,iter,ifs,0⟩] sc pos) 0 (.ref it) acc { cenv with scope:=relabel sc X.env }) (RR acc cenv.locals) s₄) E s₃) E s₂:=by
 have I3:=I2.lnew (its:=[]) (ys:=[]) (t':=s₂.toks) .nil (Nat.zero_le _)
 have hD:H2 s₂.heap.objs.size=none:=I2.fresh
 obtain ⟨W,⟨m0,w0⟩,turn⟩:=h _ hD
 refine wpAny_newObj_type (wpAny_newFunctionEnv O.nocell (by intro y hy; simp at hy) (fun h₁ hns₁ hsb₁=>?_) O.kind)
 dsimp only at hns₁ hsb₁ ⊢
 generalize hs3:({ s₂ with heap:=s₂.heap.push { cls:=.type "list",data:=.seq ([]:List Value).toArray },toks:=s₂.toks }:Shared)=s3 at I3
 have eh:s₂.heap.push { cls:=.type "list",dict:=none,data:=.seq ([]:List Value).toArray }=s3.heap:=by rw [← hs3]
 have e3:s3.os=s₂.os:=by rw [← hs3]
 have keep2:∀ b o,s₂.heap.get? b=some o→s3.heap.get? b=some o:=fun b o e=>by rw [← eh]; exact Heap.get?_push_of_some _ e
 have keep:∀ b o,s3.heap.get? b=some o→h₁.get? b=some o:=fun b o e=>by
  rw [eh] at hsb₁
  rw [hsb₁.2 b (Nat.ne_of_lt (Heap.lt_size e))]
  exact Heap.get?_push_of_some _ e
 have f3:∀ b∈fp,FpOk X pins (upd H2 s₂.heap.objs.size (.lst [])) b:=fun b hb=>by
  refine ⟨?_,(f2 b hb).2⟩
  obtain ⟨o,ho,_⟩:=Tn.obj 0 _ st2 b hb
  rw [upd_ne (Nat.ne_of_lt (Heap.lt_size ho))]
  exact (f2 b hb).1
 have fo3:∀ b∈fp,∃ o,s3.heap.get? b=some o:=fun b hb=>by
  obtain ⟨o,ho,_⟩:=Tn.obj 0 _ st2 b hb
  exact ⟨o,keep2 b o ho⟩
 have hns:h₁.Ns s3.heap.objs.size (fun x=>([]:List (Str×Value)).reverse.lookup x):=by rw [← eh]; exact hns₁
 have I4:=fun t'=>inv_comp (T:=T) (fp:=fp) (t':=t') O I3 f3 fo3 hns keep
 have st4:tn 0 h₁:=Tn.keep 0 _ _ st2 fun b _ o e=>keep b o (keep2 b o e)
 generalize hX:cxC X sc T cap fp s3 (upd H2 s₂.heap.objs.size (.lst []))=X' at I4
 have ex:X'.ex=fp:=by rw [← hX]; rfl
 have stat:∀ {H':Hp},(∀ b∈fp,H' b=none)→∀ b∈fp,FpOk X' [] H' b:=fun hn b hb=>by
  have ok:=(I4 0).ok
  have q:=ok.exf b (by rw [ex]; exact hb)
  refine ⟨hn b hb,q.1,ok.exfs b (by rw [ex]; exact hb),.inl (by rw [ex]; exact hb),q.2,fun p hp=>?_⟩
  subst hX
  exact absurd hp (by simp [cxC])
 have nf:∀ {E:Value→Shared→Prop} (x:Value) (s:Shared),X'.xe x s→E x s:=fun x s z=>by
  subst hX
  exact False.elim z
 have loop:∀ s4:Shared,(∃ t',s4={ s3 with heap:=h₁,toks:=t' })→codeAny (model X.prog X.w) X.A (.compLoop (.ListComp elt [⟨tg,iter,ifs,0⟩] sc pos) 0 (.ref it) (.ref s₂.heap.objs.size) (compEnvC sc (clOf X.env sc) s3.heap.objs.size X.env))
   (RR (.ref s₂.heap.objs.size) s3.heap.objs.size) s4:=by
  rintro s4 ⟨t',rfl⟩
  refine compLoop_any (fun n s'=>∃ i σ' H',Inv X' [] σ' H' s'∧tn i s'.heap∧(∀ b∈fp,H' b=none)∧W i n σ' H') ?_ m0 ⟨0,_,_,I4 t',st4,fun b hb=>(f3 b hb).1,w0⟩
  rintro n s5 ⟨i,σ5,H5,I5,st5,fr5,w5⟩
  rcases turn i n σ5 H5 w5 with ⟨stop,qn⟩ | ⟨go,N,hN,step⟩
  ·have ep:X'.prog=X.prog:=by rw [← hX]; rfl
   have ew:X'.w=X.w:=by rw [← hX]; rfl
   have eK:X'.K=X.K:=by rw [← hX]; rfl
   have ec:X'.calm=true:=by rw [← hX]; exact hc
   have eA:X'.A=X.A:=by rw [← hX]; rfl
   have d:=Tn.done X' ep ew eK ec i [] s5 σ5 H5 (fun _ _=>False) I5 (stat fr5) st5 stop
   rw [eA] at d
   refine thn d fun r s6 ⟨hr,I6⟩=>?_
   subst hr
   have un:=(Un.laid (fs:=frs X.stack) (ex:=fp) (o:=.lst []) keep2 (Nat.le_refl _) hD).trans (by
    have b:=I6.base
    subst hX
    exact b:Un (frs X.stack) fp (upd H2 s₂.heap.objs.size (.lst [])) H5 s3.heap s6.heap)
   have os6:s6.os=s₂.os:=by
    have q:=I6.os
    subst hX
    exact q.trans e3
   have hok:HOk X.prog X.w H5 s6.heap:=by
    have q:=I6.hok
    rw [ep,ew] at q
    exact q
   have J1:Inv X pins σ H5 s6:=I2.call' os6 un hok I6.bare fun b hb=>⟨(f2 b hb).2.2.2.1,(f2 b hb).2.1,(f2 b hb).2.2.2.2.1,(f2 b hb).2.2.2.2.2⟩
   have eL:X'.env.locals=s3.heap.objs.size:=by rw [← hX]; rfl
   have sz:s₂.heap.objs.size≤s3.heap.objs.size:=by rw [← eh,Heap.size_push]; exact Nat.le_succ _
   refine hRR _ _ s6 H5 J1 (I2.fpOk sz ?_) ?_ qn
   ·rw [← eL]; exact I6.free
   ·obtain ⟨m6,hm6,_⟩:=I6.loc
    rw [eL] at hm6
    exact ⟨m6,hm6⟩
  ·have ep:X'.prog=X.prog:=by rw [← hX]; rfl
   have ew:X'.w=X.w:=by rw [← hX]; rfl
   have eK:X'.K=X.K:=by rw [← hX]; rfl
   have ec:X'.calm=true:=by rw [← hX]; exact hc
   have d:=Tn.item X' ep ew eK ec i [] s5 σ5 H5 (fun _ _=>False) I5 (stat fr5) st5 go
   subst hX
   refine thn d fun r s6 ⟨u,hr,h6⟩=>?_
   subst hr
   refine thn h6 fun _ s7 ⟨x,H7,I7,r7,y7,st7,fr7⟩=>?_
   have I7':=I7.pinned (stat fr7) (Tn.obj _ _ st7)
   refine wpAny_mono (hg _ _ _ _ s7 σ5 H7 x u _ I7' r7 (step x H7 y7)) (fun _ s8 ⟨σ8,H8,I8,q8⟩=>?_) nf
   refine wpAny_mono (hifs _ _ _ _ s8 σ8 H8 _ I8 q8) (fun b s9 ⟨H9,I9,q9⟩=>?_) nf
   have again:∀ {s':Shared} {σ':L2.St} {H':Hp},Inv (cxC X sc T cap fp s3 (upd H2 s₂.heap.objs.size (.lst []))) ([]++pinsAt fp s7.heap) σ' H' s'→N σ' H' →
     ∃ m,m<n∧∃ i σ' H',Inv (cxC X sc T cap fp s3 (upd H2 s₂.heap.objs.size (.lst []))) [] σ' H' s'∧tn i s'.heap∧(∀ b∈fp,H' b=none)∧W i m σ' H':=fun {s' σ' H'} Ia na=>by
    obtain ⟨m',hm,w'⟩:=hN σ' H' na
    refine ⟨m',hm,i+1,σ',H',Ia.unpinned,Tn.keep _ _ _ st7 fun b hb o e=>(Ia.pin (b,o) (List.mem_append_right _ (List.mem_append_right _ (mem_pinsAt hb e)))).1,fun b hb=>?_,w'⟩
    obtain ⟨o,e,_⟩:=Tn.obj _ _ st7 b hb
    exact (Ia.pin (b,o) (List.mem_append_right _ (List.mem_append_right _ (mem_pinsAt hb e)))).2.1
   cases b with
   | false =>
    rw [if_neg Bool.false_ne_true] at q9 ⊢
    exact again I9 q9
   | true =>
    rw [if_pos rfl] at q9 ⊢
    refine wpAny_mono (helt _ _ _ _ s9 σ8 H9 _ I9 q9) (fun y s10 ⟨yv,H10,I10,ry,ys,hl,hz,n10⟩=>?_) nf
    refine wpAny_mono (mt_append (X:=cxC X sc T cap fp s3 (upd H2 s₂.heap.objs.size (.lst []))) _ s10 σ8 H10 (.ref s₂.heap.objs.size) [yv] (.ref s₂.heap.objs.size) [y] (fun _ H'=>N σ8 H') I10 rfl (.cons ry .nil) ⟨_,ys,yv,rfl,rfl,hl,hz,n10⟩)
     (fun _ s11 ⟨_,H11,I11,_,n11⟩=>again I11 n11) nf
 subst hs3
 exact codeAny_compStart_list (loop _ ⟨_,rfl⟩) (Tn.self X.A 0 _ _ _ st4 (loop _ ⟨_,rfl⟩))
theorem pe_comp (hc:X.calm=true)(O:COk X sc cap)(hi:PI X tg iter wi)(hg:∀ fp s H,PG (cxC X sc T cap fp s H) tg g)(hifs:∀ fp s H,PIfs (cxC X sc T cap fp s H) ifs tc)(helt:∀ fp s H,PE (cxC X sc T cap fp s H) elt te)
  (hs:∀ x,foldedSetIterable iter X.env x=pure x:=by intro _; rfl):PE X (.ListComp elt [⟨tg,iter,ifs,0⟩] sc pos) (tComp wi T.length cap g tc te):=by
 intro pins s σ H Q I h
 rw [eval_ListComp]
 refine wpAny_comprehension_free (use:=none) rfl hs (closure_eq (O.cells I.ok)) O.kind O.loc (wpAny_mono (hi pins s σ H _ I h) (fun v s1 h1=>wpAny_mono h1 (fun itv s2 h2=>?_) fun _ _ e=>e) fun _ _ e=>e)
 obtain ⟨it,fp,tn,J,H2,e,I2,Tn,st2,f2,R⟩:=h2
 subst e
 refine comp_core (RR:=fun acc C=>compPost (model X.prog X.w) X.A X.xe none (EP X pins σ Q) acc C) hc O hg hifs helt I2 Tn st2 f2 R fun D C s' H' I' f' hm q=>?_
 obtain ⟨m,hm⟩:=hm
 refine ⟨m,hm,fun h' hs'=>⟨.ref D,H',?_,rfl,q⟩⟩
 exact I'.turned (t':=s'.toks) (fun b o hb e=>(hs'.2 b hb).trans e) f'.1 f'.2.1 f'.2.2.2.1 f'.2.2.2.2.1 f'.2.2.2.2.2
def tSetComp (i:Nat)(te:TE):TS:=fun D σ H=>te σ H fun x H1=>D.nx (σ.set i (some x)) H1
theorem ps_setComp {i:Nat}{x:Str}{px spos:Pos}(hc:X.calm=true)(O:COk X sc cap)(hN:X.N.Nodup)(hix:X.N[i]?=some x)(hx:Loc X.env.scope x)(hi:PI X tg iter wi)(hg:∀ fp s H,PG (cxC X sc T cap fp s H) tg g)(hifs:∀ fp s H,PIfs (cxC X sc T cap fp s H) ifs tc)
  (helt:∀ fp s H,PE (cxC X sc T cap fp s H) elt te) (hsw:swapsWith (.ListComp elt [⟨tg,iter,ifs,0⟩] sc pos) (some (.Name x px)) spos.line X.env=pure true:=by rfl)
  (hf:X.fn x=true∨X.env.scope.names.lookup x=some .local:=by first | exact .inl rfl | exact .inr rfl | assumption)
  (hs:∀ x,foldedSetIterable iter X.env x=pure x:=by intro _; rfl):PS X (.Assign [.Name x px] (.ListComp elt [⟨tg,iter,ifs,0⟩] sc pos) spos) (tSetComp i (tComp wi T.length cap g tc te)):=by
 intro pins s σ H D I h
 rw [exec_Assign_Name_used _ _ _ _ hsw]
 refine wpAny_bind (wpAny_standAt (wpAny_bind ?_))
 show wpAny _ X.A (do let _ ← comprehension (.ListComp elt [⟨tg,iter,ifs,0⟩] sc pos) sc X.env _ (newList []) false (eval iter X.env) (some (assign (.Name x px) X.env))) _ _ s
 refine wpAny_bind (wpAny_mono (wpAny_comprehension_free (use:=some (assign (.Name x px) X.env)) (Q:=fun _ s'=>SP X pins D .next s') rfl hs (closure_eq (O.cells I.ok)) O.kind O.loc
  (wpAny_mono (hi pins s σ H _ I h) (fun v s1 h1=>wpAny_mono h1 (fun itv s2 h2=>?_) fun _ _ e=>e) fun _ _ e=>e)) (fun _ s' hq=>wpAny_pure (wpAny_pure hq)) fun _ _ e=>e)
 obtain ⟨it,fp,tn,J,H2,e,I2,Tn,st2,f2,R⟩:=h2
 subst e
 refine comp_core (RR:=fun acc C=>compPost (model X.prog X.w) X.A X.xe (some (assign (.Name x px) X.env)) (fun _ s'=>SP X pins D .next s') acc C) hc O hg hifs helt I2 Tn st2 f2 R fun Dl C s' H' I' f' hm q=>?_
 obtain ⟨m,hm⟩:=hm
 show wpAny _ X.A (assign (.Name x px) X.env (.ref Dl)) _ _ s'
 refine wpAny_assign_Name (store_ok2 (v:=.ref Dl) I' hN hix hx rfl (fun s'' I'' hsb=>?_) hf)
 obtain ⟨a,hsb,ha⟩:=hsb
 have hCa:C≠a:=by
  rcases ha with z | z
  ·rw [z]; exact f'.2.1
  ·exact fun e=>f'.2.2.2.2.1 x a z e.symm
 refine ⟨m,hm.sameBut hsb hCa,fun h' hs'=>⟨_,H',?_,q⟩⟩
 exact I''.turned (t':=s''.toks) (fun b o hb e=>(hs'.2 b hb).trans e) f'.1 f'.2.1 f'.2.2.2.1 f'.2.2.2.2.1 f'.2.2.2.2.2
end
structure ItOf (J:It)(xs:List V)(Ok:Hp→Prop):Prop where
 go:∀ i H,Ok H→i<xs.length→J.go i H
 yld:∀ i H x H',Ok H→i<xs.length→J.yld i H x H'→H'=H∧xs[i]?=some x
 stop:∀ i H,Ok H→xs.length≤i→J.stop i H
theorem itl {K:PySem.W.Frag}{a:Addr}{xs:List V}:ItOf (Itl K a) xs (fun H=>SqL K H a xs) :=
 ⟨fun i _ h l=>⟨xs,xs[i],h,List.getElem?_eq_getElem l⟩,fun _ _ _ _ h _ y=>⟨y.1,y.2 xs h⟩,fun _ _ h l=>⟨xs,h,l⟩⟩
def rngV (lo:Int)(n:Nat):List V:=(List.range n).map fun (i:Nat)=>V.int (lo+(i:Int))
theorem rngV_length (lo:Int)(n:Nat):(rngV lo n).length=n:=by unfold rngV; rw [List.length_map,List.length_range]
theorem rngV_get {lo:Int}{n i:Nat}(h:i<n):(rngV lo n)[i]?=some (.int (lo+(i:Int))):=by
 unfold rngV
 rw [List.getElem?_map,List.getElem?_range h]
 rfl
theorem itr {lo:Int}{n:Nat}:ItOf (Itr lo n) (rngV lo n) (fun _=>True) where
 go:=fun i H _ l=>by
  rw [rngV_length] at l
  exact l
 yld:=fun i H x H' _ l y=>by
  rw [rngV_length] at l
  refine ⟨y.1,?_⟩
  rw [rngV_get l,y.2]
 stop:=fun i H _ l=>by
  rw [rngV_length] at l
  exact l
theorem CmpR.go1 {cap:List Nat}{tc:TT}{te:TE}{J:It}{σ:L2.St}{H:Hp}{Q:VK}{xs:List V}{Ok:Hp→Prop}(it:ItOf J xs Ok)(Pv:Addr→Nat→List V→Hp→Prop)(hz:xs.length≤1000)
  (h0:∀ D,H D=none→Pv D 0 [] (upd H D (.lst []))) (hok:∀ D i ys H',Pv D i ys H'→Ok H'∧ys.length≤i)
  (hs:∀ D i x ys H',H D=none→xs[i]?=some x→Pv D i ys H'→tc (some x::cap.map fun i=>σ.getD i none) H' fun b H3=>if b=true then te (some x::cap.map fun i=>σ.getD i none) H3 fun y H4=>H4 D=some (.lst ys)∧Pv D (i+1) (ys++[y]) (upd H4 D (.lst (ys++[y]))) else Pv D (i+1) ys H3)
  (hd:∀ D ys H',H D=none→Pv D xs.length ys H'→Q (.ref D) H') (hte:∀ σ H (Q Q':VK),(∀ v H,Q v H→Q' v H)→te σ H Q→te σ H Q') (htc:∀ σ H (Q Q':Bool→Hp→Prop),(∀ v H,Q v H→Q' v H)→tc σ H Q→tc σ H Q') :
  CmpR 1 cap (gName 0) tc te J σ H Q:=by
 intro D hD
 refine ⟨fun i m σ' H'=>m=xs.length - i∧i≤xs.length∧∃ t ys,σ'=t::(cap.map fun i=>σ.getD i none)∧Pv D i ys H',⟨_,rfl,Nat.zero_le _,none,[],rfl,h0 D hD⟩,fun i m σ' H' hw=>?_⟩
 obtain ⟨rfl,hi,t,ys,rfl,p⟩:=hw
 obtain ⟨ok,hl⟩:=hok D i ys H' p
 by_cases lt:i<xs.length
 ·refine .inr ⟨it.go i H' ok lt,fun σ2 H2=>∃ t ys,σ2=t::(cap.map fun i=>σ.getD i none)∧Pv D (i+1) ys H2,fun σ2 H2 n2=>⟨_,?_,rfl,lt,n2⟩,fun x H2 y=>?_⟩
  ·omega
  ·obtain ⟨rfl,hx⟩:=it.yld i H' x H2 ok lt y
   show tc (some x::_) H2 _
   refine htc _ _ _ _ (fun b H3 q=>?_) (hs D i x ys H2 hD hx p)
   cases b with
   | false =>
    rw [if_neg Bool.false_ne_true] at q ⊢
    exact ⟨_,ys,rfl,q⟩
   | true =>
    rw [if_pos rfl] at q ⊢
    refine hte _ _ _ _ (fun v H4 q=>?_) q
    exact ⟨ys,q.1,small1000 (by omega),_,_,rfl,q.2⟩
 ·obtain rfl:i=xs.length:=by omega
  exact .inl ⟨it.stop _ _ ok (Nat.le_refl _),hd D ys H' hD p⟩
theorem CmpR.map {cap:List Nat}{te:TE}{J:It}{σ:L2.St}{H:Hp}{Q:VK}{xs:List V}{Ok:Hp→Prop}(f:V→V)(it:ItOf J xs Ok)(hz:xs.length≤1000)(ok:∀ D ys,H D=none→Ok (upd H D (.lst ys)))
  (hs:∀ D x ys (Q':VK),H D=none→x∈xs→Q' (f x) (upd H D (.lst ys))→te (some x::cap.map fun i=>σ.getD i none) (upd H D (.lst ys)) Q')
  (hd:∀ D,H D=none→Q (.ref D) (upd H D (.lst (xs.map f)))):CmpR 1 cap (gName 0) tYes te J σ H Q:=by
 intro D hD
 refine ⟨fun i m σ' H'=>m=xs.length - i∧i≤xs.length∧∃ t,σ'=t::(cap.map fun i=>σ.getD i none)∧H'=upd H D (.lst ((xs.take i).map f)),⟨_,rfl,Nat.zero_le _,none,rfl,rfl⟩,fun i m σ' H' hw=>?_⟩
 obtain ⟨rfl,hi,t,rfl,rfl⟩:=hw
 by_cases lt:i<xs.length
 ·refine .inr ⟨it.go i _ (ok D _ hD) lt,fun σ2 H2=>∃ t,σ2=t::(cap.map fun i=>σ.getD i none)∧H2=upd H D (.lst ((xs.take (i+1)).map f)),fun σ2 H2 n2=>⟨_,?_,rfl,lt,n2⟩,fun x H2 y=>?_⟩
  ·omega
  ·obtain ⟨rfl,hx⟩:=it.yld i _ x H2 (ok D _ hD) lt y
   show te (some x::(cap.map fun i=>σ.getD i none)) _ _
   refine hs D x _ _ hD (List.mem_of_getElem? hx) ⟨_,upd_same,?_,_,rfl,?_⟩
   ·rw [List.length_map,List.length_take]
    exact small1000 (by omega)
   ·rw [upd_upd,List.take_add_one,hx,List.map_append]
    rfl
 ·obtain rfl:i=xs.length:=by omega
  refine .inl ⟨it.stop _ _ (ok D _ hD) (Nat.le_refl _),?_⟩
  rw [List.take_length]
  exact hd D hD
theorem CmpR.mapS {cap:List Nat}{te:TE}{J:It}{σ:L2.St}{H:Hp}{Q:VK}{xs:List V}{Ok:Hp→Prop}(f:V→V)(it:ItOf J xs Ok)(hz:xs.length≤1000)(ok:∀ H',Same H H'→Ok H')
  (hs:∀ x H' (Q':VK),x∈xs→Same H H'→(∀ H2,Same H' H2→Q' (f x) H2)→te (some x::cap.map fun i=>σ.getD i none) H' Q')
  (hd:∀ D H',H D=none→Same H H'→H' D=some (.lst (xs.map f))→Q (.ref D) H'):CmpR 1 cap (gName 0) tYes te J σ H Q:=by
 intro D hD
 have keep:∀ {H':Hp} {o:HO},Same H H'→Same H (upd H' D o):=fun sm b o e=>by
  rw [upd_ne (ne_of_none e hD)]
  exact sm b o e
 refine ⟨fun i m σ' H'=>m=xs.length - i∧i≤xs.length∧∃ t,σ'=t::(cap.map fun i=>σ.getD i none)∧Same H H'∧H' D=some (.lst ((xs.take i).map f)),⟨_,rfl,Nat.zero_le _,none,rfl,keep (Same.refl _),upd_same⟩,fun i m σ' H' hw=>?_⟩
 obtain ⟨rfl,hi,t,rfl,sm,hl⟩:=hw
 by_cases lt:i<xs.length
 ·refine .inr ⟨it.go i _ (ok _ sm) lt,fun σ2 H2=>∃ t,σ2=t::(cap.map fun i=>σ.getD i none)∧Same H H2∧H2 D=some (.lst ((xs.take (i+1)).map f)),fun σ2 H2 n2=>⟨_,?_,rfl,lt,n2⟩,fun x H2 y=>?_⟩
  ·omega
  ·obtain ⟨rfl,hx⟩:=it.yld i _ x H2 (ok _ sm) lt y
   show te (some x::(cap.map fun i=>σ.getD i none)) _ _
   refine hs x H2 _ (List.mem_of_getElem? hx) sm fun H3 s3=>⟨_,s3 _ _ hl,?_,_,rfl,keep (sm.trans s3),?_⟩
   ·rw [List.length_map,List.length_take]
    exact small1000 (by omega)
   ·rw [upd_same,List.take_add_one,hx,List.map_append]
    rfl
 ·obtain rfl:i=xs.length:=by omega
  refine .inl ⟨it.stop _ _ (ok _ sm) (Nat.le_refl _),?_⟩
  rw [List.take_length] at hl
  exact hd D H' hD sm hl
section
variable {wi:TI}{nT:Nat}{cap:List Nat}{g:TG}{tc:TT}{te:TE}{σ:L2.St}{H:Hp}{Q:VK}{D:Ends}{i:Nat}{Qb:Bool→Hp→Prop}
theorem comp_:tComp wi nT cap g tc te σ H Q=wi σ H fun J H1=>CmpR nT cap g tc te J σ H1 Q:=rfl
theorem setComp_:tSetComp i te D σ H=te σ H fun x H1=>D.nx (σ.set i (some x)) H1:=rfl
theorem yes_:tYes σ H Qb=Qb true H:=rfl
end
theorem gsub_ {to ti:TE}{t:TSet}{v:V}{σ:L2.St}{H:Hp}{R:L2.St→Hp→Prop}:gSub to ti t v σ H R=to σ H fun o H1=>ti σ H1 fun i H2=>t o i v H2 fun H3=>R σ H3:=rfl
theorem setL_go {p:Addr}{xs:List V}{i:Nat}{v:V}{H:Hp}{Q:Hp→Prop}(h:H p=some (.lst xs))(hi:i<xs.length)(q:Q (upd H p (.lst (xs.set i v)))):rSetL (.ref p) (.int (i:Int)) v H Q:=by
 refine ⟨p,xs,i,i,rfl,rfl,h,?_,q⟩
 unfold ixN
 rw [if_pos (by omega),if_pos (by omega)]
 simp
def ItR (K:PySem.W.Frag)(x:V)(H:Hp)(R:It→Hp→Prop):Prop:=∃ a,x=.ref a∧(∃ xs,SqT K H a xs)∧R (Itt K a) H
theorem ItR.go {K:PySem.W.Frag}{a:Addr}{xs:List V}{H:Hp}{R:It→Hp→Prop}(h:SqT K H a xs)(q:R (Itt K a) H):ItR K (.ref a) H R:=⟨a,rfl,⟨xs,h⟩,q⟩
theorem ForR.items {J:It}{xs:List V}{Ok:Hp→Prop}{g:TG}{tb:TS}{D:Ends}{σ:L2.St}{H:Hp}(it:ItOf J xs Ok)(Pv:Nat→L2.St→Hp→Prop)(h0:Pv 0 σ H)(hok:∀ i σ H,Pv i σ H→Ok H)
  (hs:∀ i x σ H,xs[i]?=some x→Pv i σ H→g x σ H fun σ2 H2=>tb { D with nx:=Pv (i+1),ct:=Pv (i+1),bk:=D.nx } σ2 H2) (hd:∀ σ H,Pv xs.length σ H→D.nx σ H):ForR J g tb D σ H:=by
 refine ⟨fun i m σ H=>m=xs.length - i∧i≤xs.length∧Pv i σ H,⟨_,rfl,Nat.zero_le _,h0⟩,fun i m σ H hw=>?_⟩
 obtain ⟨rfl,hi,p⟩:=hw
 by_cases lt:i<xs.length
 ·refine .inr ⟨it.go i H (hok i σ H p) lt,Pv (i+1),fun σ' H' p'=>⟨_,?_,rfl,lt,p'⟩,fun x H' y=>?_⟩
  ·omega
  ·obtain ⟨rfl,hx⟩:=it.yld i H x H' (hok i σ H p) lt y
   exact hs i x σ H' hx p
 ·obtain rfl:i=xs.length:=by omega
  exact .inl ⟨it.stop _ _ (hok _ _ _ p) (Nat.le_refl _),hd σ H p⟩
def Itc (z:Str):It:=⟨fun i _=>i<z.cps.size,fun i H x H'=>H'=H∧∃ c,z.cps[i]?=some c∧x=.str ⟨#[c]⟩,fun i _=>z.cps.size≤i⟩
def IsR (x:V)(H:Hp)(R:It→Hp→Prop):Prop:=∃ z,x=.str z∧R (Itc z) H
theorem IsR.go {z:Str}{H:Hp}{R:It→Hp→Prop}(q:R (Itc z) H):IsR (.str z) H R:=⟨z,rfl,q⟩
def cval:Expr→Option V
 | .Constant (.str x) _ _=>some (.str x)
 | .Constant (.int i) _ _=>some (.int i)
 | .Constant (.bool b) _ _=>some (.bl b)
 | .Constant .none _ _=>some .non
 | _=>none
def cvals:List Expr→Option (List V)
 | []=>some []
 | e::es=>(cval e).bind fun v=>(cvals es).map fun vs=>v::vs
def tVals (vs:List V):TA:=fun _ H Q=>Q vs H
theorem vals_ {vs:List V}{σ:L2.St}{H:Hp}{Q:List V→Hp→Prop}:tVals vs σ H Q=Q vs H:=rfl
theorem cval_inv {e:Expr}{v:V}(h:cval e=some v):∃ c a b,e=.Constant c a b∧((∃ x,c=.str x∧v=.str x)∨(∃ x,c=.int x∧v=.int x)∨(∃ x,c=.bool x∧v=.bl x)∨(c=.none∧v=.non)):=by
 unfold cval at h
 split at h
 ·cases h; exact ⟨_,_,_,rfl,.inl ⟨_,rfl,rfl⟩⟩
 ·cases h; exact ⟨_,_,_,rfl,.inr (.inl ⟨_,rfl,rfl⟩)⟩
 ·cases h; exact ⟨_,_,_,rfl,.inr (.inr (.inl ⟨_,rfl,rfl⟩))⟩
 ·cases h; exact ⟨_,_,_,rfl,.inr (.inr (.inr ⟨rfl,rfl⟩))⟩
 ·cases h
theorem pe_cval {X:Cx}{e:Expr}{v:V}(h:cval e=some v):PE X e (tC v)∧∀ es,starEach (e::es) X.env=(false,eval e X.env)::starEach es X.env:=by
 obtain ⟨c,a,b,rfl,⟨x,rfl,rfl⟩ | ⟨x,rfl,rfl⟩ | ⟨x,rfl,rfl⟩ | ⟨rfl,rfl⟩⟩:=cval_inv h
 ·exact ⟨pe_str,fun _=>rfl⟩
 ·exact ⟨pe_int,fun _=>rfl⟩
 ·exact ⟨pe_bl,fun _=>rfl⟩
 ·exact ⟨pe_non,fun _=>rfl⟩
theorem pa_consts {X:Cx}:∀ {es:List Expr} {vs:List V},cvals es=some vs→PA X es (tVals vs)
 | [],vs,h=>by
  cases h
  exact pa_nil
 | e::es,vs,h=>by
  unfold cvals at h
  cases h1:cval e with
  | none=>rw [h1] at h; cases h
  | some v =>
   cases h2:cvals es with
   | none=>rw [h1,h2] at h; cases h
   | some ws =>
    rw [h1,h2] at h
    obtain rfl:vs=v::ws:=(Option.some.inj h).symm
    obtain ⟨p1,p2⟩:=pe_cval (X:=X) h1
    exact pa_cons p1 (pa_consts h2) (p2 es)
end Sv
namespace Sv
open PySem PySem.Spec PyProof.Rows L2
open PySem.Builtin PySem.Builtin.Str
theorem strs_vals:∀ {ws:List Str} {us:List Value},Vals (ws.map V.str) us→∃ l:List (Str×Tok),us=strValues l∧l.map (·.1)=ws
 | [],_,r=>by
  cases r
  exact ⟨[],rfl,rfl⟩
 | w::ws,_,r=>by
  cases r with
  | cons r1 r2 =>
   obtain ⟨t,rfl⟩:=r1
   obtain ⟨l,rfl,rfl⟩:=strs_vals r2
   exact ⟨(w,t)::l,rfl,rfl⟩
section
variable {X:Cx}
def rJoin (K:PySem.W.Frag):V→List V→Hp→VK→Prop:=fun x vs H Q=>∃ z a ws,x=.str z∧vs=[.ref a]∧SqL K H a (ws.map V.str)∧JoinOk z ws=true∧Q (.str (Str.join z ws)) H
theorem mt_join:MtR X "str.join" (rJoin X.K):=by
 intro pins s σ H x vs v us Q I rx rv h
 obtain ⟨z,a,ws,rfl,rfl,hq,hok,q⟩:=h
 obtain ⟨t,rfl⟩:=rx
 obtain ⟨u',rfl,ru⟩:=rv.one
 obtain rfl:u'=Value.ref a:=ru
 obtain ⟨its,rv',p,hz⟩:=I.list hq
 obtain ⟨l,rfl,e⟩:=strs_vals rv'
 refine SC.join p.isList e hok fun t' k=>⟨.str (Str.join z ws),H,I.tok k,⟨t',?_⟩,q⟩
 rw [← StrLaws.glued_eq_join]
 rfl
theorem join_go {K:PySem.W.Frag}{z:Str}{a:Addr}{ws:List Str}{H:Hp}{Q:VK}(h:SqL K H a (ws.map V.str))(hk:JoinOk z ws=true)(q:Q (.str (Str.join z ws)) H):rJoin K (.str z) [.ref a] H Q:=⟨z,a,ws,rfl,rfl,h,hk,q⟩
theorem joinOk_small {z:Str}{ws:List Str}(h:(ws.map (·.length)).sum+ws.length * z.length≤1000000):JoinOk z ws=true:=by
 unfold JoinOk
 rw [StrLaws.joinTotal]
 rw [Bool.not_eq_true']
 unfold tooLong
 exact decide_eq_false (by
  have:(1000000:Nat)≤sizeLine:=by decide
  omega)
theorem log_small {i:Int}(h0:0≤i)(h1:i<10 ^ 100):i.natAbs.log2<1920:=by
 by_cases z:i.natAbs=0
 ·rw [z]; decide
 ·rw [Nat.log2_lt z]
  have a:i.natAbs<10 ^ 100:=by omega
  exact Nat.lt_of_lt_of_le (Nat.lt_of_lt_of_le a (by decide +kernel:10 ^ 100≤2 ^ 400)) (Nat.pow_le_pow_right (by decide) (by decide))
def AddS:R2:=fun x y H Q=>∃ i j,x=.str i∧y=.str j∧i.length+j.length≤sizeLine∧Q (.str (i++j)) H
theorem op_addS:OpR X (binaryOp .Add) AddS:=op_add_str
theorem addS_go {i j:Str}{H:Hp}{Q:VK}(h:i.length+j.length≤1000000)(q:Q (.str (i++j)) H):AddS (.str i) (.str j) H Q:=⟨i,j,rfl,rfl,Nat.le_trans h (by decide),q⟩
def rCatQ (K:PySem.W.Frag):R2:=fun x y H Q=>∃ l b xs zs,x=.ref l∧y=.ref b∧SqL K H l xs∧SqL K H b zs∧xs.length+zs.length≤sizeLine∧∀ p,H p=none→Q (.ref p) (upd H p (.lst (xs++zs)))
theorem op_catQ:OpR X (binaryOp .Add) (rCatQ X.K):=by
 intro pins s σ H x y v u Q I rx ry h
 obtain ⟨l,b,xs,zs,rfl,rfl,h1,h2,hz,q⟩:=h
 cases rx
 cases ry
 obtain ⟨its,r,p,_⟩:=I.list h1
 obtain ⟨its2,r2,p2,_⟩:=I.list h2
 obtain ⟨⟨c,d,dt,sl⟩,n,e,hc,hd,hdt⟩:=p
 obtain ⟨⟨c2,d2,dt2,sl2⟩,n2,e2,hc2,hd2,hdt2⟩:=p2
 simp only at hc hd hdt hc2 hd2 hdt2
 subst hc hd hdt hc2 hd2 hdt2
 have l1:=r.length
 have l2:=r2.length
 refine concat_meets ⟨_,e,rfl⟩ ⟨_,e2,rfl⟩ noFill_list_add seq_list_add PySem.F.slot_list_add PySem.F.entry_list_add (PySem.F.args_list_add_2 _ _) (list_addW l b its.toArray its2.toArray n n2 none none sl sl2 (by rw [List.size_toArray,List.size_toArray]; omega)) ⟨e,e2,?_⟩
 have ea:its.toArray++its2.toArray=(its++its2).toArray:=by simp
 rw [ea]
 exact ⟨.ref _,_,I.lnew (t':=s.toks) (r.append r2) (by rw [List.length_append]; omega),rfl,q _ I.fresh⟩
theorem catQ_go {K:PySem.W.Frag}{l b:Addr}{xs zs:List V}{H:Hp}{Q:VK}(h1:SqL K H l xs)(h2:SqL K H b zs)(hz:xs.length+zs.length≤1000000)(q:∀ p,H p=none→Q (.ref p) (upd H p (.lst (xs++zs)))):rCatQ K (.ref l) (.ref b) H Q :=
 ⟨l,b,xs,zs,rfl,rfl,h1,h2,Nat.le_trans hz (by decide),q⟩
end
theorem app_list (x y:Str):(x++y).cps.toList=x.cps.toList++y.cps.toList:=by
 show (x.cps++y.cps).toList=_
 rw [Array.toList_append]
end Sv
namespace Sv
open PySem PySem.Spec PyProof.Rows L2
def Chn:List (Addr×Obj)→Value→Prop
 | [],v=>v=.none
 | p::l,v=>v=.ref p.1∧∃ (ws:Array Value) (c:Value),p.2.data=.fields ws∧ws[2]?=some c∧Chn l c
def Ctx2 (B:Heap)(U:Addr→Prop)(vs:Array Value):Prop:=∃ (c:Value) (l:List (Addr×Obj)),vs[2]?=some c∧Chn l c∧∀ p∈l,B.get? p.1=some p.2∧U p.1
theorem Ctx2.no {B:Heap}{U:Addr→Prop}{vs:Array Value}(h:vs[2]?=some .none):Ctx2 B U vs:=⟨_,[],h,rfl,fun _ z=>nomatch z⟩
theorem Ctx2.set {B:Heap}{U:Addr→Prop}{vs:Array Value}{x:Value}(h:Ctx2 B U vs):Ctx2 B U (vs.setIfInBounds 1 x):=by
 obtain ⟨c,l,h1,r⟩:=h
 exact ⟨c,l,by rw [Array.getElem?_setIfInBounds_ne (by decide)]; exact h1,r⟩
def Tr (h B:Heap)(U:Addr→Prop)(e:Addr)(cls:Value)(dd:Option Addr)(fl:Value):Prop :=
 ∃ (sl:Array (Option Value)) (vs:Array Value) (T:Addr) (oT:Obj) (ts:Array Value),h.get? e=some ⟨cls,dd,.fields vs,sl⟩∧vs[1]?=some (.ref T)∧B.get? T=none∧T≠e∧h.get? T=some oT∧oT.data=.fields ts∧ts[3]?=some fl∧Ctx2 B U vs
def Raw (h B:Heap)(U:Addr→Prop)(e:Addr)(cls:Value)(dd:Option Addr):Prop:=∃ (sl:Array (Option Value)) (vs:Array Value),h.get? e=some ⟨cls,dd,.fields vs,sl⟩∧vs[1]?=some .none∧Ctx2 B U vs
structure FlyD (B:Heap)(U:Addr→Prop)(l:List Env)(e:Addr)(cls:Value)(dd:Option Addr)(fl:Value)(h:Heap):Prop where
 st:B.StaysIn h
 ne:B.get? e=none
 fr:h.FunFrames B l
 tr:Tr h B U e cls dd fl
theorem upd_rest {h:Heap}{a:Addr}{o:Obj}{vs:Array Value}{f:Array Value→Array Value}(ha:h.get? a=some o)(hd:o.data=.fields vs) :
  (∀ b,b≠a→(h.update a (Obj.mapFields f)).get? b=h.get? b)∧(h.update a (Obj.mapFields f)).get? a=some { o with data:=.fields (f vs) }∧∀ b ob,h.get? b=some ob→(∀ ws,ob.data≠.fields ws)→(h.update a (Obj.mapFields f)).get? b=some ob:=by
 have other:∀ b,b≠a→(h.update a (Obj.mapFields f)).get? b=h.get? b:=fun b hb=>Heap.get?_update_other _ _ (Ne.symm hb)
 refine ⟨other,?_,fun b ob hb nf=>?_⟩
 ·obtain ⟨c,d,dt,sl⟩:=o
  have hdt:dt=.fields vs:=hd
  subst hdt
  exact Heap.get?_update_self _ ha rfl
 ·refine (other b fun z=>?_).trans hb
  rw [z,ha] at hb
  cases hb
  exact nf vs hd
theorem frames_up {h h' B:Heap}{l:List Env}(hl:h.FunFrames B l)(up:h.UpToSlots h'):h'.FunFrames B l:=hl.of_keeps fun b o hb nf=>by
 obtain ⟨sl,e⟩:=up b o hb nf
 exact ⟨_,e,rfl⟩
section
variable {M:Model}{A:Around}{E:Value→Shared→Prop}{s:Shared}{B:Heap}{U:Addr→Prop}{env:Env}{outer:List Env}{L e:Addr}{cls:Value}{dd:Option Addr}{Q:Unit→Shared→Prop}
theorem entry_d {vs:Array Value}{sl:Array (Option Value)}{head:Value}{had:Bool}(hfr:A.frames=some (env::outer))(hl:s.heap.FunFrames B (env::outer))(hf:env.frame=some L)(he:s.heap.get? e=some ⟨cls,dd,.fields vs,sl⟩)
  (hB:B.StaysIn s.heap) (hn:B.get? e=none) (hz:1<vs.size) (hc:Ctx2 B U vs) (k:∀ h',FlyD B U (env::outer) e cls dd (rawInt L) h'→s.heap.UpToSlots h'→Q () { s with heap:=h' }) :
  wpAny M A (do let fr ← frameOf env; let pl ← entryPlaceOf L had; let en ← EntryCells.newEntry head fr .none (rawInt L) .none pl; setField (.ref e) 1 en) Q E s:=by
 have eN:e∉(env::outer).filterMap (·.frame):=fun hm=>by
  obtain ⟨_,o,ho,nf⟩:=hl.mem hm
  rw [he] at ho
  cases ho
  exact nf vs rfl
 refine wpAny_bind (wpAny_frameOf_fun hfr hl hf fun h1 so=>wpAny_bind (wpAny_entryPlaceOf fun pl hpl=>?_))
 unfold EntryCells.newEntry newFields
 refine wpAny_bind (wpAny_newObj_type ?_ (hpl.sizeOk5 _ _ _ _ _))
 have t3:(([head,Value.ref L,.none,rawInt L,.none]++(if pl.isEmpty then List.replicate 6 Value.none else pl)).toArray:Array Value)[3]?=some (rawInt L):=by simp
 generalize (([head,Value.ref L,.none,rawInt L,.none]++(if pl.isEmpty then List.replicate 6 Value.none else pl)).toArray:Array Value)=ts at t3 ⊢
 have he1:h1.get? e=some ⟨cls,dd,.fields vs,sl⟩:=(so.2.1 e eN).trans he
 have he2:(h1.push { cls:=.type "traceback",dict:=none,data:=.fields ts }).get? e=some ⟨cls,dd,.fields vs,sl⟩:=Heap.get?_push_of_some _ he1
 have hT:h1.objs.size≠e:=Nat.ne_of_gt (Heap.lt_size he1)
 obtain ⟨u1,u2,u3⟩:=upd_rest (f:=fun w=>w.setIfInBounds 1 (Value.ref h1.objs.size)) he2 rfl
 have up:s.heap.UpToSlots ((h1.push { cls:=.type "traceback",dict:=none,data:=.fields ts }).update e (Obj.mapFields fun w=>w.setIfInBounds 1 (Value.ref h1.objs.size))):=fun b o hb nf=>by
  obtain ⟨sl',q⟩:=so.2.2 b o hb
  exact ⟨sl',u3 b _ (Heap.get?_push_of_some _ q) nf⟩
 refine wpAny_setField he2 rfl hz (k _ ⟨fun b o hb=>?_,hn,frames_up hl up,?_⟩ up)
 ·have ne:b≠e:=fun z=>by rw [z,hn] at hb; cases hb
  have nf:b∉(env::outer).filterMap (·.frame):=fun hm=>by rw [(hl.mem hm).1] at hb; cases hb
  exact (u1 b ne).trans (Heap.get?_push_of_some _ ((so.2.1 b nf).trans (hB b o hb)))
 ·have fresh:B.get? h1.objs.size=none:=by
   cases q:B.get? h1.objs.size with
   | none=>rfl
   | some o =>
    have nf:h1.objs.size∉(env::outer).filterMap (·.frame):=fun hm=>by rw [(hl.mem hm).1] at q; cases q
    have:=(so.2.1 _ nf).trans (hB _ o q)
    exact absurd (Heap.lt_size this) (Nat.lt_irrefl _)
  exact ⟨sl,_,h1.objs.size,_,ts,u2,by simp [hz],fresh,hT,(u1 _ hT).trans (Heap.get?_push_size _ rfl),rfl,t3,hc.set⟩
theorem note_d (hfr:A.frames=some (env::outer))(hl:s.heap.FunFrames B (env::outer))(hf:env.frame=some L)(hB:B.StaysIn s.heap)(hn:B.get? e=none)(x:Raw s.heap B U e cls dd∨Tr s.heap B U e cls dd .none)
  (k:∀ h',FlyD B U (env::outer) e cls dd (rawInt L) h'→s.heap.UpToSlots h'→Q () { s with heap:=h' }):wpAny M A (noteFrame (.ref e) env) Q E s:=by
 unfold noteFrame
 simp only [hf]
 rcases x with ⟨sl,vs,he,h1,hc⟩ | ⟨sl,vs,T,oT,ts,he,h1,hT,hne,ho,hd,h3,hc⟩
 ·refine wpAny_bind (wpAny_field he rfl h1 ?_)
  rw [if_neg (by decide)]
  exact entry_d hfr hl hf he hB hn (Array.getElem?_eq_some_iff.mp h1).1 hc k
 ·refine wpAny_bind (wpAny_field he rfl h1 ?_)
  rw [if_pos (show (Value.ref T != Value.none)=true by simp)]
  refine wpAny_bind (wpAny_field ho hd h3 ?_)
  rw [if_neg (show ¬ (Value.none == rawInt L)=true by simp [rawInt])]
  refine wpAny_bind (wpAny_setField ho hd (Array.getElem?_eq_some_iff.mp h3).1 ?_)
  obtain ⟨u1,u2,u3⟩:=upd_rest (f:=fun w=>w.setIfInBounds 3 Value.none) ho hd
  have up:s.heap.UpToSlots (s.heap.update T (Obj.mapFields fun w=>w.setIfInBounds 3 Value.none)):=fun b o hb nf=>⟨o.slots,u3 b o hb nf⟩
  refine entry_d (s:={ s with heap:=s.heap.update T (Obj.mapFields fun w=>w.setIfInBounds 3 Value.none) }) hfr (frames_up hl up) hf ((u1 e (Ne.symm hne)).trans he) (fun b o hb=>?_) hn (Array.getElem?_eq_some_iff.mp h1).1 hc fun h' f up'=>k h' f (up.trans up')
  exact (u1 b fun z=>by rw [z,hT] at hb; cases hb).trans (hB b o hb)
theorem flight_d {l:List Env}{fl:Value}(x:FlyD B U l e cls dd fl s.heap)(k:∀ h',FlyD B U l e cls dd .none h'→s.heap.UpToSlots h'→Q () { s with heap:=h' }):wpAny M A (setFlight (.ref e) none) Q E s:=by
 obtain ⟨hB,hn,hl,sl,vs,T,oT,ts,he,h1,hT,hne,ho,hd,h3,hc⟩:=x
 have hz:3<ts.size:=(Array.getElem?_eq_some_iff.mp h3).1
 unfold setFlight
 refine wpAny_bind (wpAny_field he rfl h1 ?_)
 rw [if_pos (show (Value.ref T != Value.none)=true by simp)]
 obtain ⟨u1,u2,u3⟩:=upd_rest (f:=fun w=>w.setIfInBounds 3 Value.none) ho hd
 have up:s.heap.UpToSlots (s.heap.update T (Obj.mapFields fun w=>w.setIfInBounds 3 Value.none)):=fun b o hb nf=>⟨o.slots,u3 b o hb nf⟩
 refine wpAny_setField ho hd hz (k _ ⟨fun b o hb=>?_,hn,frames_up hl up,?_⟩ up)
 ·exact (u1 b fun z=>by rw [z,hT] at hb; cases hb).trans (hB b o hb)
 ·exact ⟨sl,vs,T,_,_,(u1 e (Ne.symm hne)).trans he,h1,hT,hne,u2,rfl,by simp [hz],hc⟩
theorem leaves_d (hfr:A.frames=some (env::outer))(hl:s.heap.FunFrames B (env::outer))(hf:env.frame=some L)(hB:B.StaysIn s.heap)(hn:B.get? e=none)(x:Raw s.heap B U e cls dd∨Tr s.heap B U e cls dd .none)
  (k:∀ h',FlyD B U outer e cls dd .none h'→s.heap.UpToSlots h'→Q () { s with heap:=h' }):wpAny M A (leaving env (.ref e)) Q E s:=by
 unfold leaving
 refine wpAny_bind (note_d hfr hl hf hB hn x fun h1 f1 up1=>?_)
 refine flight_d (s:={ s with heap:=h1 }) f1 fun h2 f2 up2=>k h2 ⟨f2.st,f2.ne,?_,f2.tr⟩ (up1.trans up2)
 obtain ⟨_,_,q⟩:=f2.fr
 exact q
theorem lands_d (hfr:A.frames=some (env::outer))(hl:s.heap.FunFrames B (env::outer))(hf:env.frame=some L)(hB:B.StaysIn s.heap)(hn:B.get? e=none)(x:Raw s.heap B U e cls dd∨Tr s.heap B U e cls dd .none)
  (k:∀ h',FlyD B U (env::outer) e cls dd .none h'→s.heap.UpToSlots h'→Q () { s with heap:=h' }):wpAny M A (noteFrame (.ref e) env) (fun _ s2=>wpAny M A (setFlight (.ref e) none) Q E s2) E s :=
 note_d hfr hl hf hB hn x fun h1 f1 up1=>flight_d (s:={ s with heap:=h1 }) f1 fun h2 f2 up2=>k h2 f2 (up1.trans up2)
end
end Sv
namespace Sv
open PySem PySem.Spec PyProof.Rows L2
theorem obj_there {P:Program}{w:World}{H:Hp}{h:Heap}{a:Addr}{o:HO}(x:ObjOk P w H h a o):∃ ob,h.get? a=some ob:=by
 cases o with
 | lst xs=>obtain ⟨_,_,_,_,e⟩:=x; exact ⟨_,e⟩
 | tup xs=>obtain ⟨_,_,_,ob,e,_⟩:=x; exact ⟨ob,e⟩
 | dK kvs=>obtain ⟨_,_,_,_,ob,_,_,e,_⟩:=x; exact ⟨ob,e⟩
 | dT kvs=>obtain ⟨_,_,_,_,ob,_,_,e,_⟩:=x; exact ⟨ob,e⟩
 | set S n=>obtain ⟨ob,_,_,_,e,_⟩:=x; exact ⟨ob,e⟩
 | ins C dx fs=>obtain ⟨_,_,_,e,_⟩:=x; exact ⟨_,e⟩
 | own y=>exact x
 | xd fs=>obtain ⟨_,⟨ob,_,_,e,_⟩,_⟩:=x; exact ⟨ob,e⟩
 | rng lo hi=>obtain ⟨_,_,_,e⟩:=x; exact ⟨_,e⟩
 | frz ob u=>exact ⟨ob,x.1⟩
 | tbl ps=>exact ⟨_,x⟩
 | met f y=>exact ⟨_,x⟩
 | ext φ=>exact x.2.1
theorem hok_exact {P:Program}{w:World}{H:Hp}{h h':Heap}(x:HOk P w H h)(k:∀ b o u,h.get? b=some o→H b=some u→h'.get? b=some o):HOk P w H h':=fun a o e =>
 (x a o e).stay (fun b u hb q=>by
  rcases hb with rfl | hb
  ·exact k b u o q e
  ·exact k b u _ q hb) (fun _ q=>q) fun _ _ q=>q
def Cov (B:Heap)(H:Hp)(hs h':Heap)(fs:List Addr):Prop:=∀ b o,h'.get? b=some o→b∉fs→((∃ u,hs.get? b=some u)∨∃ u,H b=some u)→B.get? b=some o
structure Fly (P:Program)(w:World)(outer:List Env)(H:Hp)(s:Shared)(H':Hp)(xa:Addr)(cls:Value)(dd:Option Addr)(s':Shared):Prop where
 os:s'.os=s.os
 bare:AllBare s'.gens
 un:Un (frs outer) [] H H' s.heap s'.heap
 hok:HOk P w H' s'.heap
 fly:∃ B,FlyD B (fun b=>H' b=none) outer xa cls dd .none s'.heap∧Cov B H' s.heap s'.heap (frs outer)
 free:H' xa=none
 dct:∀ d,dd=some d→∃ fs,H' d=some (.xd fs)
def CXe (P:Program)(w:World):CXT:=fun outer H s E e s'=>∃ xa cls dd H',e=.ref xa∧Fly P w outer H s H' xa cls dd s'∧E cls dd H'
structure DefCx (X:Cx):Prop where
 stk:X.stack=X.env::X.outer
 frm:X.env.frame=some X.env.locals
 ex:X.ex=[]
structure XeOut (X:Cx)(E:XK):Prop extends DefCx X where
 out:∀ e s',wpAny (model X.prog X.w) X.A (leaving X.env e) (fun _ s''=>CXe X.prog X.w X.outer X.H₀ X.s₀ E e s'') (fun e' s''=>CXe X.prog X.w X.outer X.H₀ X.s₀ E e' s'') s'→X.xe e s'
theorem xeOut_cx {P:Program}{w:World}{K:PySem.W.Frag}{mg:Str→Option Value}{base:Heap}{N:List Str}{qual:Str}{sc:Scope}{f:Addr}{cd:Value}{A:Around}{outer:List Env}{s:Shared}{H:Hp}{E:XK} :
  XeOut (cxOf (CXe P w) P w K mg base N qual sc f cd A outer s H E) E:=⟨⟨rfl,rfl,rfl⟩,fun _ _ h=>h⟩
theorem mem_frs {env:Env}{outer:List Env}{L b:Addr}(hf:env.frame=some L):b∈frs (env::outer)↔b=L∨b∈frs outer:=by
 unfold frs
 rw [List.filterMap_cons,hf]
 exact List.mem_cons
section
variable {X:Cx}{E:XK}{pins:List (Addr×Obj)}{σ:L2.St}{H:Hp}{s s':Shared}{h' B:Heap}
theorem left_ok (hX:DefCx X)(J:Inv X pins σ H s')(st:B.StaysIn h')(up:s'.heap.UpToSlots h')
  (cov:∀ b o,s'.heap.get? b=some o→b∉frs X.stack→((∃ u,X.s₀.heap.get? b=some u)∨∃ u,H b=some u)→B.get? b=some o) :
  Un (frs X.outer) [] X.H₀ H X.s₀.heap h'∧HOk X.prog X.w H h'∧Cov B H X.s₀.heap h' (frs X.outer):=by
 have neL:∀ b u,X.s₀.heap.get? b=some u→b≠X.env.locals:=fun b u e=>Nat.ne_of_lt (Nat.lt_of_lt_of_le (Heap.lt_size e) J.ok.above)
 have nst:∀ b,b≠X.env.locals→b∉frs X.outer→b∉frs X.stack:=fun b h1 h2 h3=>by
  rw [hX.stk,mem_frs hX.frm] at h3
  exact h3.elim h1 h2
 have nex:∀ b:Addr,b∉X.ex:=fun b z=>by rw [hX.ex] at z; cases z
 have exact:∀ b o u,X.s₀.heap.get? b=some u→b∉frs X.outer→s'.heap.get? b=some o→h'.get? b=some o:=fun b o u e hb q=>st b o (cov b o q (nst b (neL b u e) hb) (.inl ⟨u,e⟩))
 have slots:∀ b o,b∈frs X.outer→s'.heap.get? b=some o→∃ sl,h'.get? b=some { o with slots:=sl }:=fun b o hb q=>by
  have fm:=J.funs.mem (b:=b) hb
  obtain ⟨_,o',ho',hd'⟩:=fm
  rw [q] at ho'
  cases ho'
  exact up b o q hd'
 have trk:∀ b u,H b=some u→∃ o,s'.heap.get? b=some o∧h'.get? b=some o∧B.get? b=some o:=fun b u e=>by
  obtain ⟨o,ho⟩:=obj_there (J.hok b u e)
  have nb:b∉frs X.stack:=fun z=>by rw [J.stkFree b z] at e; cases e
  have q:=cov b o ho nb (.inr ⟨u,e⟩)
  exact ⟨o,ho,st b o q,q⟩
 refine ⟨⟨fun b o e n hb _=>?_,fun b o e n hb _=>?_,fun b o e n _=>J.base.free b o e n (nex b),fun b o e _=>?_,J.base.tups,J.base.frzs,J.base.tbls⟩,hok_exact J.hok fun b o u q e=>?_,fun b o q hb hc=>?_⟩
 ·exact exact b o o e hb (J.base.keep b o e n hb (nex b))
 ·obtain ⟨sl,e1⟩:=J.base.slot b o e n hb (nex b)
  obtain ⟨sl',e2⟩:=slots b _ hb e1
  exact ⟨sl',e2⟩
 ·obtain ⟨o',e1⟩:=J.base.there b o e (nex b)
  by_cases hb:b∈frs X.outer
  ·obtain ⟨sl',e2⟩:=slots b _ hb e1
   exact ⟨_,e2⟩
  ·exact ⟨o',exact b o' o e hb e1⟩
 ·obtain ⟨o',q1,q2,_⟩:=trk b u e
  rw [q] at q1
  cases q1
  exact q2
 ·rcases hc with ⟨u,e⟩ | ⟨u,e⟩
  ·obtain ⟨o',e1⟩:=J.base.there b u e (nex b)
   have c:=cov b o' e1 (nst b (neL b u e) hb) (.inl ⟨u,e⟩)
   have:=st b o' c
   rw [q] at this
   cases this
   exact c
  ·obtain ⟨o',_,q2,q3⟩:=trk b u e
   rw [q] at q2
   cases q2
   exact q3
theorem land_ok (hX:DefCx X)(J:Inv X [] σ H s')(st:B.StaysIn h')(up:s'.heap.UpToSlots h')
  (cov:∀ b o,s'.heap.get? b=some o→b∉frs X.stack→((∃ u,X.s₀.heap.get? b=some u)∨(∃ u,H b=some u)∨∃ p∈X.pn,p.1=b)→B.get? b=some o):Inv X [] σ H { s' with heap:=h' }:=by
 obtain ⟨un,hok,_⟩:=left_ok hX J st up fun b o q hb hc=>cov b o q hb (hc.elim .inl fun z=>.inr (.inl z))
 have cellK:∀ c v,s'.heap.IsCell c v→h'.IsCell c v:=fun c v ⟨o,ho,hd⟩=>by
  obtain ⟨sl,e⟩:=up c o ho fun ws z=>by rw [hd] at z; cases z
  exact ⟨_,e,hd⟩
 refine ⟨J.ok,J.os,J.bare,?_,?_,fun x c e=>?_,J.free,J.freeC,fun p hp=>?_,hok,J.len⟩
 ·have e:X.ex=[]:=hX.ex
  rw [e]
  exact un
 ·obtain ⟨m,hn,hl⟩:=J.loc
  refine ⟨m,up.ns hn,fun i x v e1 e2 e3=>?_⟩
  obtain ⟨u,r,l⟩:=hl i x v e1 e2 e3
  refine ⟨u,r,?_⟩
  rcases l with l | ⟨k,c,e,z⟩
  ·exact .inl l
  ·exact .inr ⟨k,c,e,cellK c _ z⟩
 ·obtain ⟨v,z⟩:=J.cell x c e
  exact ⟨v,cellK c v z⟩
 ·obtain ⟨e,n,ne,nf,d⟩:=J.pin p hp
  have nb:p.1∉frs X.stack:=fun z=>by
   rw [hX.stk,mem_frs hX.frm] at z
   exact z.elim ne nf
  have hp':p∈X.pn:=by simpa using hp
  exact ⟨st _ _ (cov _ _ e nb (.inr (.inr ⟨p,hp',rfl⟩))),n,ne,nf,d⟩
theorem leave_made {e:Addr}{cls:Value}{dd:Option Addr}(hX:XeOut X E)(J:Inv X pins σ H s)(hx:Raw s.heap (PySem.W.hideAll s.heap (e::frs (X.env::X.outer))) (fun b=>H b=none) e cls dd)(h0:X.s₀.heap.get? e=none)(hf:H e=none)(hd:∀ d,dd=some d→∃ fs,H d=some (.xd fs))(hE:E cls dd H):X.xe (.ref e) s:=by
 refine hX.out _ _ ?_
 have stk:=J.stack
 rw [hX.stk] at stk
 have hfr:X.A.frames=some (X.env::X.outer):=by rw [← hX.stk]; exact J.ok.frames
 have hin:∀ env∈(X.env::X.outer),∀ a,env.frame=some a→a∈e::frs (X.env::X.outer):=fun env he a ha=>List.mem_cons_of_mem _ (List.mem_filterMap.mpr ⟨env,he,ha⟩)
 refine leaves_d (B:=PySem.W.hideAll s.heap (e::frs (X.env::X.outer))) hfr (PySem.W.funFrames_hide stk hin) hX.frm (fun b o q=>PySem.W.of_hideAll _ q) (PySem.W.hideAll_none _ List.mem_cons_self) (.inl hx) fun h' x1 x4=>?_
 have cov:∀ b o,s.heap.get? b=some o→b∉frs X.stack→((∃ u,X.s₀.heap.get? b=some u)∨∃ u,H b=some u)→(PySem.W.hideAll s.heap (e::frs (X.env::X.outer))).get? b=some o:=fun b o q hb hc=>by
  refine PySem.W.hideAll_get _ q fun z=>?_
  rcases List.mem_cons.mp z with z | z
  ·rcases hc with ⟨u,e'⟩ | ⟨u,e'⟩
   ·rw [z,h0] at e'; cases e'
   ·rw [z,hf] at e'; cases e'
  ·rw [hX.stk] at hb
   exact hb z
 obtain ⟨un,hok,cv⟩:=left_ok hX.toDefCx J x1.st x4 cov
 exact ⟨e,cls,dd,H,rfl,⟨J.os,J.bare,un,hok,⟨_,x1,cv⟩,hf,hd⟩,hE⟩
theorem leave_on {e:Value}(hX:XeOut X E)(I:Inv X pins σ H s)(h:CXe X.prog X.w X.stack H s E e s'):X.xe e s':=by
 obtain ⟨xa,cls,dd,H',rfl,F,hE⟩:=h
 have J:Inv X pins σ H' s':=I.call' F.os F.un F.hok F.bare fun b z=>nomatch z
 obtain ⟨B,fl,cov⟩:=F.fly
 have hfr:X.A.frames=some (X.env::X.outer):=by rw [← hX.stk]; exact I.ok.frames
 rw [hX.stk] at fl
 refine hX.out _ _ (leaves_d hfr fl.fr hX.frm fl.st fl.ne (.inr fl.tr) fun h' x1 x2=>?_)
 obtain ⟨un,hok,cv⟩:=left_ok (h':=h') hX.toDefCx J x1.st x2 fun b o q hb hc=>by
  refine cov b o q hb ?_
  rcases hc with ⟨u,e'⟩ | hc
  ·exact .inl (I.base.there b u e' (by rw [hX.ex]; simp))
  ·exact .inr hc
 exact ⟨xa,cls,dd,H',rfl,⟨J.os,J.bare,un,hok,⟨B,x1,cv⟩,F.free,F.dct⟩,hE⟩
end
theorem pass_on {X:Cx}{E:XK}(hX:XeOut X E):Passes (CXe X.prog X.w) X E:=fun _ _ _ _ _ _ I h=>leave_on hX I h
theorem fun_okX {P:Program}{w:World}{K:PySem.W.Frag}{mg:Str→Option Value}{base:Heap}{x qual:Str}{st:Stmt}{f:Addr}{fd:FuncData}{N ps:List Str}{k:Nat}{sp:Sp}(F:Fun K x qual st f fd)(S:FnScope N ps (defScope st))(len:∀ vs H Q E,sp vs H Q E→vs.length=ps.length)
  (hbody:∀ (cdv:Value) (A:Around) (outer:List Env) (s:Shared) (H:Hp) (vs:List V) (Q:VK) (E:XK),Room k (A.deeper (envOfC qual (defScope st) s.heap.objs.size f cdv))→sp vs H Q E →
   ∃ t,PSs (cxOf (CXe P w) P w K mg base N qual (defScope st) f cdv A outer s H E) (defBody st) t∧t { nx:=fun _ H'=>Q .non H',rt:=Q } (start N vs) H):FnOk P w K mg base (CXe P w) (k+1) f fd ps sp:=by
 obtain ⟨oc,od,kV,doc,pm,an,cdv,ct,osl,rfl,lk,hcd⟩:=F.ex
 exact fn_of lk hcd S len fun A outer s H vs Q E hr hsp=>hbody cdv A outer s H vs Q E hr hsp
theorem PS.nox {X:Cx}{st:Stmt}{t:TS}(h:PS X.nox st t):PS X st t:=fun pins s σ H D I hw =>
 wpAny_mono (h pins s σ H D (I.wish _) hw) (fun _ _ q=>q.unwish) fun _ _ z=>False.elim z
structure ExcC (K:PySem.W.Frag)(mg:Str→Option Value)(x:Str)(C:Addr):Prop where
 mg:mg x=some (.ref C)
 own:∃ (Bn newId initId:String) (bm:List Value),ExcBaseFacts Bn newId initId bm∧PySem.W.excIn K C bm newId=true
theorem ExcC.cls {K:PySem.W.Frag}{mg:Str→Option Value}{x:Str}{C:Addr}{h:Heap}(O:ExcC K mg x C)(kin:K.In h):∃ (Bn newId initId:String) (bm:List Value),ExcBaseFacts Bn newId initId bm∧OwnCls x C bm newId mg h:=by
 obtain ⟨Bn,newId,initId,bm,F,q⟩:=O.own
 refine ⟨Bn,newId,initId,bm,F,O.mg,?_⟩
 unfold PySem.W.excIn at q
 split at q
 ·rename_i dd cd sl ho
  split at q
  ·rename_i C' tl k0 k1 k2 k3 n k5 hm hs
   simp only [Bool.and_eq_true,beq_iff_eq,Bool.not_eq_true'] at q
   obtain ⟨⟨⟨⟨⟨rfl,rfl⟩,hdel⟩,ht⟩,hok⟩,hni⟩:=q
   obtain ⟨nm,bs,mro,ns,qn,hd,sn,sub,ab,col,del⟩:=cd
   dsimp only at hm hdel hok hni
   subst hm hdel
   have hsl:sl=#[k0,k1,k2,k3,some (.builtin n),k5]:=by
    obtain ⟨l⟩:=sl
    simp only at hs
    rw [hs]
   subst hsl
   exact ⟨tl,ns,nm,qn,bs,hd,sn,sub,ab,col,dd,k0,k1,k2,k3,k5,_,kin _ _ ho,.of_isNs (PySem.W.isNs_of_in kin hok),PySem.W.nsMap_none_of_in kin hok hni,PySem.W.tail_of_in kin ht⟩
  ·cases q
 ·cases q
end Sv
namespace Sv
open PySem PySem.Spec PyProof.Rows L2
theorem exc_matches {K:PySem.W.Frag}{M:Model}{h:Heap}{e C C':Addr}{oe:Obj}{b:Bool}(kin:K.In h)(e1:PySem.W.kitCls K (.ref C') (.ref C)=some b)(e2:PySem.W.mroIn K C (.type "BaseException")=some true)(he:h.get? e=some oe)(hc:oe.cls=.ref C') :
  PySem.W.Looks M h (excMatches (.ref e) (.ref C)) b:=by
 obtain ⟨l1,l2,l3⟩:=PySem.W.kit_cls (M:=M) kin e1
 have l4:PySem.W.Looks M h (isSubtype (.ref C) (.type "BaseException")) true:=PySem.W.looks_mroIn kin e2
 have l5:PySem.W.Looks M h (typeOf (.ref e)) (.ref C'):=hc▸(PySem.W.Looks.ld he).andThen .now
 have l6:PySem.W.Looks M h (isInstance (.ref C) (.type "tuple")) false:=l1.andThen (PySem.W.Looks.of_pure tc_notTuple)
 have l7:PySem.W.Looks M h (isExcClass (.ref C)) true:=l2.andThen l4
 unfold excMatches
 refine PySem.W.Looks.andThen l6 ?_
 simp only [Bool.false_eq_true,if_false,pure_bind,List.forIn_cons,List.forIn_nil,bind_assoc]
 refine PySem.W.Looks.andThen l7 ?_
 simp only [Bool.not_true,Bool.false_eq_true,if_false,pure_bind]
 refine PySem.W.Looks.andThen l5 (PySem.W.Looks.andThen l3 ?_)
 cases b with
 | true=>exact PySem.W.Looks.of_pure rfl
 | false=>exact PySem.W.Looks.of_pure rfl
def cxP (X:Cx)(pn:List (Addr×Obj)):Cx:={ X with pn:=pn }
def cxH (X:Cx)(xa:Addr):Cx:={ X with A:=X.A.mark (some (.ref xa)),calm:=false,xe:=fun _ _=>False }
section
variable {X:Cx}{pins pn:List (Addr×Obj)}{σ:L2.St}{H:Hp}{s s':Shared}{xa:Addr}{D:Ends}{f:Flow}
theorem okP (ok:X.Ok):(cxP X pn).Ok:=⟨ok.mod,ok.kind,ok.glob,ok.blt,ok.above,ok.inj,ok.has,ok.cab,ok.hd,ok.frames,ok.stk,ok.exf,ok.bs,ok.bsz,ok.noex,ok.exfs,ok.funs,ok.frf⟩
theorem unP (ok:(cxP X pn).Ok):X.Ok:=⟨ok.mod,ok.kind,ok.glob,ok.blt,ok.above,ok.inj,ok.has,ok.cab,ok.hd,ok.frames,ok.stk,ok.exf,ok.bs,ok.bsz,ok.noex,ok.exfs,ok.funs,ok.frf⟩
theorem inv_toP (I:Inv X pins σ H s):Inv (cxP X (X.pn++pins)) [] σ H s:=⟨okP I.ok,I.os,I.bare,I.base,I.loc,I.cell,I.free,I.freeC,fun p hp=>I.pin p (by simpa [cxP] using hp),I.hok,I.len⟩
theorem inv_ofP (I:Inv (cxP X (X.pn++pins)) [] σ H s):Inv X pins σ H s:=⟨unP I.ok,I.os,I.bare,I.base,I.loc,I.cell,I.free,I.freeC,fun p hp=>I.pin p (by simpa [cxP] using hp),I.hok,I.len⟩
theorem sp_ofP (h:SP (cxP X (X.pn++pins)) [] D f s'):SP X pins D f s':=by
 cases f with
 | next=>obtain ⟨σ',H',I,q⟩:=h; exact ⟨σ',H',inv_ofP I,q⟩
 | brk=>obtain ⟨σ',H',I,q⟩:=h; exact ⟨σ',H',inv_ofP I,q⟩
 | cont=>obtain ⟨σ',H',I,q⟩:=h; exact ⟨σ',H',inv_ofP I,q⟩
 | ret u=>obtain ⟨v,σ',H',I,r,q⟩:=h; exact ⟨v,σ',H',inv_ofP I,r,q⟩
theorem inv_toH (I:Inv X pins σ H s):Inv (cxH X xa) pins σ H s :=
 ⟨⟨I.ok.mod,I.ok.kind,I.ok.glob,I.ok.blt,I.ok.above,I.ok.inj,I.ok.has,I.ok.cab,fun z=>absurd z Bool.false_ne_true,I.ok.frames,I.ok.stk,I.ok.exf,I.ok.bs,I.ok.bsz,I.ok.noex,I.ok.exfs,I.ok.funs,I.ok.frf⟩,I.os,I.bare,I.base,I.loc,I.cell,I.free,I.freeC,I.pin,I.hok,I.len⟩
theorem inv_ofH (ok:X.Ok)(I:Inv (cxH X xa) pins σ H s):Inv X pins σ H s:=⟨ok,I.os,I.bare,I.base,I.loc,I.cell,I.free,I.freeC,I.pin,I.hok,I.len⟩
end
def excO (xa:Addr)(cls:Value)(dd:Option Addr):HO:=.ext fun h=>∃ (vs:Array Value) (sl:Array (Option Value)),h.get? xa=some ⟨cls,dd,.fields vs,sl⟩
abbrev RX:=Value→Option Addr→L2.St→Hp→Prop
def xeT (X:Cx)(Rr:RX):Value→Shared→Prop:=fun e s'=>∃ (xa:Addr) (cls:Value) (dd:Option Addr) (σ':L2.St) (H':Hp) (B:Heap),e=.ref xa∧Inv X [] σ' H' s'∧FlyD B (fun b=>H' b=none) X.stack xa cls dd .none s'.heap ∧
 (∀ b o,s'.heap.get? b=some o→b∉frs X.stack→((∃ u,X.s₀.heap.get? b=some u)∨(∃ u,H' b=some u)∨∃ p∈X.pn,p.1=b)→B.get? b=some o)∧H' xa=none∧(∀ d,dd=some d→∃ fs,H' d=some (.xd fs))∧Rr cls dd σ' H'
section
variable {X:Cx}{pins:List (Addr×Obj)}{σ:L2.St}{H:Hp}{s s':Shared}{Rr:RX}
theorem DefCx.p {pn:List (Addr×Obj)}(d:DefCx X):DefCx (cxP X pn):=⟨d.stk,d.frm,d.ex⟩
theorem catch_on {e:Value}{pn:List (Addr×Obj)}(hD:DefCx X)(I:Inv ((cxP X pn).wish (xeT (cxP X pn) Rr)) pins σ H s)(h:CXe X.prog X.w X.stack H s (fun cls dd H'=>Rr cls dd σ H') e s'):((cxP X pn).wish (xeT (cxP X pn) Rr)).xe e s':=by
 obtain ⟨xa,cls,dd,H',rfl,F,hE⟩:=h
 have I':Inv (cxP X pn) [] σ H s:=I.unwish.pins_of fun p hp=>nomatch hp
 have J:Inv (cxP X pn) [] σ H' s':=I'.call' F.os F.un F.hok F.bare fun b z=>nomatch z
 obtain ⟨B,fl,cov⟩:=F.fly
 refine ⟨xa,cls,dd,σ,H',B,rfl,J,fl,fun b o q hb hc=>cov b o q hb ?_,F.free,F.dct,hE⟩
 rcases hc with ⟨u,e'⟩ | hc | ⟨p,hp,e'⟩
 ·exact .inl (I'.base.there b u e' (by show b∉X.ex; rw [hD.ex]; simp))
 ·exact .inr hc
 ·have:=(I'.pin p (List.mem_append_left _ hp)).1
  rw [e'] at this
  exact .inl ⟨_,this⟩
theorem track_exc {xa:Addr}{cls:Value}{dd:Option Addr}{vs:Array Value}{sl:Array (Option Value)}(J:Inv X [] σ H s)(hx:s.heap.get? xa=some ⟨cls,dd,.fields vs,sl⟩)(hf:H xa=none)(h0:X.s₀.heap.get? xa=none)(hL:xa≠X.env.locals)(hp:∀ p∈X.pn,p.1≠xa) :
  Inv X [] σ (upd H xa (excO xa cls dd)) s:=by
 have ne:∀ b,b≠xa→upd H xa (excO xa cls dd) b=H b:=fun b h=>upd_ne h
 have nt:∀ b u,H b=some u→b≠xa:=fun b u e z=>by rw [z,hf] at e; cases e
 refine ⟨J.ok,J.os,J.bare,⟨J.base.keep,J.base.slot,fun b o e n hx'=>?_,J.base.there,fun b xs e=>?_,fun b o u e=>?_,fun b ps e=>?_⟩,J.loc,J.cell,?_,fun x c e=>?_,fun p hp'=>?_,fun b u e=>?_,J.len⟩
 ·rw [ne b fun z=>by rw [z,h0] at e; cases e]
  exact J.base.free b o e n hx'
 ·have q:=J.base.tups b xs e
  rw [ne b (nt b _ q)]
  exact q
 ·have q:=J.base.frzs b o u e
  rw [ne b (nt b _ q)]
  exact q
 ·obtain ⟨more,q⟩:=J.base.tbls b ps e
  exact ⟨more,by rw [ne b (nt b _ q)]; exact q⟩
 ·rw [ne _ (Ne.symm hL)]
  exact J.free
 ·rw [ne c fun z=>?_]
  ·exact J.freeC x c e
  ·obtain ⟨v,o,ho,hd⟩:=J.cell x c e
   rw [z,hx] at ho
   cases ho
   cases hd
 ·obtain ⟨e,n,n1,n2,d⟩:=J.pin p hp'
  have hp2:p∈X.pn:=by simpa using hp'
  exact ⟨e,by rw [ne _ (hp p hp2)]; exact n,n1,n2,d⟩
 ·by_cases hb:b=xa
  ·subst hb
   rw [upd_same] at e
   cases e
   exact ⟨⟨vs,sl,hx⟩,⟨_,hx⟩,fun h1 h2 ⟨vs',sl',q⟩ k=>⟨vs',sl',k _ q⟩⟩
  ·rw [ne b hb] at e
   exact (J.hok b u e).stay (fun _ _ _ q=>q) (fun c q=>by rw [ne c (nt c _ q)]; exact q) fun c xs q=>by rw [ne c (nt c _ q)]; exact q
theorem unbind_ok {M:Model}{A:Around}{E:Value→Shared→Prop}{i:Nat}{n:Str}{v:V}{Q:Unit→Shared→Prop}(I:Inv X pins σ H s)(hN:X.N.Nodup)(hi:X.N[i]?=some n)(hk:X.env.kindOf n=some .local)(hv:σ[i]?=some (some v))
  (k:∀ s',Inv X pins (σ.set i none) H s'→Q () s'):wpAny M A (unbindName X.env n) Q E s:=by
 obtain ⟨m,hn,hl⟩:=id I.loc
 obtain ⟨u,r,l⟩:=hl i n v hi hv (.inl hk)
 have hm:m n=some u:=by
  rcases l with ⟨_,e⟩ | ⟨k',_⟩
  ·exact e
  ·rcases k' with z | z <;> (rw [hk] at z; cases z)
 have hcls:(X.env.scope.kind == .class || (X.env.scope.kind == .module && X.env.locals != X.env.globals))=false:=by rw [I.ok.kind]; rfl
 have iσ:i<σ.length:=(List.getElem?_eq_some_iff.mp hv).1
 refine wpAny_unbindName_local hk hn hm hcls fun h' u' hn' hs=>k _ ?_
 have low:∀ b o,X.s₀.heap.get? b=some o→b≠X.env.locals:=fun b o e=>Nat.ne_of_lt (Nat.lt_of_lt_of_le (Heap.lt_size e) I.ok.above)
 obtain ⟨oL,_,_,hoL,_⟩:=id hn
 refine ⟨I.ok,I.os,I.bare,⟨fun b o e n' hb hx=>(hs.2 b (low b o e)).trans (I.base.keep b o e n' hb hx),fun b o e n' hb hx=>?_,I.base.free,fun b o e hx=>?_,I.base.tups,I.base.frzs,I.base.tbls⟩,⟨_,hn',fun j y v' e1 e2 e3=>?_⟩,fun y c e=>?_,I.free,I.freeC,fun p hp=>?_,fun b ob e=>?_,?_⟩
 ·obtain ⟨sl,e1⟩:=I.base.slot b o e n' hb hx
  exact ⟨sl,(hs.2 b (low b o e)).trans e1⟩
 ·obtain ⟨o',e1⟩:=I.base.there b o e hx
  exact ⟨o',(hs.2 b (low b o e)).trans e1⟩
 ·have hji:j≠i:=fun z=>by
   subst z
   rw [List.getElem?_set_self iσ] at e2
   cases e2
  rw [List.getElem?_set_ne (Ne.symm hji)] at e2
  obtain ⟨u2,r2,l2⟩:=hl j y v' e1 e2 e3
  refine ⟨u2,r2,?_⟩
  rcases l2 with ⟨k2,e⟩ | ⟨k2,c,e,z⟩
  ·refine .inl ⟨k2,?_⟩
   have hy:y≠n:=fun q=>hji (nodup_ix hN e1 (q▸hi))
   simp [hy,e]
  ·exact .inr ⟨k2,c,e,z.sameBut hs (I.cne y c e)⟩
 ·obtain ⟨w',z⟩:=I.cell y c e
  exact ⟨w',z.sameBut hs (I.cne y c e)⟩
 ·obtain ⟨e,n1,n2,n3,d⟩:=I.pin p hp
  exact ⟨(hs.2 p.1 n2).trans e,n1,n2,n3,d⟩
 ·refine (I.hok b ob e).stay (fun c w' hc q=>(hs.2 c ?_).trans q) (fun _ q=>q) fun _ _ q=>q
  rintro rfl
  rcases hc with z | z
  ·rw [← z,I.free] at e; cases e
  ·rw [I.free] at z; cases z
 ·rw [List.length_set]
  exact I.len
end
def asEnds (i:Nat)(D:Ends):Ends:={ nx:=fun σ H=>D.nx (σ.set i none) H,rt:=D.rt,bk:=fun σ H=>D.bk (σ.set i none) H,ct:=fun σ H=>D.ct (σ.set i none) H }
def tTryAs (Rr:RX)(i:Nat)(tb ts:TS):TS:=fun D σ H=>tb D σ H∧∀ cls dd σ' H' xa,Rr cls dd σ' H'→H' xa=none→ts (asEnds i D) (σ'.set i (some (.ref xa))) (upd H' xa (excO xa cls dd))
section
variable {X:Cx}{body suite:List Stmt}{b₀:Stmt}{x n:Str}{C:Addr}{np hpos pos:Pos}{tb ts:TS}{i:Nat}
theorem to_suite {Rr:RX}{pins:List (Addr×Obj)}{e:Value}{s1:Shared}{nm:Option Str}{Q:Flow→Shared→Prop}{E:Value→Shared→Prop}(hD:DefCx X)(hg:Gl X x)(hmg:X.mg x=some (.ref C))
  (hm:∀ cls dd σ H,Rr cls dd σ H→∃ C',cls=.ref C'∧PySem.W.kitCls X.K (.ref C') (.ref C)=some true) (hC:PySem.W.mroIn X.K C (.type "BaseException")=some true) (hdb:(x == ("__debug__":Str))=false)
  (q:xeT (cxP X (X.pn++pins)) Rr e s1)
  (k:∀ (xa:Addr) (cls:Value) (dd:Option Addr) (σ':L2.St) (H':Hp) (B h5:Heap),e=.ref xa→Rr cls dd σ' H'→H' xa=none→FlyD B (fun b=>H' b=none) (X.env::X.outer) xa cls dd .none h5 →
   (∀ h6,FlyD B (fun b=>H' b=none) (X.env::X.outer) xa cls dd .none h6→h5.UpToSlots h6→Inv (cxP X (X.pn++pins)) [] σ' (upd H' xa (excO xa cls dd)) { s1 with heap:=h6 }) →
   codeAny (model X.prog X.w) (X.A.mark (some (.ref xa))) (.handlers (.ref xa) [.ExceptHandler none nm (b₀::suite) hpos] X.env) (fun r s₂=>match r with
    | .ok f=>(match nm with | none=>Q f s₂ | some n=>wpAny (model X.prog X.w) X.A (do bindName X.env n .none; unbindBehindTheSuite X.env n hpos) (fun _ s₃=>Q f s₃) E s₂)
    | .error y=>cameBackBy (model X.prog X.w) X.A X.env E y s₂) { s1 with heap:=h5 }) :
  wpAny (model X.prog X.w) X.A (noteFrame e X.env) (fun _ s2=>wpAny (model X.prog X.w) X.A (setFlight e none) (fun _ s3=>wpAny (model X.prog X.w) X.A (handleBy e X.env [.ExceptHandler (some (.Name x np)) nm (b₀::suite) hpos]) Q E s3) E s2) E s1:=by
 obtain ⟨xa,cls,dd,σ',H',B,rfl,J,fl,cov,hf,dct,r⟩:=q
 have hfr:X.A.frames=some (X.env::X.outer):=by rw [← hD.stk]; exact J.ok.frames
 have fl':FlyD B (fun b=>H' b=none) (X.env::X.outer) xa cls dd .none s1.heap:=by
  rw [← hD.stk]
  exact fl
 refine lands_d hfr fl'.fr hD.frm fl'.st fl'.ne (.inr fl'.tr) fun h5 f5 up5=>?_
 have land:∀ h6,FlyD B (fun b=>H' b=none) (X.env::X.outer) xa cls dd .none h6→s1.heap.UpToSlots h6→Inv (cxP X (X.pn++pins)) [] σ' H' { s1 with heap:=h6 }:=fun h6 f6 up6=>land_ok hD.p J f6.st up6 cov
 obtain ⟨C',rfl,hk⟩:=hm cls dd σ' H' r
 have J5:=land h5 f5 up5
 refine wpAny_handleBy_cons (codeAny_handlers_test ?_) (by intro z; cases z)
 refine ld_glob (X:=cxH (cxP X (X.pn++pins)) xa) (inv_toH J5) hg hmg ?_ hdb
 obtain ⟨sl5,vs5,_,_,_,he5,_⟩:=id f5.tr
 refine exc_matches (K:=X.K) J5.kIn hk hC he5 rfl _ _ _ _ (fun _ _ z=>z) ?_
 refine k xa (.ref C') dd σ' H' B h5 rfl r hf f5 fun h6 f6 up6=>?_
 have J6:=land h6 f6 (up5.trans up6)
 obtain ⟨sl6,vs6,_,_,_,he6,_⟩:=id f6.tr
 have nfr:xa∉frs (X.env::X.outer):=fun z=>by
  obtain ⟨_,o,ho,nf⟩:=f6.fr.mem z
  rw [he6] at ho
  cases ho
  exact nf _ rfl
 have no:∀ {P:Prop},((∃ u,X.s₀.heap.get? xa=some u)∨(∃ u,H' xa=some u)∨∃ p∈X.pn++pins,p.1=xa)→P:=fun {P} z=>by
  obtain ⟨sl1,vs1,_,_,_,he1,_⟩:=id fl'.tr
  have c:=cov xa _ he1 (by show xa∉frs X.stack; rw [hD.stk]; exact nfr) z
  rw [fl'.ne] at c
  cases c
 refine track_exc J6 he6 hf ?_ (fun z=>nfr ((mem_frs hD.frm).mpr (.inl z))) fun p hp z=>no (.inr (.inr ⟨p,hp,z⟩))
 cases z:X.s₀.heap.get? xa with
 | none=>exact z
 | some u=>exact no (.inl ⟨u,z⟩)
theorem ps_tryAs {Rr:RX}(hD:DefCx X)(hg:Gl X x)(hmg:X.mg x=some (.ref C))(hm:∀ cls dd σ H,Rr cls dd σ H→∃ C',cls=.ref C'∧PySem.W.kitCls X.K (.ref C') (.ref C)=some true)(hC:PySem.W.mroIn X.K C (.type "BaseException")=some true)
  (hN:X.N.Nodup) (hi:X.N[i]?=some n) (hk:X.env.kindOf n=some .local) (hb:∀ pn,PSs ((cxP X pn).wish (xeT (cxP X pn) Rr)) body tb) (hs:∀ pn xa,PSs (cxH (cxP X pn) xa) (b₀::suite) ts) (hdb:(x == ("__debug__":Str))=false:=by decide) :
  PS X (.Try body [.ExceptHandler (some (.Name x np)) (some n) (b₀::suite) hpos] [] [] pos) (tTryAs Rr i tb ts):=by
 intro pins s σ H D I h
 obtain ⟨h1,h2⟩:=h
 refine wpAny_Try_except (wpAny_mono (hb (X.pn++pins) [] s σ H D ((inv_toP I).wish _) h1) (fun f s1 q=>?_) (fun e s1 q=>?_))
 ·have q':SP X pins D f s1:=sp_ofP q.unwish
  cases f with
  | next=>exact wpAny_execs_nil q'
  | brk=>exact q'
  | cont=>exact q'
  | ret u=>exact q'
 ·refine to_suite (nm:=some n) hD hg hmg hm hC hdb q fun xa cls dd σ' H' B h5 ee r hf f5 land=>?_
  subst ee
  refine codeAny_handlers_suite_as (flight_d (s:={ s1 with heap:=h5 }) f5 fun h6 f6 up6=>?_)
  have J7:=land h6 f6 up6
  refine store_ok (X:=cxH (cxP X (X.pn++pins)) xa) (v:=.ref xa) (inv_toH J7) hN hi (.inl hk) rfl (fun s7 I7=>?_) (.inr hk)
  refine wpAny_mono (hs (X.pn++pins) xa [] _ _ _ (asEnds i D) I7 (h2 cls dd σ' H' xa r hf)) (fun f s8 z=>?_) (fun _ _ z=>z.elim)
  have go:∀ {σ8:L2.St} {H8:Hp},Inv (cxH (cxP X (X.pn++pins)) xa) [] σ8 H8 s8→(∀ s9,Inv X pins (σ8.set i none) H8 s9→SP X pins D f s9) →
    wpAny (model X.prog X.w) X.A (do bindName X.env n .none; unbindBehindTheSuite X.env n hpos) (fun _ s9=>SP X pins D f s9) X.xe s8:=fun {σ8 H8} I8 kk=>by
   have I8':=inv_ofP (inv_ofH J7.ok I8)
   have il:i<σ8.length:=by rw [I8'.len]; exact (List.getElem?_eq_some_iff.mp hi).1
   refine wpAny_bind (wpAny_bindName (store_ok (v:=.non) I8' hN hi (.inl hk) rfl (fun s9 I9=>?_) (.inr hk)))
   unfold unbindBehindTheSuite
   refine wpAny_onRaise (unbind_ok I9 hN hi hk (List.getElem?_set_self il) fun s10 I10=>kk s10 ?_)
   rw [List.set_set] at I10
   exact I10
  cases f with
  | next =>
   obtain ⟨σ8,H8,I8,q8⟩:=z
   exact go I8 fun s9 I9=>⟨_,H8,I9,q8⟩
  | brk =>
   obtain ⟨σ8,H8,I8,q8⟩:=z
   exact go I8 fun s9 I9=>⟨_,H8,I9,q8⟩
  | cont =>
   obtain ⟨σ8,H8,I8,q8⟩:=z
   exact go I8 fun s9 I9=>⟨_,H8,I9,q8⟩
  | ret u =>
   obtain ⟨v,σ8,H8,I8,r8,q8⟩:=z
   exact go I8 fun s9 I9=>⟨v,_,H8,I9,r8,q8⟩
end
structure FnX (P:Program)(w:World)(K:PySem.W.Frag)(mg:Str→Option Value)(base:Heap)(x:Str)(k:Nat)(ps:List Str)(sp:Sp):Prop where
 ex:∃ (f:Addr) (fd:FuncData),FnOk P w K mg base (CXe P w) k f fd ps sp∧mg x=some (.ref f)∧PySem.W.keepIn K (.ref f)=true∧Binds K fd ps []
theorem Def.fnX {P:Program}{w:World}{K:PySem.W.Frag}{mg:Str→Option Value}{base:Heap}{x:Str}{st:Stmt}{k:Nat}{ps:List Str}{sp:Sp}(D:Def K mg x st)
  (b:∀ (kV doc pm:Value) (an:Option Addr) (cdv ct:Value) (us:List Value),us.length=ps.length→bindArgs (PySem.W.fnOf x x (defArgs st) (defBody st) (defScope st) .none kV doc pm an cdv ct) ⟨us,[]⟩=pure (ps.zip us))
  (ok:∀ (f:Addr) (fd:FuncData),Fun K x x st f fd→FnOk P w K mg base (CXe P w) k f fd ps sp):FnX P w K mg base x k ps sp:=by
 obtain ⟨f,fd,F,m⟩:=D.ex
 exact ⟨⟨f,fd,ok f fd F,m,F.kp,F.binds b⟩⟩
section
variable {X:Cx}{x:Str}{k j:Nat}{ps:List Str}{sp:Sp}{e:Expr}{es:List Expr}{t:TA}{p pos:Pos}
theorem pe_fnX {E:XK}(F:FnX X.prog X.w X.K X.mg X.base x k ps sp)(hX:XeOut X E)(hr:Room j X.A)(hk:k≤j)(hg:Gl X x)(ha:PA X (e::es) t)(hdb:(x == ("__debug__":Str))=false:=by decide)
  (he:starEach (e::es) X.env=(false,eval e X.env)::starEach es X.env:=by rfl) (hpl:(backTo pos (starEach es X.env)).any (·.1)=false:=by rfl):PE X (.Call (.Name x p) (e::es) [] pos) (tCall sp [] E t):=by
 obtain ⟨f,fd,G,m,kp,b⟩:=F.ex
 exact pe_call G (hr.mono hk) hg m kp b .nil (pass_on hX) ha hdb he hpl
end
section
variable {prog:Program}{w:World}{A:Around}{E:Value→Shared→Prop}{K:PySem.W.Frag}{x D:Addr}{ox:Obj}{odo:Option Obj}{name:Str}{s:Shared}
theorem ga_bind (self:Value):bindSpecial (.builtin "BaseException.__getattribute__") self=pure (.builtin "BaseException.__getattribute__",[self]):=F.excAttr_ValueError.ga.bind self
theorem ga_body {g a:Value}{tk:Tok}{Q:Fin→Shared→Prop}(X:K.In s.heap)(I:PySem.W.InstAt s.heap x ox D odo)(hf:PySem.W.findObj K D odo name=some (.bind g a))
  (h:wpAny (model prog w) A (call g [a,.ref x,.ref D]) (fun v s'=>Q (.done (.ret v)) s') E s) :
  wpAny (model prog w) A (Builtin.«object.__getattribute__» ⟨[.ref x,.str name tk],[]⟩) Q E s:=by
 obtain ⟨hh,gg,d,t,os⟩:=s
 have L0:=I.type (M:=model prog w)
 have L1:=PySem.W.looks_find (M:=model prog w) X I hf
 unfold Builtin.«object.__getattribute__»
 refine wpAny_bind (wpAny_pure (wpAny_bind (wpAny_pure (wpAny_bind (L0.at (wpAny_bind (L1.at ?_)))))))
 show wpAny _ _ (holding [a] (call g [a,.ref x,.ref D]) >>= ret) _ _ _
 exact wpAny_bind (wpAny_holding (wpAny_mono h (fun v s' z=>wpAny_pure z) fun _ _ z=>z))
theorem ga_check {M:Model}{nameV:Value}{Q:Unit→Shared→Prop}(X:K.In s.heap)(I:PySem.W.InstAt s.heap x ox D odo)(hb:PySem.W.mroIn K D (.type "BaseException")=some true)(hq:Q () s) :
  wpAny M A (checkBuiltinCall "BaseException.__getattribute__" ⟨[.ref x,nameV],[]⟩) Q E s:=by
 obtain ⟨hh,gg,d,t,os⟩:=s
 have hk:builtinKind "BaseException.__getattribute__"=some .slot:=by decide +kernel
 have hsplit:splitId "BaseException.__getattribute__"=some ("BaseException","__getattribute__"):=by decide +kernel
 have L0:=I.type (M:=M)
 have L1:=PySem.W.looks_mroIn (M:=M) X hb
 have ha:=F.args_bexc_ga (.ref x) nameV
 simp only [checkBuiltinCall,hk,hsplit]
 refine wpAny_bind ?_
 unfold isInstance
 refine wpAny_bind (L0.at (L1.at ?_))
 repeat (first | assumption | wp_step)
end
structure ExcI (K:PySem.W.Frag)(D:Addr):Prop where
 hg:PySem.W.findIn K (.ref D) "__getattribute__"=some (some (.builtin "BaseException.__getattribute__"))
 hgn:PySem.W.findIn K (.ref D) "__getattr__"=some none
 hd:PySem.W.hasDictIn K D=true
 ha:PySem.W.findIn K (.ref D) "__class__"=some (some (.builtin "object.__class__"))
 hn:PySem.W.specialIn K (.builtin "object.__class__") "__get__"=some (some (.builtin "getset_descriptor.__get__"))
 ht:PySem.W.takesIn K (.builtin "object.__class__")=some true
 hb:PySem.W.mroIn K D (.type "BaseException")=some true
 hm:PySem.W.mroIn K D (.type "object")=some true
theorem kitCls_ref {K:PySem.W.Frag}{t:Value}{C:Addr}{b:Bool}(h1:PySem.W.hasDictIn K C=true)(h2:PySem.W.typeIn K (.ref C)=some (.type "type"))(h3:PySem.W.subIn K t (.ref C)=some b):PySem.W.kitCls K t (.ref C)=some b:=by
 obtain ⟨cd,hc,_⟩:=PySem.W.any_some h1
 unfold PySem.W.kitCls
 simp only [hc,h2,h3,Option.isSome_some,beq_self_eq_true,Bool.and_self,if_true]
def clsV:V→Value
 | .ty T=>.type T
 | .ref C=>.ref C
 | _=>.none
theorem bo_ValueError:bootBuiltins "ValueError"=some (.type "ValueError"):=by decide +kernel
def jn:List TE→Str→TE
 | [],acc=>fun _ H Q=>Q (.str acc) H
 | t::r,acc=>fun σ H Q=>t σ H fun x H1=>∃ y,x=.str y∧(acc++y).length≤sizeLine∧jn r (acc++y) σ H1 Q
def PJ (X:Cx)(es:List Expr)(ts:List TE):Prop:=∀ (acc:Str) (pins:List (Addr×Obj)) (s:Shared) (σ:L2.St) (H:Hp) (Q:VK),Inv X pins σ H s→acc.length≤sizeLine→jn ts acc σ H Q→wpAny (model X.prog X.w) X.A (joinParts acc (evalEach es X.env)) (EP X pins σ Q) X.xe s
section
variable {X:Cx}{e v₁ v₂:Expr}{es rest:List Expr}{t:TE}{ts:List TE}{pos:Pos}
theorem pj_nil:PJ X [] []:=fun acc pins s σ H Q I hz h=>joinParts_nil ⟨.str acc,H,I.tok _,⟨_,rfl⟩,h⟩ hz
theorem pj_cons (he:PE X e t)(hr:PJ X es ts)(hs:evalEach (e::es) X.env=eval e X.env::evalEach es X.env:=by rfl):PJ X (e::es) (t::ts):=by
 intro acc pins s σ H Q I hz h
 rw [hs]
 refine joinParts_cons (thn (he pins s σ H _ I h) fun u s1 ⟨x,H1,I1,r1,y,ex,hz1,q⟩=>?_)
 subst ex
 obtain ⟨tk,rfl⟩:=r1
 exact ⟨hz1,hr (acc++y) pins s1 σ H1 Q I1 hz1 q⟩
theorem pe_fstr (h:PJ X (v₁::v₂::rest) ts):PE X (.JoinedStr (v₁::v₂::rest) pos) (jn ts Str.empty):=fun pins s σ H Q I q=>JoinedStr_many (h Str.empty pins s σ H Q I (Nat.zero_le _) q)
def tFmt (te:TE):TE:=fun σ H Q=>te σ H fun x H1=>(∃ y,x=.str y∧y.length≤sizeLine∧Q (.str y) H1)∨∃ i:Int,x=.int i∧i.natAbs.log2<1920∧Q (.str (toString i)) H1
theorem pe_fmt (he:PE X e t):PE X (.FormattedValue e (-1) none pos) (tFmt t):=by
 intro pins s σ H Q I h
 refine FormattedValue_plain (thn (he pins s σ H _ I h) fun u s1 ⟨x,H1,I1,r1,q⟩=>?_)
 rcases q with ⟨y,rfl,hz,q⟩ | ⟨i,rfl,hl,q⟩
 ·obtain ⟨tk,rfl⟩:=r1
  exact PyProof.Rows.formatField_str (fun t' tk'=>⟨.str y,H1,I1.tok _,⟨t',rfl⟩,q⟩) hz
 ·obtain ⟨tk,rfl⟩:=r1
  exact wpAny_formatField_int hl ⟨.str (toString i),H1,I1.tok _,⟨_,rfl⟩,q⟩
theorem jn0_ {acc:Str}{σ:L2.St}{H:Hp}{Q:VK}:jn [] acc σ H Q=Q (.str acc) H:=rfl
def JnR (r:List TE)(acc:Str)(σ:L2.St)(Q:VK)(x:V)(H1:Hp):Prop:=∃ y,x=.str y∧(acc++y).length≤sizeLine∧jn r (acc++y) σ H1 Q
theorem jnC_ {acc:Str}{σ:L2.St}{H:Hp}{Q:VK}:jn (t::ts) acc σ H Q=t σ H fun x H1=>JnR ts acc σ Q x H1:=rfl
theorem JnR.go {r:List TE}{acc y:Str}{σ:L2.St}{Q:VK}{H1:Hp}(h:(acc++y).length≤10000000)(q:jn r (acc++y) σ H1 Q):JnR r acc σ Q (.str y) H1:=⟨y,rfl,Nat.le_trans h (by decide),q⟩
def RepR (Q:VK)(x:V)(H1:Hp):Prop:=∃ y,x=.str y∧(reprText y).length≤sizeLine∧Q (.str (reprText y)) H1
theorem RepR.go {y:Str}{Q:VK}{H1:Hp}(h:(reprText y).length≤10000000)(q:Q (.str (reprText y)) H1):RepR Q (.str y) H1:=⟨y,rfl,Nat.le_trans h (by decide),q⟩
def RaR (C:Addr)(E:XK)(vs:List V)(H1:Hp):Prop:=vs.length≤sizeLine∧E (.ref C) none H1
theorem RaR.go {C:Addr}{E:XK}{vs:List V}{H1:Hp}(h:vs.length≤1000)(q:E (.ref C) none H1):RaR C E vs H1:=⟨Nat.le_of_lt (small1000 h),q⟩
theorem asnx_ {i:Nat}{D:Ends}{σ:L2.St}{H:Hp}:(asEnds i D).nx σ H=D.nx (σ.set i none) H:=rfl
theorem asrt_ {i:Nat}{D:Ends}:(asEnds i D).rt=D.rt:=rfl
end
end Sv
namespace Sv
open PySem PySem.Spec PyProof.Rows L2
section
variable {X:Cx}
def steps (c hi:Int):Nat:=(Builtin.Range.rangeSize 0 hi c).toNat
end
section
variable {H:Hp}{Q:VK}{σ:L2.St}{tr:TA}
def RngS (c:Int)(vs:List V)(H:Hp)(R:It→Hp→Prop):Prop:=∃ j:Int,vs=[.int 0,.int j,.int c]∧0≤j∧j<1000000∧R (Its 0 c (steps c j)) H
theorem RngS.go {c j:Int}{R:It→Hp→Prop}(h1:0≤j)(h2:j<1000000)(q:R (Its 0 c (steps c j)) H):RngS c [.int 0,.int j,.int c] H R:=⟨j,rfl,h1,h2,q⟩
theorem rEqB_ {i j:Bool}:rEq (.bl i) (.bl j) H Q=Q (.bl (decide (i=j))) H:=by
 unfold rEq
 have e:(V.bl i=V.bl j)=(i=j):=propext ⟨fun h=>V.bl.inj h,fun h=>by rw [h]⟩
 simp only [e]
 exact propext ⟨fun h=>h.2,fun h=>⟨rfl,h⟩⟩
end
theorem ix_tupK {X:Cx}{K:PySem.W.Frag}(h:X.K=K):IxR X (rIxT K):=h▸ix_tup
theorem ix_listK {X:Cx}{K:PySem.W.Frag}(h:X.K=K):IxR X (rIxL K):=h▸ix_list
def IntB:List V→Hp→VK→Prop:=fun xs H Q=>∃ k,xs=[.bl k]∧Q (.int (if k=true then 1 else 0)) H
theorem IntB.go {b:Bool}{H:Hp}{Q:VK}(q:Q (.int (if b=true then 1 else 0)) H):IntB [.bl b] H Q:=⟨b,rfl,q⟩
end Sv
namespace Sv
open PySem PySem.Spec PyProof.Rows L2
section
variable {X:Cx}
end
theorem shaped_of {d:PyData}(h1:d.canLay0=true)(h2:d.depth≤64):SeqAt.shaped d=true:=by
 unfold SeqAt.shaped
 rw [h1,decide_eq_true h2]
 rfl
theorem canLayAll_of {α:Type}(g:α→PyData)(h:∀ x,(g x).canLay0=true):∀ xs:List α,PyData.canLayAll0 (xs.map g)=true
 | []=>by simp [PyData.canLayAll0]
 | x::xs=>by rw [List.map_cons,PyData.canLayAll0.eq_2,h x,canLayAll_of g h xs]; rfl
theorem depthAll_of {α:Type}(g:α→PyData){n:Nat}(h:∀ x,(g x).depth≤n):∀ xs:List α,PyData.depthAll (xs.map g)≤n
 | []=>by simp [PyData.depthAll]
 | x::xs=>by
  rw [List.map_cons,PyData.depthAll.eq_2]
  exact Nat.max_le.mpr ⟨h x,depthAll_of g h xs⟩
def pairD (b:Int×Int):PyData:=.tuple [.int b.1,.int b.2]
def boxD (bs:List (Int×Int)):PyData:=.tuple (bs.map pairD)
theorem pairD_lay (b:Int×Int):(pairD b).canLay0=true:=by simp [pairD,PyData.canLay0,PyData.canLayAll0]
theorem pairD_deep (b:Int×Int):(pairD b).depth≤2:=by simp [pairD,PyData.depth,PyData.depthAll]
theorem boxD_lay (bs:List (Int×Int)):(boxD bs).canLay0=true:=by
 have:=canLayAll_of pairD pairD_lay bs
 simp [boxD,PyData.canLay0,this]
theorem boxD_deep (bs:List (Int×Int)):(boxD bs).depth≤3:=by
 have:=depthAll_of pairD pairD_deep bs
 simp only [boxD,PyData.depth]
 omega
theorem boxD_shaped (bs:List (Int×Int)):SeqAt.shaped (boxD bs)=true:=shaped_of (boxD_lay bs) (Nat.le_trans (boxD_deep bs) (by decide))
theorem eqvAll_of {α:Type}(g:α→PyData)(h:∀ x y,PyData.eqv (g x) (g y)=true↔x=y):∀ xs ys:List α,PyData.eqvAll (xs.map g) (ys.map g)=true↔xs=ys
 | [],[]=>by simp [PyData.eqvAll]
 | [],y::ys=>by simp [PyData.eqvAll]
 | x::xs,[]=>by simp [PyData.eqvAll]
 | x::xs,y::ys=>by
  rw [List.map_cons,List.map_cons]
  simp only [PyData.eqvAll,Bool.and_eq_true,h x y,eqvAll_of g h xs ys,List.cons.injEq]
theorem pair_eqv (b c:Int×Int):PyData.eqv (pairD b) (pairD c)=true↔b=c:=by
 obtain ⟨a,b⟩:=b
 obtain ⟨c,d⟩:=c
 simp [pairD,PyData.eqv,PyData.eqvAll]
theorem box_eqv (bs cs:List (Int×Int)):PyData.eqv (boxD bs) (boxD cs)=true↔bs=cs:=by
 have:=eqvAll_of pairD pair_eqv bs cs
 simpa [boxD,PyData.eqv] using this
inductive Strs (H:Hp):List V→List (Int×Int)→Prop where
 | nil:Strs H [] []
 | cons {a:Addr} {lo hi:Int} {vs:List V} {bs:List (Int×Int)} (h:H a=some (.tup [.int lo,.int hi])) (t:Strs H vs bs):Strs H (.ref a::vs) ((lo,hi)::bs)
section
variable {H H':Hp}{vs ws:List V}{bs cs:List (Int×Int)}{p a:Addr}
theorem Strs.len (h:Strs H vs bs):vs.length=bs.length:=by
 induction h with
 | nil=>rfl
 | cons _ _ ih=>rw [List.length_cons,List.length_cons,ih]
theorem Strs.mono (h:Strs H vs bs)(k:∀ a xs,H a=some (.tup xs)→H' a=some (.tup xs)):Strs H' vs bs:=by
 induction h with
 | nil=>exact .nil
 | cons h _ ih=>exact .cons (k _ _ h) ih
theorem Strs.upd {xs:List V}{o:HO}(h:Strs H vs bs)(e:H p=some (.lst xs)):Strs (upd H p o) vs bs:=h.mono fun a ys q=>by
 have n:a≠p:=fun z=>by rw [z,e] at q; cases q
 rw [upd_ne n]
 exact q
theorem Strs.app (h:Strs H vs bs)(k:Strs H ws cs):Strs H (vs++ws) (bs++cs):=by
 induction h with
 | nil=>exact k
 | cons h _ ih=>exact .cons h ih
theorem Strs.at {i:Nat}{x:V}(h:Strs H vs bs)(e:vs[i]?=some x):∃ a lo hi,x=.ref a∧bs[i]?=some (lo,hi)∧H a=some (.tup [.int lo,.int hi]):=by
 induction h generalizing i with
 | nil=>cases e
 | cons h _ ih =>
  cases i with
  | zero =>
   cases e
   exact ⟨_,_,_,rfl,rfl,h⟩
  | succ j=>exact ih e
theorem Strs.take {n:Nat}(h:Strs H vs bs):Strs H (vs.take n) (bs.take n):=by
 induction h generalizing n with
 | nil=>rw [List.take_nil,List.take_nil]; exact .nil
 | cons h _ ih =>
  cases n with
  | zero=>exact .nil
  | succ m=>exact .cons h ih
theorem Strs.drop {n:Nat}(h:Strs H vs bs):Strs H (vs.drop n) (bs.drop n):=by
 induction h generalizing n with
 | nil=>rw [List.drop_nil,List.drop_nil]; exact .nil
 | cons h t ih =>
  cases n with
  | zero=>exact .cons h t
  | succ m=>exact ih
theorem Strs.dts (h:Strs H vs bs):Dts H vs (bs.map pairD):=by
 induction h with
 | nil=>exact .nil
 | cons h _ ih=>exact .cons (.tup (.inl h) (.cons (.int _) (.cons (.int _) .nil))) ih
def IsBox (H:Hp)(p:Addr)(bs:List (Int×Int)):Prop:=∃ vs,H p=some (.tup vs)∧Strs H vs bs
theorem IsBox.dt (h:IsBox H p bs):Dt H (.ref p) (boxD bs):=by
 obtain ⟨vs,e,t⟩:=h
 exact .tup (.inl e) t.dts
theorem _root_.L2.Same.put {o:HO}(s:Same H H')(h:H p=none):Same H (upd H' p o):=fun b u e=>by
 rw [upd_ne (ne_of_none e h)]
 exact s b u e
end
section
variable {X:Cx}{H:Hp}{Q:VK}{p:Addr}{ys:List V}{K:PySem.W.Frag}
def TupOf (K:PySem.W.Frag):List V→Hp→VK→Prop:=fun xs H Q=>∃ p ys,xs=[.ref p]∧((SqL K H p ys∧∀ l,H l=none→Q (.ref l) (upd H l (.tup ys)))∨(SqT K H p ys∧Q (.ref p) H))
def LstOf (K:PySem.W.Frag):List V→Hp→VK→Prop:=fun xs H Q=>∃ p ys,xs=[.ref p]∧(SqL K H p ys∨SqT K H p ys)∧∀ l,H l=none→Q (.ref l) (upd H l (.lst ys))
theorem call_tupleR:CallR X (.type "tuple") (TupOf X.K):=call_tuple_of
theorem call_listR:CallR X (.type "list") (LstOf X.K):=call_list_of
theorem TupOf.lst (h:SqL K H p ys)(q:∀ l,H l=none→Q (.ref l) (upd H l (.tup ys))):TupOf K [.ref p] H Q:=⟨p,ys,rfl,.inl ⟨h,q⟩⟩
theorem LstOf.lst (h:SqL K H p ys)(q:∀ l,H l=none→Q (.ref l) (upd H l (.lst ys))):LstOf K [.ref p] H Q:=⟨p,ys,rfl,.inl h,q⟩
end
end Sv
namespace Sv
open PySem L2
end Sv
namespace Sv
open PySem L2
section
variable {K:PySem.W.Frag}{H:Hp}{Q:VK}{p r:Addr}{bs cs:List (Int×Int)}{ns:List Int}{i:Nat}
def meetOf (b c:Int×Int):Int×Int:=(max b.1 c.1,min b.2 c.2)
def full (b:Int×Int):Bool:=decide (b.1≤b.2)
def meets (bs cs:List (Int×Int)):List (Int×Int):=List.zipWith meetOf bs cs
def bothOf (bs cs:List (Int×Int)):Option (List (Int×Int)):=if (meets bs cs).all full=true then some (meets bs cs) else none
end
end Sv
namespace Sv
open PySem L2
theorem bool_eq_dec {b:Bool}{c:Prop} [Decidable c](h:b=true↔c):b=decide c:=by
 rw [Bool.eq_iff_iff,h,decide_eq_true_iff]
theorem eqB_go {H:Hp}{Q:VK}{p r:Addr}{bs cs:List (Int×Int)}(h:IsBox H p bs)(h':IsBox H r cs)(q:Q (.bl (decide (bs=cs))) H):rEqD false (.ref p) (.ref r) H Q:=by
 refine ⟨boxD bs,boxD cs,h.dt,h'.dt,boxD_shaped _,boxD_shaped _,?_⟩
 rw [if_neg Bool.false_ne_true,bool_eq_dec (box_eqv bs cs)]
 exact q
theorem eqN_go {H:Hp}{Q:VK}{r:Addr}{cs:List (Int×Int)}(h':IsBox H r cs)(q:Q (.bl false) H):rEqD false .non (.ref r) H Q:=by
 refine ⟨.none,boxD cs,.non,h'.dt,by decide,boxD_shaped _,?_⟩
 rw [if_neg Bool.false_ne_true,show PyData.eqv .none (boxD cs)=false by simp [boxD,PyData.eqv]]
 exact q
end Sv
namespace Sv
open PySem L2
def BothV (H:Hp)(bs cs:List (Int×Int))(v:V):Prop:=(v=.non∧bothOf bs cs=none)∨∃ x ds,v=.ref x∧bothOf bs cs=some ds∧IsBox H x ds
theorem BothV.eqv {H:Hp}{Q:VK}{p:Addr}{bs cs ds:List (Int×Int)}{v:V}(h:BothV H bs cs v)(hp:IsBox H p ds)(q:Q (.bl (decide (bothOf bs cs=some ds))) H):rEqD false v (.ref p) H Q:=by
 rcases h with ⟨rfl,e⟩ | ⟨x,es,rfl,e,hx⟩
 ·rw [e] at q
  exact eqN_go hp q
 ·rw [e,show decide (some es=some ds)=decide (es=ds) by simp] at q
  exact eqB_go hx hp q
end Sv
namespace Sv
open PySem L2
section
variable {K:PySem.W.Frag}{σ:L2.St}{H:Hp}{Q:VK}{p:Addr}{xs:List V}{k:Nat}{r:V→Option Int→Option Int→Hp→VK→Prop}{te:TE}{tl th:TO}{Qo:Option Int→Hp→Prop}
theorem slice_:tSl r te tl th σ H Q=te σ H fun x H1=>tl σ H1 fun l H2=>th σ H2 fun u H3=>r x l u H3 Q:=rfl
theorem nopart_:tNoPart σ H Qo=Qo none H:=rfl
def PartR (x:V)(H:Hp)(Qo:Option Int→Hp→Prop):Prop:=∃ i,x=.int i∧Qo (some i) H
theorem part_:tPart te σ H Qo=te σ H fun x H1=>PartR x H1 Qo:=rfl
theorem PartR.go {i:Int}(q:Qo (some i) H):PartR (.int i) H Qo:=⟨i,rfl,q⟩
theorem cut_take (h:k≤xs.length):cutV xs none (some (k:Int))=xs.take k:=by
 unfold cutV
 rw [HT.sIx_nat,HT.sIx_none,Nat.min_eq_left h,List.drop_zero,Nat.sub_zero]
theorem cut_drop (h:k≤xs.length):cutV xs (some (k:Int)) none=xs.drop k:=by
 unfold cutV
 rw [HT.sIx_nat,HT.sIx_none,Nat.min_eq_left h]
 exact List.take_of_length_le (by rw [List.length_drop]; exact Nat.le_refl _)
theorem slTake_go (h:SqL K H p xs)(hk:k≤xs.length)(q:∀ l,H l=none→Q (.ref l) (upd H l (.lst (xs.take k)))):rSlL K (.ref p) none (some (k:Int)) H Q:=⟨p,xs,rfl,h,by rw [cut_take hk]; exact q⟩
theorem cut_takeA:cutV xs none (some (k:Int))=xs.take k:=by
 by_cases h:k≤xs.length
 ·exact cut_take h
 ·unfold cutV
  rw [HT.sIx_nat,HT.sIx_none,List.drop_zero,Nat.sub_zero,Nat.min_eq_right (by omega),List.take_of_length_le (Nat.le_refl _),List.take_of_length_le (by omega)]
theorem slTakeA_go (h:SqL K H p xs)(q:∀ l,H l=none→Q (.ref l) (upd H l (.lst (xs.take k)))):rSlL K (.ref p) none (some (k:Int)) H Q:=⟨p,xs,rfl,h,by rw [cut_takeA]; exact q⟩
end
inductive Bxs (H:Hp):List V→List (List (Int×Int))→Prop where
 | nil:Bxs H [] []
 | cons {p:Addr} {b:List (Int×Int)} {vs:List V} {bss:List (List (Int×Int))} (h:IsBox H p b) (t:Bxs H vs bss):Bxs H (.ref p::vs) (b::bss)
section
variable {H H':Hp}{vs ws:List V}{bss css:List (List (Int×Int))}{p:Addr}
theorem IsBox.mono {b:List (Int×Int)}(h:IsBox H p b)(k:∀ a xs,H a=some (.tup xs)→H' a=some (.tup xs)):IsBox H' p b:=by
 obtain ⟨vs,e,t⟩:=h
 exact ⟨vs,k _ _ e,t.mono k⟩
theorem upd_tup {xs:List V}{o:HO}(e:H p=some (.lst xs)):∀ a ys,H a=some (.tup ys)→upd H p o a=some (.tup ys):=fun a ys q=>by
 have n:a≠p:=fun z=>by rw [z,e] at q; cases q
 rw [upd_ne n]
 exact q
theorem IsBox.upd {b:List (Int×Int)}{xs:List V}{o:HO}{l:Addr}(h:IsBox H p b)(e:H l=some (.lst xs)):IsBox (upd H l o) p b:=h.mono (upd_tup e)
theorem Bxs.mono (h:Bxs H vs bss)(k:∀ a xs,H a=some (.tup xs)→H' a=some (.tup xs)):Bxs H' vs bss:=by
 induction h with
 | nil=>exact .nil
 | cons h _ ih=>exact .cons (h.mono k) ih
theorem Bxs.upd {xs:List V}{o:HO}{l:Addr}(h:Bxs H vs bss)(e:H l=some (.lst xs)):Bxs (upd H l o) vs bss:=h.mono (upd_tup e)
theorem Bxs.len (h:Bxs H vs bss):vs.length=bss.length:=by
 induction h with
 | nil=>rfl
 | cons _ _ ih=>rw [List.length_cons,List.length_cons,ih]
theorem Bxs.app (h:Bxs H vs bss)(k:Bxs H ws css):Bxs H (vs++ws) (bss++css):=by
 induction h with
 | nil=>exact k
 | cons h _ ih=>exact .cons h ih
theorem Bxs.at {i:Nat}{x:V}(h:Bxs H vs bss)(e:vs[i]?=some x):∃ p b,x=.ref p∧bss[i]?=some b∧IsBox H p b:=by
 induction h generalizing i with
 | nil=>cases e
 | cons h _ ih =>
  cases i with
  | zero =>
   cases e
   exact ⟨_,_,rfl,rfl,h⟩
  | succ j=>exact ih e
theorem Bxs.take {n:Nat}(h:Bxs H vs bss):Bxs H (vs.take n) (bss.take n):=by
 induction h generalizing n with
 | nil=>rw [List.take_nil,List.take_nil]; exact .nil
 | cons h _ ih =>
  cases n with
  | zero=>exact .nil
  | succ m=>exact .cons h ih
end
end Sv
namespace Sv
open PySem PySem.Spec PyProof.Rows L2
section
variable {P:Program}{w:World}{A:Around}{E:Value→Shared→Prop}{s:Shared}
theorem nextT {q p:Addr}{i:Nat}{its:Array Value}{x:Value}{Q:Value→Shared→Prop}(hq:s.heap.IsTupleIter q p i)(hp:s.heap.IsTuple p its)(hx:its[i]?=some x)
  (k:∀ h',h'.IsTupleIter q p (i+1)→Heap.SameBut q s.heap h'→Q x { s with heap:=h' }):wpAny (model P w) A (Builtin.SmallTypes.nextOf (.ref q)) Q E s:=by
 obtain ⟨o,ho,hc,hd⟩:=id hq
 obtain ⟨ot,hot,_,nt,hdt⟩:=hp
 unfold Builtin.SmallTypes.nextOf
 refine wpAny_bind (wpAny_callSpecial?_slot (name:=Str.ofString "__next__") hq.typeIs F.slot_tuple_iterator_next (wpAny_call_entry F.slot_tuple_iterator_next hq.typeIs F.entry_tuple_iterator_next ?_ (F.args_tuple_iterator_next_1 _)))
 show wpAny _ _ (field (.ref q) 0 >>= _) _ _ s
 refine wpAny_bind (wpAny_field ho hd (x:=.ref p) rfl ?_)
 show wpAny _ _ (if (Value.ref p == Value.none)=true then _ else _) _ _ s
 rw [if_neg (show ¬ ((Value.ref p == Value.none)=true) from Bool.false_ne_true)]
 show wpAny _ _ (field (.ref q) 1 >>= _) _ _ s
 refine wpAny_bind (wpAny_field ho hd (x:=Value.int i 0) rfl ?_)
 show wpAny _ _ (seqItems? (.ref p) >>= _) _ _ s
 refine wpAny_bind (wpAny_seqItems hot hdt ?_)
 simp only [Int.toNat_natCast,hx]
 refine wpAny_bind (wpAny_setField ho hd (by simp) (wpAny_pure ⟨x,rfl,wpAny_pure (k _ ?_ (Heap.SameBut.update ..))⟩))
 refine ⟨_,Heap.get?_update_self _ ho (Obj.isFreed_of_fields (Obj.data_mapFields hd _)),(Obj.cls_mapFields ..).trans hc,?_⟩
 rw [Obj.data_mapFields hd]
 simp [rawInt]
theorem nextT_end {q p:Addr}{i:Nat}{its:Array Value}{Q:Value→Shared→Prop}(hh:A.handled=none)(hq:s.heap.IsTupleIter q p i)(hp:s.heap.IsTuple p its)(hx:its[i]?=none)
  (k:∀ h' e,Heap.ExtBut q s.heap h'→(∃ o,h'.get? e=some o∧o.cls=.type "StopIteration")→E (.ref e) { s with heap:=h' }):wpAny (model P w) A (Builtin.SmallTypes.nextOf (.ref q)) Q E s:=by
 obtain ⟨o,ho,hc,hd⟩:=id hq
 obtain ⟨ot,hot,_,nt,hdt⟩:=hp
 unfold Builtin.SmallTypes.nextOf
 refine wpAny_bind (wpAny_callSpecial?_slot (name:=Str.ofString "__next__") hq.typeIs F.slot_tuple_iterator_next (wpAny_call_entry F.slot_tuple_iterator_next hq.typeIs F.entry_tuple_iterator_next ?_ (F.args_tuple_iterator_next_1 _)))
 show wpAny _ _ (field (.ref q) 0 >>= _) _ _ s
 refine wpAny_bind (wpAny_field ho hd (x:=.ref p) rfl ?_)
 show wpAny _ _ (if (Value.ref p == Value.none)=true then _ else _) _ _ s
 rw [if_neg (show ¬ ((Value.ref p == Value.none)=true) from Bool.false_ne_true)]
 show wpAny _ _ (field (.ref q) 1 >>= _) _ _ s
 refine wpAny_bind (wpAny_field ho hd (x:=Value.int i 0) rfl ?_)
 show wpAny _ _ (seqItems? (.ref p) >>= _) _ _ s
 refine wpAny_bind (wpAny_seqItems hot hdt ?_)
 simp only [Int.toNat_natCast,hx]
 refine wpAny_bind (wpAny_rule (wpAny_bind (wpAny_setField ho hd (by simp) (show wpAny _ _ (newExc (.type "StopIteration") [] >>= _) _ _ _ from wpAny_bind ?_))))
 simp only [newExc,newTuple]
 refine wpAny_bind (wpAny_newObj_type (wpAny_bind (m:=firstArgMember _ _) (wpAny_of_eq (a:=Value.none) (by first | rfl | (simp only [firstArgMember]; rfl)) (wpAny_newObj_type ?_ (by size_fits)))) (by size_fits))
 simp only [raiseNew]
 refine wpAny_bind (wpAny_handled ?_)
 first | rw [show A.in1.handled=none from hh] | rw [hh]
 refine wpAny_bind (wpAny_pure (wpAny_throw (k _ _ (((Heap.SameBut.update ..).extBut.push _).push _) ⟨_,Heap.get?_push_size _ rfl,rfl⟩)))
def IsIt (h:Heap):Bool→Addr→Addr→Nat→Prop
 | true=>h.IsTupleIter
 | false=>h.IsListIter
def IsSq (h:Heap):Bool→Addr→Array Value→Prop
 | true=>h.IsTuple
 | false=>h.IsList
theorem IsIt.at {h h':Heap}{b:Bool}{q p:Addr}{i:Nat}(x:IsIt h b q p i)(e:∀ o,h.get? q=some o→h'.get? q=some o):IsIt h' b q p i:=by
 cases b
 ·exact Heap.IsListIter.at x e
 ·exact Heap.IsTupleIter.at x e
theorem IsSq.at {h h':Heap}{b:Bool}{p:Addr}{its:Array Value}(x:IsSq h b p its)(e:∀ o,h.get? p=some o→h'.get? p=some o):IsSq h' b p its:=by
 cases b
 ·exact Heap.IsList.at x e
 ·obtain ⟨o,ho,r⟩:=x
  exact ⟨o,e _ ho,r⟩
theorem IsIt.ex {h:Heap}{b:Bool}{q p:Addr}{i:Nat}(x:IsIt h b q p i):∃ o,h.get? q=some o∧∀ v,o.data≠.cell v:=by
 cases b
 ·obtain ⟨o,e,_,d⟩:=x
  exact ⟨o,e,fun v z=>by rw [d] at z; cases z⟩
 ·obtain ⟨o,e,_,d⟩:=x
  exact ⟨o,e,fun v z=>by rw [d] at z; cases z⟩
theorem nextI {b:Bool}{q p:Addr}{i:Nat}{its:Array Value}{x:Value}{Q:Value→Shared→Prop}(hq:IsIt s.heap b q p i)(hp:IsSq s.heap b p its)(hx:its[i]?=some x)
  (k:∀ h',IsIt h' b q p (i+1)→Heap.SameBut q s.heap h'→Q x { s with heap:=h' }):wpAny (model P w) A (Builtin.SmallTypes.nextOf (.ref q)) Q E s:=by
 cases b
 ·exact wpAny_nextOf_list_item hq hp hx k
 ·exact nextT hq hp hx k
theorem next_end {b:Bool}{q p:Addr}{i:Nat}{its:Array Value}{Q:Value→Shared→Prop}(hh:A.handled=none)(hq:IsIt s.heap b q p i)(hp:IsSq s.heap b p its)(hx:its[i]?=none)
  (k:∀ h' e,Heap.ExtBut q s.heap h'→(∃ o,h'.get? e=some o∧o.cls=.type "StopIteration")→E (.ref e) { s with heap:=h' }):wpAny (model P w) A (Builtin.SmallTypes.nextOf (.ref q)) Q E s:=by
 cases b
 ·exact wpAny_nextOf_list_end hh hq hp hx k
 ·exact nextT_end hh hq hp hx k
theorem enum_item {b:Bool}{e q p:Addr}{i:Nat}{its:Array Value}{x old:Value}{Q:Option Value→Shared→Prop}(he:IsEnum s.heap e q i old)(hq:IsIt s.heap b q p i)(hp:IsSq s.heap b p its)(hx:its[i]?=some x)(ne:e≠q)
  (k:∀ h',IsEnumOut h' e q ((i:Int)+1) x s.heap.objs.size→IsIt h' b q p (i+1)→h'.get? s.heap.objs.size=some { cls:=.type "tuple",data:=.seq #[.int i s.toks,x] }→h'.objs.size=s.heap.objs.size+1 →
   (∀ c o,c≠e→c≠q→s.heap.get? c=some o→h'.get? c=some o)→Q (some (.ref s.heap.objs.size)) { s with heap:=h',toks:=s.toks+1 }):wpAny (model P w) A (pyNext (.ref e)) Q E s:=by
 have hT:s.TypeIs (.ref e) "enumerate":=⟨_,he,rfl⟩
 unfold pyNext
 refine wpAny_bind (wpAny_attempt (wpAny_callSpecial?_slot (name:=Str.ofString "__next__") hT F.slot_enumerate_next (wpAny_call_entry F.slot_enumerate_next hT F.entry_enumerate_next ?_ (F.args_enumerate_next_1 _))))
 obtain ⟨hp0,g,d,tk,os⟩:=s
 show wpAny _ _ (field (.ref e) 2 >>= _) _ _ _
 refine wpAny_bind (wpAny_field he rfl (x:=.ref q) rfl (wpAny_bind (nextI hq hp hx fun h1 q1 s1=>?_)))
 replace s1:Heap.SameBut q hp0 h1:=s1
 have e1:IsEnum h1 e q i old:=(s1.2 e ne).trans he
 show wpAny _ _ (field (.ref e) 3 >>= _) _ _ ⟨h1,g,d,tk,os⟩
 refine wpAny_bind (wpAny_field e1 rfl (x:=rawInt i) rfl ?_)
 show wpAny _ _ (field (.ref e) 4 >>= _) _ _ ⟨h1,g,d,tk,os⟩
 refine wpAny_bind (wpAny_field e1 rfl (x:=.none) rfl ?_)
 show wpAny _ _ (mkInt i >>= _) _ _ ⟨h1,g,d,tk,os⟩
 refine wpAny_bind (wpAny_mkInt ?_)
 show wpAny _ _ (setField (.ref e) 3 (rawInt ((i:Int)+1)) >>= _) _ _ ⟨h1,g,d,tk+1,os⟩
 refine wpAny_bind (wpAny_setField_rec e1 (by simp) fun h2 e2 s2=>?_)
 replace s2:Heap.SameBut e h1 h2:=s2
 replace e2:IsEnum h2 e q ((i:Int)+1) old:=e2
 show wpAny _ _ (setField (.ref e) 4 .none >>= _) _ _ ⟨h2,g,d,tk+1,os⟩
 refine wpAny_bind (wpAny_setField_rec e2 (by simp) fun h3 e3 s3=>?_)
 replace s3:Heap.SameBut e h2 h3:=s3
 replace e3:IsEnum h3 e q ((i:Int)+1) old:=e3
 show wpAny _ _ (newTuple [.int i tk,x] >>= _) _ _ ⟨h3,g,d,tk+1,os⟩
 refine wpAny_bind (wpAny_newTuple ?_)
 have e4:IsEnum (h3.push { cls:=.type "tuple",data:=.seq #[.int i tk,x] }) e q ((i:Int)+1) old:=Heap.get?_push_of_some _ e3
 generalize hh4:h3.push { cls:=.type "tuple",data:=.seq #[.int i tk,x] }=h4 at e4
 have z3:h3.objs.size=hp0.objs.size:=by rw [s3.1,s2.1,s1.1]
 have el:e<hp0.objs.size:=Heap.lt_size he
 have t4:h4.get? hp0.objs.size=some { cls:=.type "tuple",data:=.seq #[.int i tk,x] }:=by
  rw [← hh4,← z3]
  exact Heap.get?_push_size _ rfl
 have z4:h4.objs.size=hp0.objs.size+1:=by rw [← hh4,Heap.size_push,z3]
 have k4:∀ c o,c≠e→c≠q→hp0.get? c=some o→h4.get? c=some o:=fun c o ce cq hc=>by
  rw [← hh4]
  exact Heap.get?_push_of_some _ (s3.extBut c o ce (s2.extBut c o ce (s1.extBut c o cq hc)))
 have q4:IsIt h4 b q p (i+1):=q1.at fun o ho=>by
  rw [← hh4]
  exact Heap.get?_push_of_some _ (s3.extBut q o ne.symm (s2.extBut q o ne.symm ho))
 show wpAny _ _ (Builtin.SmallTypes.ownedTupleIsFree (.ref e) >>= _) _ _ ⟨h4,g,d,tk+1,os⟩
 rw [z3]
 clear hh4 e3 s3 e2 s2 e1 s1 q1 z3 h3 h2 h1
 refine wpAny_bind ?_
 unfold Builtin.SmallTypes.ownedTupleIsFree
 refine wpAny_bind (wpAny_field e4 rfl (x:=.none) rfl (wpAny_pure ?_))
 simp only [if_true]
 refine wpAny_bind (wpAny_rule (wpAny_bind (wpAny_field e4 rfl (x:=old) rfl (wpAny_bind (wpAny_setField_rec e4 (by simp) fun h5 e5 s5=>?_)))))
 replace s5:Heap.SameBut e h4 h5:=s5
 replace e5:IsEnum h5 e q ((i:Int)+1) x:=e5
 show wpAny _ _ (Builtin.SmallTypes.ownedTupleHandOut (.ref e) (.ref hp0.objs.size) >>= _) _ _ ⟨h5,g,d,tk+1,os⟩
 refine wpAny_bind ?_
 unfold Builtin.SmallTypes.ownedTupleHandOut
 refine wpAny_bind (wpAny_setField_rec e5 (by simp) fun h6 e6 s6=>?_)
 replace s6:Heap.SameBut e h5 h6:=s6
 replace e6:IsEnumOut h6 e q ((i:Int)+1) x hp0.objs.size:=e6
 refine wpAny_setField_rec e6 (by simp) fun h7 e7 s7=>?_
 replace s7:Heap.SameBut e h6 h7:=s7
 replace e7:IsEnumOut h7 e q ((i:Int)+1) x hp0.objs.size:=e7
 have up:∀ c o,c≠e→h4.get? c=some o→h7.get? c=some o:=fun c o ce hc=>s7.extBut c o ce (s6.extBut c o ce (s5.extBut c o ce hc))
 refine wpAny_bind (wpAny_letGo (wpAny_pure ⟨_,rfl,wpAny_pure (k h7 e7 (q4.at fun o ho=>up q o ne.symm ho) (up _ _ (Nat.ne_of_gt el) t4) ?_ fun c o ce cq hc=>up c o ce (k4 c o ce cq hc))⟩))
 rw [s7.1,s6.1,s5.1,z4]
theorem enum_end {b:Bool}{e q p:Addr}{i:Nat}{its:Array Value}{old:Value}{Q:Option Value→Shared→Prop}(hh:A.handled=none)(he:IsEnum s.heap e q i old)(hq:IsIt s.heap b q p i)(hp:IsSq s.heap b p its)(hx:its[i]?=none)
  (k:∀ h',Heap.ExtBut q s.heap h'→Q none { s with heap:=h' }):wpAny (model P w) A (pyNext (.ref e)) Q E s:=by
 have hT:s.TypeIs (.ref e) "enumerate":=⟨_,he,rfl⟩
 unfold pyNext
 refine wpAny_bind (wpAny_attempt (wpAny_callSpecial?_slot (name:=Str.ofString "__next__") hT F.slot_enumerate_next (wpAny_call_entry F.slot_enumerate_next hT F.entry_enumerate_next ?_ (F.args_enumerate_next_1 _))))
 show wpAny _ _ (field (.ref e) 2 >>= _) _ _ _
 refine wpAny_bind (wpAny_field he rfl (x:=.ref q) rfl (wpAny_bind (next_end hh hq hp hx fun h' x he' hx'=>?_)))
 obtain ⟨o,ho,hc⟩:=hx'
 exact wpAny_bind (wpAny_isInstance (T:="StopIteration") (b:=true) ⟨o,ho,hc⟩ isSubtype_stop (wpAny_pure (k _ he')))
theorem apart5 {z a o q r:Addr}(h:[z,a,o,q,r].Nodup):(z≠a∧z≠o∧z≠q∧z≠r)∧(a≠o∧a≠q∧a≠r)∧(o≠q∧o≠r)∧q≠r:=by
 simp only [List.nodup_cons,List.mem_cons,List.mem_nil_iff,or_false,not_or,List.not_mem_nil,not_false_eq_true,List.nodup_nil,and_true] at h
 exact h
def Kept (ch:List Addr)(h h':Heap):Prop:=∀ c o,c∉ch→h.get? c=some o→h'.get? c=some o
theorem Kept.trans {ch:List Addr}{h h' h'':Heap}(x:Kept ch h h')(y:Kept ch h' h''):Kept ch h h'':=fun c o n e=>y c o n (x c o n e)
theorem Kept.of {ch:List Addr}{h h':Heap}{b:Addr}(x:Heap.SameBut b h h')(m:b∈ch):Kept ch h h':=fun c o n e=>x.extBut c o (fun z=>n (z▸m)) e
theorem Kept.ext {ch:List Addr}{h h':Heap}{b:Addr}(x:Heap.ExtBut b h h')(m:b∈ch):Kept ch h h':=fun c o n e=>x c o (fun z=>n (z▸m)) e
abbrev itO (p:Addr):Obj:={ cls:=.type "tuple_iterator",data:=.fields #[.ref p,.int 0 0] }
theorem new_enum (p:Addr)(xs:Array Value)(n:Nat)(dct:Option Addr)(sl:Array (Option Value)):Meets (Builtin.«enumerate.__new__» ⟨[.type "enumerate",.ref p],[]⟩) (fun _ R s=>s.heap.get? p=some { cls:=.type "tuple",dict:=dct,data:=.seq xs n,slots:=sl } ∧
  R (.ok (.ret (.ref (s.heap.push (itO p)).objs.size))) { s with heap:=(s.heap.push (itO p)).push { cls:=.type "enumerate",data:=.fields #[.none,.bool false,.ref s.heap.objs.size,rawInt 0,.none,.none] } }) :=
 .of_wp fun prog w A R s h=>by
  obtain ⟨hp,g,d,tk,os⟩:=s
  obtain ⟨hl,h⟩:=h
  have hsub:=sub_enumerate
  have hL:Heap.IsTuple (Shared.heap ⟨hp,g,d,tk,os⟩) p xs:=⟨_,hl,rfl,n,rfl⟩
  wp_walk using AutoSeq1.wpAny_loadPart' hl
  refine wpAny_stack_any fun st=>wpAny_pure ?_
  split
  ·rename_i c _ _ _ _ _
   cases (c == Value.type "enumerate")
   ·(wp_walk using AutoSeq1.wpAny_loadPart' hl,wpAny_pyIter_tuple hL); exact ⟨_,rfl,h⟩
   ·(wp_walk using AutoSeq1.wpAny_loadPart' hl,wpAny_pyIter_tuple hL); exact ⟨_,rfl,h⟩
  ·(wp_walk using AutoSeq1.wpAny_loadPart' hl,wpAny_pyIter_tuple hL); exact ⟨_,rfl,h⟩
theorem call_enum {b:Bool}{p:Addr}{xs:Array Value}{Q:Value→Shared→Prop}(hp:IsSq s.heap b p xs)
  (k:∀ h',IsEnum h' (s.heap.objs.size+1) s.heap.objs.size 0 .none→IsIt h' b s.heap.objs.size p 0→(∀ c o,s.heap.get? c=some o→h'.get? c=some o)→Q (.ref (s.heap.objs.size+1)) { s with heap:=h' }) :
  wpAny (model P w) A (call (.type "enumerate") [.ref p]) Q E s:=by
 cases b with
 | false=>exact call_enumerate_list hp fun h' a b _ d=>k h' a b d
 | true =>
  obtain ⟨⟨cls,dct,dat,sl⟩,ho,hc,n,hd⟩:=hp
  cases hc
  cases hd
  refine callType_new F.called_enumerate (by decide) (F.typeCall_enumerate_1 _) (F.newCall_enumerate_1 _) (fun obj=>F.args_object_init_2 obj _) F.entry_enumerate_new (new_enum p xs n dct sl) ⟨ho,?_⟩
  have hz:(s.heap.push (itO p)).objs.size=s.heap.objs.size+1:=Heap.size_push ..
  have he:=Heap.get?_push_size (s.heap.push (itO p)) (o:={ cls:=.type "enumerate",data:=.fields #[.none,.bool false,.ref s.heap.objs.size,rawInt 0,.none,.none] }) rfl
  show _∧_
  rw [hz] at he ⊢
  exact ⟨⟨_,he,rfl⟩,k _ he ⟨_,Heap.get?_push_of_some _ (Heap.get?_push_size _ rfl),rfl,rfl⟩ fun c o x=>Heap.get?_push_of_some _ (Heap.get?_push_of_some _ x)⟩
end
theorem _root_.L2.Inv.turnedL {X:Cx}{pins:List (Addr×Obj)}{σ:L2.St}{H:Hp}{s:Shared}{h':Heap}{t':Nat}{ch:List Addr}(I:Inv X pins σ H s)(k:Kept ch s.heap h')(f:∀ b∈ch,FpOk X pins H b):Inv X pins σ H { s with heap:=h',toks:=t' }:=by
 have nit:∀ b u,H b=some u→b∉ch:=fun b u e z=>by
  rw [(f b z).1] at e
  cases e
 have loc:X.env.locals∉ch:=fun z=>(f _ z).2.1 rfl
 refine I.step (g':=s.gens) (d':=s.drawn) (ch:=ch) (fun b hb=>?_) (fun b o _ _ hc e _=>k b o hc e) (fun b o _ _ hc e _=>⟨o.slots,k b o hc e⟩) (fun _ _ _ _ n=>n) (fun b o hc e=>⟨o,k b o hc e⟩) (fun _ _ e=>e) (fun _ _ _ e=>e)
  (fun b ps e=>⟨#[],by rw [e]; simp⟩) (fun m hm=>?_) (fun b u e=>?_) I.bare
 ·obtain ⟨_,hL,_,h1,h2,h3⟩:=f b hb
  exact ⟨h1,hL,h2,h3⟩
 ·obtain ⟨o,es,ep,ho,r⟩:=hm
  exact ⟨o,es,ep,k _ o loc ho,r⟩
 ·refine (I.hok b u e).stay (fun c v hc q=>k c v ?_ q) (fun _ q=>q) fun _ _ q=>q
  rcases hc with z | z
  ·rw [z]
   exact nit b u e
  ·exact nit c _ z
theorem _root_.L2.Inv.pairOut {X:Cx}{pins:List (Addr×Obj)}{σ:L2.St}{H:Hp}{s:Shared}{h':Heap}{t':Nat}{ch:List Addr}{x y:V}{u v:Value}(I:Inv X pins σ H s)(k:Kept ch s.heap h')(f:∀ b∈ch,FpOk X pins H b)(lt:∀ b∈ch,b<s.heap.objs.size)
  (hp:h'.get? s.heap.objs.size=some { cls:=.type "tuple",data:=.seq #[u,v] }) (rx:RelV x u) (ry:RelV y v):Inv X pins σ (upd H s.heap.objs.size (.tup [x,y])) { s with heap:=h',toks:=t' }:=by
 have I1:Inv X pins σ (upd H s.heap.objs.size (.tup [x,y])) { s with heap:=s.heap.push { cls:=.type "tuple",data:=.seq #[u,v] },toks:=s.toks } :=
  I.laid (fun b o e=>Heap.get?_push_of_some _ e) (Nat.le_refl _) ⟨by show 2≤sizeLine; decide,[u,v],.cons rx (.cons ry .nil),⟨_,Heap.get?_push_size _ rfl,rfl,_,rfl⟩⟩
 refine Inv.turnedL (s:={ s with heap:=s.heap.push { cls:=.type "tuple",data:=.seq #[u,v] },toks:=s.toks }) (ch:=ch) I1 (fun c o n e=>?_) fun b hb=>?_
 ·replace e:(s.heap.push { cls:=.type "tuple",data:=.seq #[u,v] }).get? c=some o:=e
  by_cases z:c=s.heap.objs.size
  ·subst z
   rw [Heap.get?_push_size s.heap (o:={ cls:=.type "tuple",data:=.seq #[u,v] }) rfl] at e
   cases e
   exact hp
  ·rw [Heap.get?_push_ne _ _ _ z] at e
   exact k c o n e
 ·obtain ⟨f0,f1⟩:=f b hb
  exact ⟨by rw [upd_ne (Nat.ne_of_lt (lt b hb))]; exact f0,f1⟩
def Itz (K:PySem.W.Frag)(a b:Addr):It :=
 ⟨fun i H=>∃ xs ys x y,SqT K H a xs∧SqT K H b ys∧xs[i]?=some x∧ys[i]?=some y,
  fun i H v H'=>∃ t x y,v=.ref t∧H t=none∧H'=upd H t (.tup [x,y])∧∀ xs ys,SqT K H a xs→SqT K H b ys→xs[i]?=some x∧ys[i]?=some y,
  fun i H=>∃ xs ys,SqT K H a xs∧SqT K H b ys∧(xs.length≤i∨ys.length≤i)⟩
def Sq (K:PySem.W.Frag)(H:Hp):Bool→Addr→List V→Prop
 | true=>SqT K H
 | false=>SqL K H
def Ite (K:PySem.W.Frag)(b:Bool)(a:Addr):It :=
 ⟨fun i H=>∃ xs x,Sq K H b a xs∧xs[i]?=some x,
  fun i H v H'=>∃ t x,v=.ref t∧H t=none∧H'=upd H t (.tup [.int i,x])∧∀ xs,Sq K H b a xs→xs[i]?=some x,
  fun i H=>∃ xs,Sq K H b a xs∧xs.length≤i⟩
theorem Sq.at {X:Cx}{pins:List (Addr×Obj)}{σ:L2.St}{H:Hp}{s:Shared}{b:Bool}{a:Addr}{xs:List V}(I:Inv X pins σ H s)(h:Sq X.K H b a xs):∃ its:List Value,Vals xs its∧IsSq s.heap b a its.toArray:=by
 cases b with
 | true =>
  obtain ⟨its,rv,p,_⟩:=I.tuple h
  exact ⟨its,rv,p⟩
 | false =>
  obtain ⟨its,rv,p,_⟩:=I.list h
  exact ⟨its,rv,p.isList⟩
theorem Sq.inj {X:Cx}{pins:List (Addr×Obj)}{σ:L2.St}{H:Hp}{s:Shared}{b:Bool}{a:Addr}{xs ys:List V}(I:Inv X pins σ H s)(h:Sq X.K H b a xs)(h':Sq X.K H b a ys):xs=ys:=by
 cases b with
 | true=>exact I.tuple_inj h h'
 | false=>exact I.list_inj h h'
theorem turn_enum {P:Program}{w:World}{K:PySem.W.Frag}{es:List Expr}{k0:Nat}{pos:Pos}(b:Bool)(p e q:Addr)(ne:e≠q) :
  Turn P w K (.Tuple es k0 pos) (Ite K b p) [e,q] e (fun i h=>(∃ old,IsEnum h e q (i:Nat) old)∧IsIt h b q p i) where
 mem:=by simp
 obj:=fun i h Z c hb=>by
  obtain ⟨⟨old,he⟩,hq⟩:=Z
  simp only [List.mem_cons,List.mem_nil_iff,or_false,List.not_mem_nil] at hb
  rcases hb with rfl | rfl
  ·exact ⟨_,he,fun v e=>by cases e⟩
  ·exact hq.ex
 keep:=fun i h h' Z k=>by
  obtain ⟨⟨old,he⟩,hq⟩:=Z
  exact ⟨⟨old,k e (by simp) _ he⟩,hq.at fun u x=>k q (by simp) u x⟩
 item:=by
  intro X hP hw hK hc i pins s σ H E I hf Z hg
  subst hP hw hK
  obtain ⟨xs,x,hxs,hx⟩:=hg
  obtain ⟨its,rv,hp⟩:=hxs.at I
  obtain ⟨u,hu,ru⟩:=rv.get hx
  obtain ⟨⟨old,he⟩,hq⟩:=Z
  have lt:∀ b∈[e,q],b<s.heap.objs.size:=fun b hb=>by
   simp only [List.mem_cons,List.mem_nil_iff,or_false,List.not_mem_nil] at hb
   rcases hb with rfl | rfl
   ·exact Heap.lt_size he
   ·exact Heap.lt_size hq.ex.choose_spec.1
  refine enum_item he hq hp (x:=u) (by simpa using hu) ne fun h' he' hq' ht sz kk=>?_
  refine ⟨_,rfl,?_⟩
  refine wpAny_letOwnedTupleGo_enum he' fun h2 he2 s2=>?_
  replace s2:Heap.SameBut e h' h2:=s2
  have k1:Kept [e,q] s.heap h':=fun c o n x=>kk c o (fun z=>n (by simp [z])) (fun z=>n (by simp [z])) x
  have k2:Kept [e,q] s.heap h2:=k1.trans (Kept.of s2 (by simp))
  have ht2:h2.get? s.heap.objs.size=some { cls:=.type "tuple",data:=.seq #[.int i s.toks,u] }:=s2.extBut _ _ (Nat.ne_of_gt (lt e (by simp))) ht
  refine ⟨.ref s.heap.objs.size,upd H s.heap.objs.size (.tup [.int i,x]),I.pairOut (t':=s.toks+1) k2 hf lt ht2 ⟨_,rfl⟩ ru,rfl,⟨_,x,rfl,I.fresh,rfl,fun xs' h1=>?_⟩,⟨⟨u,?_⟩,hq'.at fun v c=>s2.extBut _ _ ne.symm c⟩,fun b hb=>?_⟩
  ·rw [h1.inj I hxs]
   exact hx
  ·show IsEnum h2 e q ((i+1:Nat):Int) u
   rw [Int.natCast_add]
   exact he2
  ·rw [upd_ne (Nat.ne_of_lt (lt b hb))]
   exact (hf b hb).1
 done:=by
  intro X hP hw hK hc i pins s σ H E I hf Z hg
  subst hP hw hK
  obtain ⟨xs,hxs,hl⟩:=hg
  obtain ⟨its,rv,hp⟩:=hxs.at I
  obtain ⟨⟨old,he⟩,hq⟩:=Z
  have e1:=rv.length
  exact enum_end (I.ok.hd hc) he hq hp (by simp; omega) fun h' kk=>⟨rfl,I.turnedL (t':=s.toks) (ch:=[e,q]) (Kept.ext kk (by simp)) hf⟩
 self:=fun _ _ _ _ _ Z h=>by
  obtain ⟨⟨old,he⟩,hq⟩:=Z
  exact wpAny_pyIter_enum he h
theorem ge2 {n b:Nat}(h:b∈[n+1,n]):n≤b:=by
 simp only [List.mem_cons,List.mem_nil_iff,or_false,List.not_mem_nil] at h
 omega
section
variable {X:Cx}
def iEnum (K:PySem.W.Frag)(b:Bool)(ta:TA):TI:=fun σ H R=>ta σ H fun vs H1=>∃ a xs,vs=[.ref a]∧Sq K H1 b a xs∧R (Ite K b a) H1
theorem pi_enum {es:List Expr}{k0:Nat}{tp:Pos}(bt:Bool){a:Expr}{ta:TA}{p pos:Pos}(hg:Gl X "enumerate")(hm:X.mg "enumerate"=none)(ha:PA X [a] ta)(hs:starEach [a] X.env=[(false,eval a X.env)]:=by rfl) :
  PI X (.Tuple es k0 tp) (.Call (.Name "enumerate" p) [a] [] pos) (iEnum X.K bt ta):=by
 intro pins s σ H R I h
 refine Call_ (ld_blt I hg hm boot_enumerate (PyProof.Rows.callWith_type1 (thn (ha pos pins s σ H _ I h) fun us s1 ⟨vs,H1,I1,r1,q1⟩=>?_) hs rfl))
 obtain ⟨p1,xs,e,h1,q⟩:=q1
 subst e
 obtain ⟨its,_,t1⟩:=h1.at I1
 cases r1 with
 | cons r rr =>
  cases rr
  cases r
  refine call_enum t1 fun h' he hq kk=>wpAny_pyIter_enum he ?_
  refine ⟨_,_,_,_,H1,rfl,I1.kept (t':=s1.toks) kk,turn_enum bt p1 _ _ (Nat.succ_ne_self _),⟨⟨_,he⟩,hq⟩,fun b hb=>?_,q⟩
  exact I1.fpOk (ge2 hb) (I1.hok.fresh (ge2 hb))
end
end Sv
namespace Sv
open PySem PySem.Spec PyProof.Rows L2
section
variable {K:PySem.W.Frag}{H:Hp}{R:It→Hp→Prop}{a b:Addr}{xs ys:List V}{vs:List V}
def ZipR (K:PySem.W.Frag)(vs:List V)(H:Hp)(R:It→Hp→Prop):Prop:=∃ a b xs ys,vs=[.ref a,.ref b]∧SqT K H a xs∧SqT K H b ys∧R (Itz K a b) H
theorem ZipR.go (h1:SqT K H a xs)(h2:SqT K H b ys)(q:R (Itz K a b) H):ZipR K [.ref a,.ref b] H R:=⟨a,b,xs,ys,rfl,h1,h2,q⟩
def EnuR (K:PySem.W.Frag)(t:Bool)(vs:List V)(H:Hp)(R:It→Hp→Prop):Prop:=∃ a xs,vs=[.ref a]∧Sq K H t a xs∧R (Ite K t a) H
theorem enum_ {t:Bool}{ta:TA}{σ:L2.St}:iEnum K t ta σ H R=ta σ H fun vs H1=>EnuR K t vs H1 R:=rfl
theorem EnuR.go {t:Bool}(h1:Sq K H t a xs)(q:R (Ite K t a) H):EnuR K t [.ref a] H R:=⟨a,xs,rfl,h1,q⟩
structure ItP (J:It)(ps:List (V×V))(Ok:Hp→Prop):Prop where
 go:∀ i H,Ok H→i<ps.length→J.go i H
 yld:∀ i H v H',Ok H→i<ps.length→J.yld i H v H'→∃ t p,v=.ref t∧H t=none∧ps[i]?=some p∧H'=upd H t (.tup [p.1,p.2])
 stop:∀ i H,Ok H→ps.length≤i→J.stop i H
def enumV (xs:List V):List (V×V):=xs.zipIdx.map fun p=>(.int (p.2:Int),p.1)
theorem enumV_len:(enumV xs).length=xs.length:=by simp [enumV]
theorem enumV_get {i:Nat}{p:V×V}(h:(enumV xs)[i]?=some p):∃ x,xs[i]?=some x∧p=(.int (i:Int),x):=by
 unfold enumV at h
 rw [List.getElem?_map,List.getElem?_zipIdx] at h
 cases e:xs[i]? with
 | none =>
  rw [e] at h
  cases h
 | some x =>
  rw [e] at h
  refine ⟨x,rfl,?_⟩
  have:=Option.some.inj h
  rw [← this]
  simp
theorem ite {t:Bool}:ItP (Ite K t a) (enumV xs) (fun H=>Sq K H t a xs) where
 go:=fun i H ok lt=>by
  rw [enumV_len] at lt
  exact ⟨xs,xs[i],ok,List.getElem?_eq_getElem _⟩
 yld:=fun i H v H' ok lt y=>by
  obtain ⟨t,x,rfl,n,rfl,h⟩:=y
  have h1:=h xs ok
  refine ⟨t,(.int (i:Int),x),rfl,n,?_,rfl⟩
  unfold enumV
  rw [List.getElem?_map,List.getElem?_zipIdx,h1]
  simp
 stop:=fun i H ok le=>by
  rw [enumV_len] at le
  exact ⟨xs,ok,le⟩
theorem ForR.pairs {J:It}{ps:List (V×V)}{Ok:Hp→Prop}{m n:Nat}{tb:TS}{D:Ends}{σ:L2.St}(it:ItP J ps Ok)(Pv:Nat→L2.St→Hp→Prop)(h0:Pv 0 σ H)(hl:∀ i σ H,Pv i σ H→Ok H)
  (hs:∀ i p t σ H,ps[i]?=some p→Pv i σ H→H t=none→tb { D with nx:=Pv (i+1),ct:=Pv (i+1),bk:=D.nx } ((σ.set m (some p.1)).set n (some p.2)) (upd H t (.tup [p.1,p.2]))) (hd:∀ σ H,Pv ps.length σ H→D.nx σ H) :
  ForR J (gTup K 2 (gCons (gName m) (gCons (gName n) gNil))) tb D σ H:=by
 refine ⟨fun i k σ H=>k=ps.length - i∧i≤ps.length∧Pv i σ H,⟨_,rfl,Nat.zero_le _,h0⟩,fun i k σ' H' hw=>?_⟩
 obtain ⟨rfl,hi,p⟩:=hw
 by_cases lt:i<ps.length
 ·refine .inr ⟨it.go i H' (hl i σ' H' p) lt,Pv (i+1),fun σ2 H2 n2=>⟨_,?_,rfl,lt,n2⟩,fun v H2 y=>?_⟩
  ·omega
  ·obtain ⟨t,q,rfl,nt,hq,rfl⟩:=it.yld i H' v H2 (hl i σ' H' p) lt y
   exact gtup2 (SqT.of upd_same) (hs i q t σ' H' hq p nt)
 ·obtain rfl:i=ps.length:=by omega
  exact .inl ⟨it.stop _ _ (hl _ σ' H' p) (Nat.le_refl _),hd σ' H' p⟩
end
section
variable {X:Cx}
theorem pg_tupK {K:PySem.W.Frag}{pos:Pos}{es:List Expr}{k:Nat}{t:TGs}{n:Nat}(hK:X.K=K)(hc:X.calm=true)(h:PGs X es t)(hn:(assignEach es X.env).length=n:=by rfl)(hst:(assignEach es X.env).findIdx? (·.1)=none:=by rfl):PG X (.Tuple es k pos) (gTup K n t) :=
 hK▸pg_tup hc h hn hst
end
end Sv
namespace Sv
open PySem PySem.Spec PyProof.Rows L2
structure FnM (P:Program)(w:World)(K:PySem.W.Frag)(mg:Str→Option Value)(base:Heap)(C:Addr)(m:Str)(k:Nat)(ps:List Str)(sp:Sp):Prop where
 ex:∃ (f:Addr) (fd:FuncData),FnOk P w K mg base CX0 k f fd ps sp∧Meth K C m f∧Binds K fd ps []
structure FnI (P:Program)(w:World)(K:PySem.W.Frag)(mg:Str→Option Value)(base:Heap)(C:Addr)(k:Nat)(ps:List Str)(sp:Sp):Prop where
 ex:∃ (f:Addr) (fd:FuncData),FnOk P w K mg base CX0 k f fd ps sp∧Mk K C f∧Binds K fd ps []
structure FnC (P:Program)(w:World)(K:PySem.W.Frag)(mg:Str→Option Value)(base:Heap)(C:Addr)(m:Str)(k:Nat)(ps:List Str)(sp:Sp):Prop where
 ex:∃ (f:Addr) (fd:FuncData),FnOk P w K mg base CX0 k f fd ps sp∧Binds K fd ps []∧PySem.W.keepIn K (.ref f)=true∧PySem.W.specialIn K (.ref C) "__getattribute__"=some (some (.builtin "type.__getattribute__")) ∧
  PySem.W.readsIn K C (.type "type")=true∧PySem.W.findCls K (.ref C) (.type "type") m=some (.val (.ref f))
structure MDef (K:PySem.W.Frag)(C:Addr)(m qual:Str)(st:Stmt):Prop where
 ex:∃ (f:Addr) (fd:FuncData),Fun K m qual st f fd∧PySem.W.findIn K (.ref C) m=some (some (.ref f))∧PySem.W.isFn K (.ref f)=true
theorem mk_mdef {K:PySem.W.Frag}{C:Addr}{m qual:Str}{st:Stmt}{f:Addr}{oc kV dc pm cd ct:Value}{od an:Option Addr}{sl:Array (Option Value)}(a:PySem.W.findIn K (.ref C) m=some (some (.ref f)))
  (l:K.lookup f=some ⟨oc,od,.func (PySem.W.fnOf m qual (defArgs st) (defBody st) (defScope st) .none kV dc pm an cd ct),sl⟩) (c:PySem.W.codeIn K cd qual=true) (k:PySem.W.keepIn K (.ref f)=true) (n:PySem.W.isFn K (.ref f)=true):MDef K C m qual st :=
 ⟨⟨f,_,fun_mk l c k,a,n⟩⟩
section
variable {P:Program}{w:World}{K:PySem.W.Frag}{mg:Str→Option Value}{base:Heap}{C:Addr}{m qual:Str}{st:Stmt}{k:Nat}{ps:List Str}{sp:Sp}
theorem MDef.fnM (D:MDef K C m qual st)(b:∀ (kV doc pm:Value) (an:Option Addr) (cdv ct:Value) (us:List Value),us.length=ps.length→bindArgs (PySem.W.fnOf m qual (defArgs st) (defBody st) (defScope st) .none kV doc pm an cdv ct) ⟨us,[]⟩=pure (ps.zip us))
  (ok:∀ (f:Addr) (fd:FuncData),Fun K m qual st f fd→FnOk P w K mg base CX0 k f fd ps sp):FnM P w K mg base C m k ps sp:=by
 obtain ⟨f,fd,F,a,n⟩:=D.ex
 exact ⟨⟨f,fd,ok f fd F,⟨a,n,F.kp⟩,F.binds b⟩⟩
theorem MDef.fnI (D:MDef K C "__init__" qual st)(mk:PySem.W.makesIn K C=true)(kp:PySem.W.keepIn K (.ref C)=true)(b:∀ (kV doc pm:Value) (an:Option Addr) (cdv ct:Value) (us:List Value),us.length=ps.length→bindArgs (PySem.W.fnOf "__init__" qual (defArgs st) (defBody st) (defScope st) .none kV doc pm an cdv ct) ⟨us,[]⟩=pure (ps.zip us))
  (ok:∀ (f:Addr) (fd:FuncData),Fun K "__init__" qual st f fd→FnOk P w K mg base CX0 k f fd ps sp):FnI P w K mg base C k ps sp:=by
 obtain ⟨f,fd,F,a,n⟩:=D.ex
 exact ⟨⟨f,fd,ok f fd F,⟨mk,a,n,kp⟩,F.binds b⟩⟩
structure ClsDef (K:PySem.W.Frag)(C:Addr)(m qual:Str)(st:Stmt):Prop where
 ex:∃ (f:Addr) (fd:FuncData),Fun K m qual st f fd∧PySem.W.findCls K (.ref C) (.type "type") m=some (.val (.ref f))
 ga:PySem.W.specialIn K (.ref C) "__getattribute__"=some (some (.builtin "type.__getattribute__"))
 rd:PySem.W.readsIn K C (.type "type")=true
theorem mk_cdef {f:Addr}{oc kV dc pm cd ct:Value}{od an:Option Addr}{sl:Array (Option Value)}(a:PySem.W.findCls K (.ref C) (.type "type") m=some (.val (.ref f)))
  (l:K.lookup f=some ⟨oc,od,.func (PySem.W.fnOf m qual (defArgs st) (defBody st) (defScope st) .none kV dc pm an cd ct),sl⟩) (c:PySem.W.codeIn K cd qual=true) (k:PySem.W.keepIn K (.ref f)=true)
  (g:PySem.W.specialIn K (.ref C) "__getattribute__"=some (some (.builtin "type.__getattribute__"))) (r:PySem.W.readsIn K C (.type "type")=true):ClsDef K C m qual st:=⟨⟨f,_,fun_mk l c k,a⟩,g,r⟩
theorem ClsDef.fnC (D:ClsDef K C m qual st)(b:∀ (kV doc pm:Value) (an:Option Addr) (cdv ct:Value) (us:List Value),us.length=ps.length→bindArgs (PySem.W.fnOf m qual (defArgs st) (defBody st) (defScope st) .none kV doc pm an cdv ct) ⟨us,[]⟩=pure (ps.zip us))
  (ok:∀ (f:Addr) (fd:FuncData),Fun K m qual st f fd→FnOk P w K mg base CX0 k f fd ps sp):FnC P w K mg base C m k ps sp:=by
 obtain ⟨f,fd,F,a⟩:=D.ex
 exact ⟨⟨f,fd,ok f fd F,F.binds b,F.kp,D.ga,D.rd,a⟩⟩
end
section
variable {X:Cx}{k j:Nat}{C:Addr}{ps:List Str}{sp:Sp}{x m:Str}{p pos apos:Pos}{e o:Expr}{es:List Expr}{ta:TE}{t:TA}{pl:Sem Bool}
def tMethA (P:Program)(w:World)(K:PySem.W.Frag)(mg:Str→Option Value)(base:Heap)(j:Nat)(m:Str)(ta:TE)(t:TA):TE:=fun σ H Q=>ta σ H fun x H1=>∃ (a C dx:Addr) (fs:List (Str×V)) (k:Nat) (ps:List Str) (sp:Sp),
 x=.ref a∧H1 a=some (.ins C dx fs)∧fs.lookup m=none∧k≤j∧Cls K C∧FnM P w K mg base C m k ps sp∧t σ H1 fun vs H2=>sp (x::vs) H2 Q E0
theorem pe_methA (he:PE X o ta)(hr:Room j X.A)(ha:PA X (e::es) t)(hst:starEach (e::es) X.env=(false,eval e X.env)::starEach es X.env:=by rfl)(hpl:(backTo pos (starEach es X.env)).any (·.1)=false:=by rfl)
  (ht:eval (.Call (.Attribute o m apos) (e::es) [] pos) X.env=(do
   let ov ← eval o X.env
   standAt apos.atName
   let (f,first) ← holding [ov] (getMethod ov m pl)
   callWith pos f first (backTo pos (starEach (e::es) X.env)) (backToKw pos (keywordEach [] X.env))):=by rfl):PE X (.Call (.Attribute o m apos) (e::es) [] pos) (tMethA X.prog X.w X.K X.mg X.base j m ta t):=by
 intro pins s σ H Q I h
 refine PySem.W.methodCall_KW (pl:=pl) (thn (he pins s σ H _ I h) fun u s1 ⟨x,H1,I1,rx,a,C,dx,fs,k,ps,sp,ex,ea,l,hk,c,F,q⟩=>?_) ht
 subst ex
 obtain rfl:u=Value.ref a:=rx
 obtain ⟨f,fd,G,hm,b⟩:=F.ex
 refine getmeth_ok I1 ea c hm l ?_
 refine PySem.W.callWith_K (first:=[.ref a]) (h₀:=X.base) I.ok.mod.kin hm.kp (thn (ha pos pins s1 σ H1 _ I1 q) fun us s2 ⟨vs,H2,I2,r,q2⟩=>⟨I2.kIn,?_⟩) hst hpl
 exact run_fn (us:=.ref a::us) (vs:=.ref a::vs) G (hr.mono hk) b .nil pass0 I2 (.cons rfl r) (by rw [List.append_nil]; exact q2)
theorem pe_methA0 (he:PE X o ta)(hr:Room j X.A)
  (ht:eval (.Call (.Attribute o m apos) [] [] pos) X.env=(do
   let ov ← eval o X.env
   standAt apos.atName
   let (f,first) ← holding [ov] (getMethod ov m pl)
   callWith pos f first (backTo pos (starEach [] X.env)) (backToKw pos (keywordEach [] X.env))):=by rfl):PE X (.Call (.Attribute o m apos) [] [] pos) (tMethA X.prog X.w X.K X.mg X.base j m ta tNil):=by
 intro pins s σ H Q I h
 refine PySem.W.methodCall_KW (pl:=pl) (thn (he pins s σ H _ I h) fun u s1 ⟨x,H1,I1,rx,a,C,dx,fs,k,ps,sp,ex,ea,l,hk,c,F,q⟩=>?_) ht
 subst ex
 obtain rfl:u=Value.ref a:=rx
 obtain ⟨f,fd,G,hm,b⟩:=F.ex
 refine getmeth_ok I1 ea c hm l ?_
 exact PySem.W.callWith_K0 (first:=[.ref a]) I1.kIn hm.kp (run_fn (us:=[.ref a]) (vs:=[.ref a]) G (hr.mono hk) b .nil pass0 I1 (.cons rfl .nil) (by exact q))
theorem pe_new (F:FnI X.prog X.w X.K X.mg X.base C k ps sp)(hr:Room j X.A)(hk:k+1≤j)(hg:Gl X x)(hm:X.mg x=some (.ref C))(ha:PA X (e::es) t)(hdb:(x == ("__debug__":Str))=false:=by decide)
  (he:starEach (e::es) X.env=(false,eval e X.env)::starEach es X.env:=by rfl) (hpl:(backTo pos (starEach es X.env)).any (·.1)=false:=by rfl):PE X (.Call (.Name x p) (e::es) [] pos) (tMake C sp [] E0 t):=by
 obtain ⟨f,fd,G,M,b⟩:=F.ex
 exact pe_make M G (hr.mono hk) hg hm b .nil pass0 ha hdb he hpl
theorem pe_cm (he:PE X o (tC (.ref C)))(F:FnC X.prog X.w X.K X.mg X.base C m k ps sp)(hr:Room j X.A)(hk:k≤j)(ha:PA X (e::es) t)(hst:starEach (e::es) X.env=(false,eval e X.env)::starEach es X.env:=by rfl)(hpl:(backTo pos (starEach es X.env)).any (·.1)=false:=by rfl)
  (ht:eval (.Call (.Attribute o m apos) (e::es) [] pos) X.env=(do
   let ov ← eval o X.env
   standAt apos.atName
   let (f,first) ← holding [ov] (getMethod ov m pl)
   callWith pos f first (backTo pos (starEach (e::es) X.env)) (backToKw pos (keywordEach [] X.env))):=by rfl):PE X (.Call (.Attribute o m apos) (e::es) [] pos) (tCall sp [] E0 t):=by
 intro pins s σ H Q I h
 obtain ⟨f,fd,G,b,kp,g1,g2,g3⟩:=F.ex
 refine PySem.W.methodCall_KW (pl:=pl) (thn (he pins s σ H (fun x H1=>x=.ref C∧H1=H) I ⟨rfl,rfl⟩) fun u s1 ⟨x,H1,I1,rx,ex,eH⟩=>?_) ht
 subst ex eH
 obtain rfl:u=Value.ref C:=rx
 refine PySem.W.method_cls I1.kIn g1 (PySem.W.cls_value I1.kIn g2 g3 (handed_of (v:=.ref f) rfl) ?_)
 have I2:=I1.tok (s1.toks+1)
 refine PySem.W.callWith_K (first:=[]) (h₀:=X.base) I.ok.mod.kin kp (thn (ha pos pins _ σ H1 _ I2 h) fun us s2 ⟨vs,H2,I3,r,q2⟩=>⟨I3.kIn,?_⟩) hst hpl
 exact run_fn G (hr.mono hk) b .nil pass0 I3 r q2
def rIsiC (K:PySem.W.Frag):List V→Hp→VK→Prop:=fun xs H Q=>∃ x C t b,xs=[x,.ref C]∧TyOf K H x t∧PySem.W.kitOne K t (.ref C)=some b∧Q (.bl b) H
theorem call_isiC:CallR X (.builtin "isinstance") (rIsiC X.K):=by
 intro pins s σ H xs us Q I r h
 obtain ⟨x,C,t,b,rfl,ty,e,q⟩:=h
 obtain ⟨u,w',rfl,ru,rw'⟩:=vals2 r
 cases rw'
 exact isinst_ok I ru ty e fun tk=>⟨.bl b,H,I.tok _,rfl,q⟩
end
section
variable {K:PySem.W.Frag}{H:Hp}{Q:VK}{σ:L2.St}{ta tv:TE}{t:TA}{f:Str}{D:Ends}{a C dx:Addr}{fs:List (Str×V)}{v y:V}{sp:Sp}{vs:List V}
def FldR (K:PySem.W.Frag)(f:Str)(x:V)(H:Hp)(Q:VK):Prop:=∃ a C dx fs v,x=.ref a∧H a=some (.ins C dx fs)∧Cls K C∧NoAttr K C f∧fs.lookup f=some v∧Q v H
theorem fld_:tFld K ta f σ H Q=ta σ H fun x H1=>FldR K f x H1 Q:=rfl
theorem FldR.go (h:H a=some (.ins C dx fs))(c:Cls K C)(n:NoAttr K C f)(l:fs.lookup f=some v)(q:Q v H):FldR K f (.ref a) H Q:=⟨a,C,dx,fs,v,rfl,h,c,n,l,q⟩
def SFldR (K:PySem.W.Frag)(f:Str)(y x:V)(H:Hp)(R:Hp→Prop):Prop:=∃ a C dx fs,x=.ref a∧H a=some (.ins C dx fs)∧Cls K C∧NoAttr K C f∧fs.length<1000∧R (upd H a (.ins C dx (putF f y fs)))
theorem sfld_:sFld K ta tv f D σ H=tv σ H fun y H1=>ta σ H1 fun x H2=>SFldR K f y x H2 fun H'=>D.nx σ H':=rfl
theorem SFldR.go {R:Hp→Prop}(h:H a=some (.ins C dx fs))(c:Cls K C)(n:NoAttr K C f)(l:fs.length<1000)(q:R (upd H a (.ins C dx (putF f y fs)))):SFldR K f y (.ref a) H R:=⟨a,C,dx,fs,rfl,h,c,n,l,q⟩
def MakeR (C:Addr)(sp:Sp)(vs:List V)(H:Hp)(Q:VK):Prop:=∀ x dx,H x=none→H dx=none→dx≠x→sp (.ref x::vs) (upd (upd H dx (.own x)) x (.ins C dx [])) (fun v H2=>v=.non∧Q (.ref x) H2) E0
theorem make_:tMake C sp [] E0 t σ H Q=t σ H fun vs H1=>MakeR C sp vs H1 Q:=by
 unfold tMake MakeR
 simp only [List.append_nil]
def MethR (P:Program)(w:World)(K:PySem.W.Frag)(mg:Str→Option Value)(base:Heap)(j:Nat)(m:Str)(x:V)(t:TA)(σ:L2.St)(H:Hp)(Q:VK):Prop:=∃ (a C dx:Addr) (fs:List (Str×V)) (k:Nat) (ps:List Str) (sp:Sp),
 x=.ref a∧H a=some (.ins C dx fs)∧fs.lookup m=none∧k≤j∧Cls K C∧FnM P w K mg base C m k ps sp∧t σ H fun vs H2=>sp (x::vs) H2 Q E0
theorem methA_ {P:Program}{w:World}{mg:Str→Option Value}{base:Heap}{j:Nat}{m:Str}:tMethA P w K mg base j m ta t σ H Q=ta σ H fun x H1=>MethR P w K mg base j m x t σ H1 Q:=rfl
theorem MethR.go {P:Program}{w:World}{mg:Str→Option Value}{base:Heap}{j k:Nat}{m:Str}{ps:List Str}(F:FnM P w K mg base C m k ps sp)(h:H a=some (.ins C dx fs))(c:Cls K C)(l:fs.lookup m=none)(hk:k≤j)(q:t σ H fun vs H2=>sp (.ref a::vs) H2 Q E0):MethR P w K mg base j m (.ref a) t σ H Q :=
 ⟨a,C,dx,fs,k,ps,sp,rfl,h,l,hk,c,F,q⟩
end
end Sv
namespace Sv
open PySem PySem.Spec PyProof.Rows L2
inductive All2 {α β:Type} (R:α→β→Prop):List α→List β→Prop where
 | nil:All2 R [] []
 | cons {x:α} {y:β} {xs:List α} {ys:List β} (h:R x y) (t:All2 R xs ys):All2 R (x::xs) (y::ys)
section
variable {α β:Type}{R S:α→β→Prop}{xs us:List α}{ys vs:List β}
theorem All2.len (h:All2 R xs ys):xs.length=ys.length:=by
 induction h with
 | nil=>rfl
 | cons _ _ ih=>rw [List.length_cons,List.length_cons,ih]
theorem All2.imp (h:All2 R xs ys)(k:∀ x y,R x y→S x y):All2 S xs ys:=by
 induction h with
 | nil=>exact .nil
 | cons h _ ih=>exact .cons (k _ _ h) ih
theorem All2.app (h:All2 R xs ys)(k:All2 R us vs):All2 R (xs++us) (ys++vs):=by
 induction h with
 | nil=>exact k
 | cons h _ ih=>exact .cons h ih
theorem All2.snoc {x:α}{y:β}(h:All2 R xs ys)(k:R x y):All2 R (xs++[x]) (ys++[y]):=h.app (.cons k .nil)
theorem All2.at {i:Nat}{x:α}(h:All2 R xs ys)(e:xs[i]?=some x):∃ y,ys[i]?=some y∧R x y:=by
 induction h generalizing i with
 | nil=>cases e
 | cons h _ ih =>
  cases i with
  | zero =>
   cases e
   exact ⟨_,rfl,h⟩
  | succ i=>exact ih e
theorem All2.ix {i:Nat}{y:β}(h:All2 R xs ys)(e:ys[i]?=some y):∃ x,xs[i]?=some x∧R x y:=by
 induction h generalizing i with
 | nil=>cases e
 | cons h _ ih =>
  cases i with
  | zero =>
   cases e
   exact ⟨_,rfl,h⟩
  | succ i=>exact ih e
end
theorem CmpR.rel {cap:List Nat}{te:TE}{J:It}{σ:L2.St}{H:Hp}{Q:VK}{xs:List V}{Ok:Hp→Prop}(R:Addr→Hp→V→V→Prop)(mono:∀ D H H' x v,(∀ b o,b≠D→H b=some o→H' b=some o)→R D H x v→R D H' x v)(it:ItOf J xs Ok)(hz:xs.length≤1000)(ok:∀ H',Same H H'→Ok H')
  (hs:∀ D x H' ys (Q':VK),x∈xs→H D=none→Same H H'→H' D=some (.lst ys)→(∀ v H2,Same H' H2→R D H2 x v→Q' v H2)→te (some x::cap.map fun i=>σ.getD i none) H' Q')
  (hd:∀ D H' vs,H D=none→Same H H'→H' D=some (.lst vs)→All2 (R D H') xs vs→Q (.ref D) H'):CmpR 1 cap (gName 0) tYes te J σ H Q:=by
 intro D hD
 have keep:∀ {H':Hp} {o:HO},Same H H'→Same H (upd H' D o):=fun sm b o e=>by
  rw [upd_ne (ne_of_none e hD)]
  exact sm b o e
 refine ⟨fun i m σ' H'=>m=xs.length - i∧i≤xs.length∧∃ t vs,σ'=t::(cap.map fun i=>σ.getD i none)∧Same H H'∧H' D=some (.lst vs)∧All2 (R D H') (xs.take i) vs,⟨_,rfl,Nat.zero_le _,none,[],rfl,keep (Same.refl _),upd_same,.nil⟩,fun i m σ' H' hw=>?_⟩
 obtain ⟨rfl,hi,t,vs,rfl,sm,hl,al⟩:=hw
 by_cases lt:i<xs.length
 ·refine .inr ⟨it.go i _ (ok _ sm) lt,fun σ2 H2=>∃ t vs,σ2=t::(cap.map fun i=>σ.getD i none)∧Same H H2∧H2 D=some (.lst vs)∧All2 (R D H2) (xs.take (i+1)) vs,fun σ2 H2 n2=>⟨_,?_,rfl,lt,n2⟩,fun x H2 y=>?_⟩
  ·omega
  ·obtain ⟨rfl,hx⟩:=it.yld i _ x H2 (ok _ sm) lt y
   show te (some x::(cap.map fun i=>σ.getD i none)) _ _
   refine hs D x H2 vs _ (List.mem_of_getElem? hx) hD sm hl fun v H3 s3 r=>⟨_,s3 _ _ hl,?_,_,vs++[v],rfl,keep (sm.trans s3),upd_same,?_⟩
   ·have:=al.len
    rw [List.length_take] at this
    exact small1000 (by omega)
   ·rw [List.take_add_one,hx,Option.toList_some]
    refine (All2.snoc (al.imp fun a b r=>mono D H2 _ a b (fun c o ne e=>?_) r) (mono D H3 _ x v (fun c o ne e=>?_) r))
    ·rw [upd_ne ne]
     exact s3 _ _ e
    ·rw [upd_ne ne]
     exact e
 ·obtain rfl:i=xs.length:=by omega
  refine .inl ⟨it.stop _ _ (ok _ sm) (Nat.le_refl _),?_⟩
  rw [List.take_length] at al
  exact hd D H' vs hD sm hl al
end Sv
namespace Sv
open PySem PySem.Spec PyProof.Rows L2
section
variable {M:Model}{A:Around}{E:Value→Shared→Prop}{env:Env}
variable {nm q:Str}{C N:Addr}{bs bm:List Value}{hdct:Bool}{sn:List Str}{sub:List Value}{ab:Bool}{col:Option Bool}{dd:Option Addr}{k0 k1 k2 k3 k5:Option Value}{newId:String}
theorem raise_made {s:Shared}{x:Sem Value}{Q:Flow→Shared→Prop}(hbase:bm.contains (.type "BaseException")=true)(hh:A.handled=none)
  (h:wpAny M A x (fun v s1=>∃ (e:Addr) (dx:Option Addr) (vs:Array Value) (sl:Array (Option Value)),v=.ref e∧s1.heap.get? C=some (excClassObj nm q C N bs bm hdct sn sub ab col dd k0 k1 k2 k3 k5 newId) ∧
   s1.heap.get? e=some ⟨.ref C,dx,.fields vs,sl⟩∧vs[1]?=some .none∧E (.ref e) s1) E s):wpAny M A (raiseStmt env (some x) none) Q E s:=by
 have hcB:(Value.ref C::bm).contains (.type "BaseException")=true:=by rw [List.contains_cons,hbase,Bool.or_true]
 unfold raiseStmt
 refine wpAny_bind (wpAny_mono h (fun v s1 h1=>?_) fun _ _ y=>y)
 obtain ⟨e,dx,vs,sl,rfl,hC,he,h1,hE⟩:=h1
 obtain ⟨hp,g,d,tk,os⟩:=s1
 repeat (first | with_reducible refine wpAny_loadPart_at he ?_ | with_reducible refine wpAny_loadPart_at hC ?_ | (with_reducible refine wpAny_isSubtype_exc hC ?_; rw [hcB]) | wp_step)
 rw [h1]
 refine wpAny_pure ?_
 rw [if_neg (by decide)]
 exact wpAny_pure (wpAny_raiseNew_none hh hE)
end
section
variable {prog:Program}{w:World}{A:Around}{E:Value→Shared→Prop}{h:Heap}{g:Array GenState}{d:Drawn}{t:Nat}{os:OsState}
variable {nm q:Str}{C N:Addr}{bs bm bmB:List Value}{hdct:Bool}{sn:List Str}{sub:List Value}{ab:Bool}{col:Option Bool}{dd:Option Addr}{k0 k1 k2 k3 k5:Option Value}{B newId initId:String}
theorem type_call_excI (F:ExcBaseFacts B newId initId bmB)(T:OwnTail h bmB bm){mN:Str→Option Value}{rest:List Value}{fI:Addr}{oI:Obj}{Q:Fin→Shared→Prop}(hC:h.get? C=some (excClassObj nm q C N bs bm hdct sn sub ab col dd k0 k1 k2 k3 k5 newId))(hn:h.Ns N mN)(hi:mN "__init__"=some (.ref fI))
  (hfI:h.get? fI=some oI) (hfc:oI.cls=.type "function") (hq:∀ h' e,Heap.MadeExcOf h h' e (.ref C) rest→h.objs.size≤e→wpAny (model prog w) A (call (.ref fI) (.ref e::rest)) (fun r s'=>r=.none∧Q (.done (.ret (.ref e))) s') E ⟨h',g,d,t,os⟩) (hrest:rest.length≤sizeLine) :
  wpAny (model prog w) A (Builtin.«type.__call__» ⟨.ref C::rest,[]⟩) Q E ⟨h,g,d,t,os⟩:=by
 repeat (first | with_reducible refine wpAny_loadPart_at hC ?_ | with_reducible refine wpAny_madeBy_exc hC ?_ | wp_step)
 refine codeAny_call_builtin_code (Code.quiet_builtin _ F.quiet) (wpAny_check_new_subU F F.hasB T hC (codeAny_exc_new_subU F F.hasB F T hC ?_ hrest))
 show wpAny _ _ _ _ _ _
 have up:∀ b o,h.get? b=some o→((h.push { cls:=.type "tuple",data:=.seq rest.toArray }).push { cls:=.ref C,data:=.fields #[.ref h.objs.size,.none,.none,.none,.bool false,.none] }).get? b=some o:=fun b o e=>Heap.get?_push_of_some _ (Heap.get?_push_of_some _ e)
 have hget:((h.push { cls:=.type "tuple",data:=.seq rest.toArray }).push { cls:=.ref C,data:=.fields #[.ref h.objs.size,.none,.none,.none,.bool false,.none] }).get? (h.objs.size+1)=some { cls:=.ref C,data:=.fields #[.ref h.objs.size,.none,.none,.none,.bool false,.none] }:=by heap_get
 have gt:((h.push { cls:=.type "tuple",data:=.seq rest.toArray }).push { cls:=.ref C,data:=.fields #[.ref h.objs.size,.none,.none,.none,.bool false,.none] }).get? h.objs.size=some { cls:=.type "tuple",data:=.seq rest.toArray }:=Heap.get?_push_of_some _ (Heap.get?_push_at rfl rfl)
 have hC1:=up _ _ hC
 have hn1:((h.push { cls:=.type "tuple",data:=.seq rest.toArray }).push { cls:=.ref C,data:=.fields #[.ref h.objs.size,.none,.none,.none,.bool false,.none] }).Ns N mN:=hn.keeps up
 have hcC:(Value.ref C::bm).contains (.ref C)=true:=by simp
 have T1:=T.keeps up
 unfold isInstance
 repeat (first | with_reducible refine wpAny_loadPart_at hget ?_ | (with_reducible refine wpAny_isSubtype_exc hC1 ?_; rw [hcC]) | wp_step)
 show wpAny _ _ (typeLookup (.ref C) _) _ _ _
 refine wpAny_typeLookup_tail hC1 hn1 T1 F.mroIs F.init.lookup ?_
 rw [hi]
 refine wpAny_holding (wpAny_bind ?_)
 unfold bindSpecial
 refine wpAny_bind (wpAny_typeOf (T:="function") ⟨_,up _ _ hfI,hfc⟩ ?_)
 rw [if_pos (by decide)]
 refine wpAny_pure (wpAny_bind (wpAny_mono (hq _ (h.objs.size+1) ⟨up,Heap.get?_none_of_le (Nat.le_succ _),h.objs.size,hget,Heap.get?_none_of_le (Nat.le_refl _),gt⟩ (Nat.le_succ _)) (fun r s' hr=>?_) fun _ _ y=>y))
 obtain ⟨rfl,hQ⟩:=hr
 wp_walk
 exact hQ
theorem call_excI (F:ExcBaseFacts B newId initId bmB)(T:OwnTail h bmB bm){mN:Str→Option Value}{rest:List Value}{fI:Addr}{oI:Obj}{Q:Value→Shared→Prop}(hC:h.get? C=some (excClassObj nm q C N bs bm hdct sn sub ab col dd k0 k1 k2 k3 k5 newId))(hn:h.Ns N mN)(hi:mN "__init__"=some (.ref fI))
  (hfI:h.get? fI=some oI) (hfc:oI.cls=.type "function") (hq:∀ h' e,Heap.MadeExcOf h h' e (.ref C) rest→h.objs.size≤e→wpAny (model prog w) (A.under (.builtin "type.__call__" ⟨.ref C::rest,[]⟩)) (call (.ref fI) (.ref e::rest)) (fun r s'=>r=.none∧Q (.ref e) s') E ⟨h',g,d,t,os⟩) (hrest:rest.length≤sizeLine) :
  wpAny (model prog w) A (call (.ref C) rest) Q E ⟨h,g,d,t,os⟩:=by
 have f1:=tc_lookup
 have f2:=tc_bind (.ref C)
 have hT:(⟨h,g,d,t,os⟩:Shared).TypeIs (.ref C) "type":=⟨_,hC,rfl⟩
 refine wpAny_call (codeAny_of_tree (show wpAny _ _ (callAny (.ref C) _) _ _ _ from ?_))
 repeat (any_goals (first | assumption | with_reducible refine wpAny_loadPart_at hC ?_ | wp_step))
 refine ⟨rfl,codeAny_call_builtin_at (Code.quiet_builtin _ (by decide +kernel)) entry_typeCall (wpAny_check_type_call_sub hC (type_call_excI F T hC hn hi hfI hfc (fun h' e hm le=>?_) hrest))⟩
 exact hq h' e hm le
end
section
variable {prog:Program}{w:World}{A:Around}{E:Value→Shared→Prop}{s:Shared}{env:Env}
variable {nm q:Str}{C N:Addr}{bs bm bmB:List Value}{hdct:Bool}{sn:List Str}{sub:List Value}{ab:Bool}{col:Option Bool}{dd:Option Addr}{k0 k1 k2 k3 k5:Option Value}{B newId initId:String}
theorem raise_callI (F:ExcBaseFacts B newId initId bmB){mN:Str→Option Value}{x:Str}{np cpos pos:Pos}{args:List Expr}{fI:Addr}{oI:Obj}{Q:Flow→Shared→Prop}(hbase:bm.contains (.type "BaseException")=true)(hh:A.handled=none)(hplain:(backTo cpos (starEach args env)).any (·.1)=false)(hi:mN "__init__"=some (.ref fI))(hfc:oI.cls=.type "function")
  (h:wpAny (model prog w) A (eval (.Name x np) env) (fun f s1=>f=.ref C∧wpAny (model prog w) A (evalArgs (.ref C) true (backTo cpos (starEach args env)) [])
   (fun a s2=>a.kw=[]∧a.pos.length≤sizeLine∧s2.heap.get? C=some (excClassObj nm q C N bs bm hdct sn sub ab col dd k0 k1 k2 k3 k5 newId)∧s2.heap.Ns N mN∧OwnTail s2.heap bmB bm∧s2.heap.get? fI=some oI ∧
    ∀ h' e,Heap.MadeExcOf s2.heap h' e (.ref C) a.pos→s2.heap.objs.size≤e→wpAny (model prog w) (A.under (.builtin "type.__call__" ⟨.ref C::a.pos,[]⟩)) (call (.ref fI) (.ref e::a.pos)) (fun r s'=>r=.none ∧
     s'.heap.get? C=some (excClassObj nm q C N bs bm hdct sn sub ab col dd k0 k1 k2 k3 k5 newId)∧(∃ (dx:Option Addr) (vs:Array Value) (sl:Array (Option Value)),s'.heap.get? e=some ⟨.ref C,dx,.fields vs,sl⟩∧vs[1]?=some .none)∧E (.ref e) s') E { s2 with heap:=h' }) E s1) E s) :
  wpAny (model prog w) A (exec (.Raise (some (.Call (.Name x np) args [] cpos)) none pos) env) Q E s:=by
 rw [arm_exec_Raise]
 first
  | refine wpAny_bind (wpAny_standAt (raise_made (C:=C) (nm:=nm) (q:=q) (N:=N) (bs:=bs) (bm:=bm) (hdct:=hdct) (sn:=sn) (sub:=sub) (ab:=ab) (col:=col) (dd:=dd) (k0:=k0) (k1:=k1) (k2:=k2) (k3:=k3) (k5:=k5) (newId:=newId) hbase hh (wpAny_bind (wpAny_mono (wpAny_Call_ofName (wpAny_mono h (fun f s1 h1=>?_) fun _ _ y=>y)) (fun v s3 h3=>wpAny_bind (wpAny_standAt (wpAny_pure h3))) fun _ _ y=>y))))
  | (simp only [evalOpt,Option.map]; refine wpAny_bind (wpAny_standAt (raise_made (C:=C) (nm:=nm) (q:=q) (N:=N) (bs:=bs) (bm:=bm) (hdct:=hdct) (sn:=sn) (sub:=sub) (ab:=ab) (col:=col) (dd:=dd) (k0:=k0) (k1:=k1) (k2:=k2) (k3:=k3) (k5:=k5) (newId:=newId) hbase hh (wpAny_bind (wpAny_mono (wpAny_Call_ofName (wpAny_mono h (fun f s1 h1=>?_) fun _ _ y=>y)) (fun v s3 h3=>wpAny_bind (wpAny_standAt (wpAny_pure h3))) fun _ _ y=>y)))))
 obtain ⟨rfl,h1⟩:=h1
 unfold callWith
 refine wpAny_bind (wpAny_holding (wpAny_mono h1 (fun a s2 h2=>wpAny_bind (wpAny_standAt ?_)) fun _ _ y=>y))
 obtain ⟨apos,akw⟩:=a
 obtain ⟨hkw,hlen,hC,hn,T,hf,h2⟩:=h2
 obtain rfl:akw=[]:=hkw
 obtain ⟨hp,g,d,tk,os⟩:=s2
 simp only [hplain]
 refine wpAny_bind (wpAny_keeperOf_exc hC ?_)
 refine wpAny_bind (call_excI F T hC hn hi hf hfc (fun h' e hm le=>?_) hlen)
 refine wpAny_mono (h2 h' e hm le) (fun r s' hr=>?_) fun _ _ y=>y
 obtain ⟨rfl,hC',⟨dx,vs,sl,he,h1⟩,hE⟩:=hr
 exact ⟨rfl,wpAny_bind (wpAny_holding (wpAny_point (wpAny_pure ⟨e,dx,vs,sl,rfl,hC',he,h1,hE⟩)))⟩
end
end Sv
namespace Sv
open PySem PySem.Spec PyProof.Rows L2 PySem.W Builtin Builtin.ObjectAttr
def veTail:List Value→Bool
 | .ref _::r=>veTail r
 | [.type a,.type b,.type c,.type d]=>a == "ValueError" && b == "Exception" && c == "BaseException" && d == "object"
 | _=>false
theorem ve_refuse (self:Value):∀ {l:List Value},veTail l=true→refuseLoop self "__setattr__" l=pure ()
 | .ref c::r,e=>by
  rw [refuseLoop_ref]
  exact ve_refuse self (l:=r) (by simpa [veTail] using e)
 | [.type a,.type b,.type c,.type d],e=>by
  simp only [veTail,Bool.and_eq_true,beq_iff_eq] at e
  obtain ⟨⟨⟨rfl,rfl⟩,rfl⟩,rfl⟩:=e
  exact PySem.F.store_ValueError.passes self
theorem ve_object:∀ {l:List Value},veTail l=true→l.contains (.type "object")=true
 | .ref c::r,e=>by rw [List.contains_cons,ve_object (l:=r) (by simpa [veTail] using e),Bool.or_true]
 | [.type a,.type b,.type c,.type d],e=>by
  simp only [veTail,Bool.and_eq_true,beq_iff_eq] at e
  obtain ⟨⟨⟨rfl,rfl⟩,rfl⟩,rfl⟩:=e
  simp
def overVE (K:PySem.W.Frag)(C:Addr):Bool:=(PySem.W.clsIn K C).any fun cd=>veTail cd.mro
section
variable {K:PySem.W.Frag}{prog:Program}{w:World}{A:Around}{E:Value→Shared→Prop}{s:Shared}{x C:Addr}{name:Str}{v:Value}
theorem osa_exc {ox:Obj}{od:Option Obj}{tk:Tok}{R:Result→Shared→Prop}(X:K.In s.heap)(I:PySem.W.InstAt s.heap x ox C od)(hp:overVE K C=true)(ht:PySem.W.findIn K (.ref C) name=some none)
  (h:wpAny (model prog w) A.in1 (storeInOwnDict (.ref x) (.ref C) (.str name tk) name v false) (fun fin s'=>match fin with | .done f=>R (.ok f) s' | .again c'=>c'.quiet=true∧codeAny (model prog w) A c' R s') (fun e s'=>R (.error e) s') s) :
  codeAny (model prog w) A (.call (.builtin "object.__setattr__") ⟨[.ref x,.str name tk,v],[]⟩) R s:=by
 have SF:=PySem.F.store_object
 obtain ⟨cd,hc,ho⟩:=PySem.W.any_some hp
 have ne:cd.mro.isEmpty=false:=by cases q:cd.mro with | nil=>rw [q] at ho; cases ho | cons _ _=>rfl
 have sub:PySem.W.Looks (model prog w) s.heap (isInstance (.ref x) (.type "object")) true:=I.type.andThen (PySem.W.looks_mroIn X (by unfold PySem.W.mroIn; rw [hc,Option.bind_some,if_neg (by rw [ne]; decide),ve_object ho]))
 refine codeAny_call_builtin SF.slot.plain SF.entry (@PySem.W.check_slot (model prog w) _ _ s "object.__setattr__" "object" "__setattr__" (.ref x) [.str name tk,v] [] _ SF.kind SF.split sub (SF.args (.ref x) (.str name tk) v) ?_)
 have hm:PySem.W.Looks (model prog w) s.heap (mroOf (.ref C)) cd.mro:=(PySem.W.looks_clsIn X hc).andThen .now
 rw [PySem.W.osa_eq,refuse_eq]
 refine wpAny_bind (wpAny_bind (I.type.here (wpAny_bind (hm.here ?_))))
 rw [ve_refuse _ ho]
 exact wpAny_pure (wpAny_bind (I.type.here (wpAny_bind ((PySem.W.looks_findIn X ht).here (wpAny_bind (wpAny_pure h))))))
theorem store_new {ox:Obj}{Q:Unit→Shared→Prop}(X:K.In s.heap)(I:PySem.W.InstAt s.heap x ox C none)(hp:overVE K C=true)(hd:PySem.W.hasDictIn K C=true)(ht:PySem.W.findIn K (.ref C) name=some none)(hs:PySem.W.findIn K (.ref C) "__setattr__"=some (some (.builtin "object.__setattr__")))
  (k:∀ h' d tk,s.heap.get? d=none→d=s.heap.objs.size→h'.get? x=some { ox with dict:=some d }→h'.Ns1 d (fun y=>if y=name then some v else none)→(∀ b o,b≠x→s.heap.get? b=some o→h'.get? b=some o)→Q () { s with heap:=h',toks:=tk }):wpAny (model prog w) A (setAttr (.ref x) name v) Q E s:=by
 obtain ⟨hx,hcl,hn,hdx⟩:=id I
 obtain ⟨oc,odi,oda,osl⟩:=ox
 dsimp only at hcl hdx
 subst hcl
 cases odi with
 | some dx=>exact absurd hdx (fun z=>z)
 | none =>
  refine PySem.W.set_plain X I hs (osa_exc (s:={ s with toks:=s.toks+1 }) X I hp ht ?_)
  obtain ⟨cd,hc,hd'⟩:=PySem.W.any_some hd
  refine wpAny_bind (wpAny_pure (wpAny_bind (wpAny_bind (wpAny_loadPart hx (wpAny_bind (PySem.W.Looks.here (s:={ s with toks:=s.toks+1 }) (PySem.W.looks_clsIn X hc) ?_))))))
  rw [hd']
  have hxs:x≠s.heap.objs.size:=Nat.ne_of_lt (Heap.lt_size hx)
  have hx1:(s.heap.push { cls:=.type "dict",data:=.dict #[] }).get? x=some ⟨.ref C,none,oda,osl⟩:=Heap.get?_push_of_some _ hx
  have body:wpAny (model prog w) A.in1 (do let d ← alloc { cls:=.type "dict",data:=.dict #[] }; update x fun o=>{ o with dict:=some d }; dictMade (.ref C) x d)
    (fun r s'=>∃ d,r=some d∧d=s.heap.objs.size∧s'={ s with heap:=(s.heap.push { cls:=.type "dict",data:=.dict #[] }).update x fun o=>{ o with dict:=some d },toks:=s.toks+1 }) (fun _ _=>False) { s with toks:=s.toks+1 }:=by
   refine wpAny_bind (wpAny_alloc' (wpAny_bind (wpAny_update' hx1 ?_)))
   exact wpAny_bind (wpAny_pure (wpAny_pure ⟨_,rfl,rfl,rfl⟩))
  have nc:∀ c,oda≠.cls c:=fun c z=>by
   subst z
   cases hn
  rw [if_neg (by decide)]
  dsimp only
  rw [if_neg (by simp [typeHasDict])]
  refine wpAny_mono (Q:=fun r s'=>∃ d,r=some d∧d=s.heap.objs.size∧s'={ s with heap:=(s.heap.push { cls:=.type "dict",data:=.dict #[] }).update x fun o=>{ o with dict:=some d },toks:=s.toks+1 }) (E:=fun _ _=>False) ?_ (fun r s' hr=>?_) fun _ _ z=>z.elim
  ·refine Eq.mpr (congrArg (fun m=>wpAny (model prog w) A.in1 m _ _ _) ?_) body
   clear k body
   cases oda <;> first | rfl | exact absurd rfl (nc _)
  obtain ⟨d,rfl,rfl,rfl⟩:=hr
  have hgd:((s.heap.push { cls:=.type "dict",data:=.dict #[] }).update x fun o=>{ o with dict:=some s.heap.objs.size }).get? s.heap.objs.size=some { cls:=.type "dict",data:=.dict #[] }:=(Heap.get?_update_ne _ _ _ _ hxs.symm).trans (Heap.get?_push_at rfl rfl)
  have hnd:((s.heap.push { cls:=.type "dict",data:=.dict #[] }).update x fun o=>{ o with dict:=some s.heap.objs.size }).Ns s.heap.objs.size (fun _=>none):=⟨_,#[],_,hgd,rfl,(fun e he=>absurd he (by simp)),fun _=>rfl⟩
  show wpAny _ _ (storeInDict s.heap.objs.size (.str name _) name v) _ _ _
  unfold storeInDict newKeyGuard
  refine wpAny_bind (wpAny_pure (wpAny_bind (wpAny_nsSet1 (Heap.Ns1.of_empty hnd) fun h' hn' hs2=>?_)))
  obtain ⟨oD,esD,epD,hoD,hdD,hcD⟩:=hn'.count (PySem.Within.cons name v PySem.Within.nil)
  refine wpAny_bind (wpAny_lookBehind hoD (by rw [hdD]; exact pastItsLine_dict (Nat.le_trans hcD (by rw [List.length_cons,List.length_nil,sizeLine_eq]; omega))) ?_)
  refine wpAny_pure (k h' s.heap.objs.size _ (Heap.get?_none_of_le (Nat.le_refl _)) rfl ?_ hn' fun b o hb q=>?_)
  ·refine (hs2.2 x hxs).trans (Heap.get?_update_self _ hx1 ?_)
   have hfr:=(Heap.get?_some_iff.mp hx).2
   cases oda <;> first | rfl | exact hfr
  ·exact (hs2.2 b (Nat.ne_of_lt (Heap.lt_size q))).trans ((Heap.get?_update_ne _ _ _ _ hb).trans (Heap.get?_push_of_some _ q))
end
end Sv
namespace Sv
open PySem PySem.Spec PyProof.Rows L2
section
variable {prog:Program}{w:World}{A:Around}{E:Value→Shared→Prop}{K:PySem.W.Frag}{x D:Addr}{ox:Obj}{odo:Option Obj}{name:Str}{s:Shared}
theorem ga_val {v:Value}{tk:Tok}{Q:Fin→Shared→Prop}(X:K.In s.heap)(I:PySem.W.InstAt s.heap x ox D odo)(hf:PySem.W.findObj K D odo name=some (.value v))(h:Q (.done (.ret v)) s):wpAny (model prog w) A (Builtin.«object.__getattribute__» ⟨[.ref x,.str name tk],[]⟩) Q E s:=by
 obtain ⟨hh,gg,d,t,os⟩:=s
 have L0:=I.type (M:=model prog w)
 have L1:=PySem.W.looks_find (M:=model prog w) X I hf
 unfold Builtin.«object.__getattribute__»
 refine wpAny_bind (wpAny_pure (wpAny_bind (wpAny_pure (wpAny_bind (L0.at (wpAny_bind (L1.at ?_)))))))
 exact wpAny_pure h
theorem exc_attr {v:Value}{b:Bool}{Q:Value→Shared→Prop}(X:K.In s.heap)(I:PySem.W.InstAt s.heap x ox D odo)(Z:ExcI K D)(hf:PySem.W.findObj K D odo name=some (.value v))(hv:PySem.W.handedIn v=true)(h:Q v { s with toks:=s.toks+1 }):wpAny (model prog w) A (getAttr (.ref x) name b) Q E s:=by
 obtain ⟨hh,g,d,t,os⟩:=s
 have L0:=I.type (M:=model prog w)
 have L1:=PySem.W.looks_findIn (M:=model prog w) X Z.hg
 have L2:=PySem.W.looks_findIn (M:=model prog w) X Z.hgn
 unfold getAttr getAttrBy
 refine wpAny_bind (wpAny_mkText (wpAny_holding (wpAny_bind (L0.at (wpAny_bind (L1.at ?_))))))
 have hne:(onTheHeap (Value.ref D) && Value.builtin "BaseException.__getattribute__" == Value.builtin "object.__getattribute__")=false:=by
  rw [show (Value.builtin "BaseException.__getattribute__" == Value.builtin "object.__getattribute__")=false by decide +kernel]
  rfl
 show wpAny _ _ (if (onTheHeap (Value.ref D) && Value.builtin "BaseException.__getattribute__" == Value.builtin "object.__getattribute__")=true then _ else getAttrByItsOwn _ _ _ _ _ _) _ _ _
 rw [hne,if_neg Bool.false_ne_true]
 unfold getAttrByItsOwn
 refine wpAny_bind (show wpAny _ _ (typeLookup (.ref D) "__getattr__") _ _ _ from L2.at (wpAny_bind (wpAny_attempt (wpAny_holding ?_))))
 unfold callGetattribute boundAndCalled
 rw [if_neg (by cases b <;> decide),ga_bind]
 refine wpAny_bind (wpAny_pure (show wpAny _ _ (call _ [.ref x,.str name t]) _ _ _ from ?_))
 refine wpAny_call (codeAny_call_builtin F.excAttr_ValueError.ga.plain F.entry_bexc_ga (ga_check X I Z.hb (ga_val X I hf ?_)))
 exact PySem.W.handed_on hv h
theorem exc_classD {Q:Option Value→Shared→Prop}(X:K.In s.heap)(I:PySem.W.InstAt s.heap x ox D odo)(Z:ExcI K D)(h:Q (some (.ref D)) { s with toks:=s.toks+1 }):wpAny (model prog w) A (getAttr? (.ref x) "__class__") Q E s:=by
 have hf:PySem.W.findObj K D odo "__class__"=some (.bind (.builtin "getset_descriptor.__get__") (.builtin "object.__class__")):=by
  obtain ⟨cd,hc,_⟩:=PySem.W.any_some Z.hd
  unfold PySem.W.findObj
  rw [hc,Option.bind_some,Z.ha,Option.bind_some]
  simp [Z.hn,Z.ht]
 obtain ⟨hh,g,d,t,os⟩:=s
 have L0:=I.type (M:=model prog w)
 have L1:=PySem.W.looks_findIn (M:=model prog w) X Z.hg
 have L2:=PySem.W.looks_findIn (M:=model prog w) X Z.hgn
 unfold getAttr? getAttrBy? getAttrBy
 refine wpAny_bind (wpAny_mkText (wpAny_bind (wpAny_attempt (wpAny_holding (wpAny_bind (L0.at (wpAny_bind (L1.at ?_))))))))
 have hne:(onTheHeap (Value.ref D) && Value.builtin "BaseException.__getattribute__" == Value.builtin "object.__getattribute__")=false:=by
  rw [show (Value.builtin "BaseException.__getattribute__" == Value.builtin "object.__getattribute__")=false by decide +kernel]
  rfl
 show wpAny _ _ (if (onTheHeap (Value.ref D) && Value.builtin "BaseException.__getattribute__" == Value.builtin "object.__getattribute__")=true then _ else getAttrByItsOwn _ _ _ _ _ _) _ _ _
 rw [hne,if_neg Bool.false_ne_true]
 unfold getAttrByItsOwn
 refine wpAny_bind (show wpAny _ _ (typeLookup (.ref D) "__getattr__") _ _ _ from L2.at (wpAny_bind (wpAny_attempt (wpAny_holding (show wpAny _ _ (boundAndCalled _ _ _) _ _ _ from ?_)))))
 unfold boundAndCalled
 rw [ga_bind]
 refine wpAny_bind (wpAny_pure (show wpAny _ _ (call _ [.ref x,.str "__class__" t]) _ _ _ from ?_))
 refine wpAny_call (codeAny_call_builtin F.excAttr_ValueError.ga.plain F.entry_bexc_ga (ga_check X I Z.hb (ga_body X I hf (wpAny_call ?_))))
 refine PySem.W.class_get (s:=⟨hh,g,d,t+1,os⟩) (ox:=ox) (od:=odo) X I Z.hm ?_
 exact (show wpAny _ _ (handedOut (.ref D)) _ _ _ from PySem.W.handed_on rfl (wpAny_pure h))
end
theorem kitx_excD {K:PySem.W.Frag}{a D:Addr}{ox:Obj}{odo:Option Obj}(Z:ExcI K D):PySem.W.KitX K (.ref a) (.ref D) (fun h=>PySem.W.InstAt h a ox D odo) where
 ty:=fun _ _ _ I=>I.type
 it:=fun _ _ kin _=>by
  obtain ⟨cd,hc,_⟩:=PySem.W.any_some Z.hd
  unfold PySem.W.clsIn at hc
  split at hc
  ·rename_i _ _ _ _ ho
   intro _ _ _ _ kp q
   unfold isType loadHead
   exact wpAny_bind (wpAny_loadPart (kp _ _ (kin _ _ ho)) (wpAny_pure q))
  ·cases hc
 ne:=fun h tp _ _ _ _ kin htp=>by
  obtain ⟨cd,hc,_⟩:=PySem.W.any_some Z.hd
  refine Bool.eq_false_iff.mpr fun q=>?_
  obtain rfl:D=tp:=Value.ref.inj (beq_iff_eq.mp q)
  unfold PySem.W.clsIn at hc
  split at hc
  ·rename_i _ _ _ _ ho
   have z:=(kin _ _ ho).symm.trans htp
   cases z
  ·cases hc
 ca:=fun {prog w A E Q s} kin I q=>exc_classD kin I Z q
def IsExc (H:Hp)(a C:Addr)(dd:Option Addr):Prop:=∃ φ,H a=some (.ext φ)∧∀ h,φ h→∃ (vs:Array Value) (sl:Array (Option Value)),h.get? a=some ⟨.ref C,dd,.fields vs,sl⟩
theorem IsExc.of {H:Hp}{a C:Addr}{dd:Option Addr}(h:H a=some (excO a (.ref C) dd)):IsExc H a C dd:=⟨_,h,fun _ z=>z⟩
section
variable {X:Cx}{e:Expr}{ta:TE}{f:Str}{pos:Pos}
theorem IsExc.inst {pins:List (Addr×Obj)}{σ:L2.St}{H:Hp}{s:Shared}{a C d:Addr}{fs:List (Str×V)}(I:Inv X pins σ H s)(h:IsExc H a C (some d))(hd:H d=some (.xd fs)):∃ (ox od:Obj) (mA:Str→Option Value),PySem.W.InstAt s.heap a ox C (some od)∧(∀ n,PySem.W.lookIn n od=some (mA n))∧∀ n,RelO (fs.lookup n) (mA n):=by
 obtain ⟨φ,ha,k⟩:=h
 obtain ⟨vs,sl,hx⟩:=k _ (show ObjOk X.prog X.w H s.heap a (.ext φ) from I.hok a _ ha).1
 obtain ⟨mA,ns,r⟩:=(show ObjOk X.prog X.w H s.heap d (.xd fs) from I.hok d _ hd)
 obtain ⟨od,ho,lk⟩:=lookIn_ns ns
 exact ⟨_,od,mA,⟨hx,rfl,rfl,ho⟩,lk,r⟩
def FldE (K:PySem.W.Frag)(f:Str)(x:V)(H:Hp)(Q:VK):Prop:=∃ a C d fs v,x=.ref a∧IsExc H a C (some d)∧H d=some (.xd fs)∧ExcI K C∧NoAttr K C f∧fs.lookup f=some v∧Q v H
def tFldE (K:PySem.W.Frag)(ta:TE)(f:Str):TE:=fun σ H Q=>ta σ H fun x H1=>FldE K f x H1 Q
theorem pe_fldE (he:PE X e ta)(hb:attributeBase e f X.env (eval e X.env)=eval e X.env):PE X (.Attribute e f pos) (tFldE X.K ta f):=by
 intro pins s σ H Q I h
 refine attr_of hb (thn (he pins s σ H _ I h) fun u s1 ⟨x,H1,I1,rx,a,C,d,fs,v,ex,ha,hd,Z,na,l,q⟩=>?_)
 subst ex
 obtain rfl:u=Value.ref a:=rx
 obtain ⟨ox,od,mA,J,lk,r⟩:=ha.inst I1 hd
 obtain ⟨u,hu,ru⟩:=RelO.some_of (v:=v) (o:=mA f) (by rw [← l]; exact r f)
 have hf:PySem.W.findObj X.K C (some od) f=some (.value u):=by
  obtain ⟨cd,hc,hdc⟩:=PySem.W.any_some Z.hd
  unfold PySem.W.findObj
  rw [hc,Option.bind_some,show PySem.W.findIn X.K (.ref C) f=some none from na,Option.bind_some]
  simp only [Option.bind_some,PySem.W.ownOf,hdc,if_true,lk,hu]
 exact exc_attr I1.kIn J Z hf (handed_of ru) ⟨v,H1,I1.tok _,ru,q⟩
def rIsiE (K:PySem.W.Frag):List V→Hp→VK→Prop:=fun xs H Q=>∃ (a C':Addr) (dd:Option Addr) (c:V) (b:Bool),xs=[.ref a,c]∧((∃ T,c=.ty T)∨∃ C,c=.ref C)∧IsExc H a C' dd∧(∀ d,dd=some d→∃ fs,H d=some (.xd fs))∧ExcI K C'∧PySem.W.kitOne K (.ref C') (clsV c)=some b∧Q (.bl b) H
theorem call_isiE:CallR X (.builtin "isinstance") (rIsiE X.K):=by
 intro pins s σ H xs us Q I r h
 obtain ⟨a,C',dd,c,b,rfl,hc,ha,hd,Z,e,q⟩:=h
 obtain ⟨u,v,rfl,ru,rv⟩:=Vals.two r
 obtain rfl:u=Value.ref a:=ru
 obtain rfl:v=clsV c:=by
  rcases hc with ⟨T,rfl⟩ | ⟨C,rfl⟩
  ·exact rv
  ·exact rv
 cases dd with
 | none =>
  obtain ⟨φ,ha,k⟩:=ha
  obtain ⟨vs,sl,hx⟩:=k _ (show ObjOk X.prog X.w H s.heap a (.ext φ) from I.hok a _ ha).1
  exact PySem.W.kia_one (kitx_excD (ox:=⟨.ref C',none,.fields vs,sl⟩) (odo:=none) Z) I.kIn ⟨hx,rfl,rfl,trivial⟩ e (fun z=>nomatch z) fun tk=>⟨.bl b,H,I.tok tk,rfl,q⟩
 | some d =>
  obtain ⟨fs,hd⟩:=hd d rfl
  obtain ⟨ox,od,mA,J,_,_⟩:=ha.inst I hd
  exact PySem.W.kia_one (kitx_excD (ox:=ox) (odo:=some od) Z) I.kIn J e (fun z=>nomatch z) fun tk=>⟨.bl b,H,I.tok tk,rfl,q⟩
end
end Sv
namespace Sv
open PySem PySem.Spec PyProof.Rows L2
section
variable {prog:Program}{w:World}{A:Around}{E:Value→Shared→Prop}{h:Heap}{g:Array GenState}{d:Drawn}{t:Nat}{os:OsState}
variable {nm q:Str}{C N:Addr}{bs bm bmB:List Value}{hdct:Bool}{sn:List Str}{sub:List Value}{ab:Bool}{col:Option Bool}{dd:Option Addr}{k0 k1 k2 k3 k5:Option Value}{B newId nid initId:String}
theorem base_init (F:ExcBaseFacts B nid initId bmB)(T:OwnTail h bmB bm){e:Addr}{dx:Option Addr}{vs:Array Value}{sl:Array (Option Value)}{m:Value}{Q:Value→Shared→Prop}(hC:h.get? C=some (excClassObj nm q C N bs bm hdct sn sub ab col dd k0 k1 k2 k3 k5 newId))(he:h.get? e=some ⟨.ref C,dx,.fields vs,sl⟩){t0:Addr}(h0:vs[0]?=some (.ref t0))
  (hq:∀ h' a,h'.get? e=some ⟨.ref C,dx,.fields (vs.setIfInBounds 0 (.ref a)),sl⟩→(∀ b o,b≠e→h.get? b=some o→h'.get? b=some o)→Q .none ⟨h',g,d,t,os⟩):wpAny (model prog w) A (call (.builtin initId) [.ref e,m]) Q E ⟨h,g,d,t,os⟩:=by
 refine wpAny_call (codeAny_call_builtin F.init.plain F.initEntry (wpAny_check_init_subU F T hC he rfl ?_))
 have hz:0<vs.size:=(Array.getElem?_eq_some_iff.mp h0).1
 have he1:(h.push { cls:=.type "tuple",data:=.seq #[m] }).get? e=some ⟨.ref C,dx,.fields vs,sl⟩:=Heap.get?_push_of_some _ he
 unfold Builtin.«BaseException.__init__»
 wp_walk
 rw [h0]
 refine wpAny_pure (wpAny_bind (wpAny_setField he1 rfl hz (wpAny_letGo (wpAny_pure ?_))))
 refine hq _ h.objs.size ?_ fun b o hb q=>?_
 ·rw [Heap.get?_update_self _ he1 rfl]
  rfl
 ·rw [Heap.get?_update_ne _ _ _ _ hb]
  exact Heap.get?_push_of_some _ q
end
def exN (a C:Addr)(dd:Option Addr):HO:=.ext fun h=>∃ (vs:Array Value) (sl:Array (Option Value)) (t0:Addr),h.get? a=some ⟨.ref C,dd,.fields vs,sl⟩∧vs[0]?=some (.ref t0)∧vs[1]?=some .none∧vs[2]?=some .none∧4<vs.size
theorem IsExc.new {H:Hp}{a C:Addr}{dd:Option Addr}(h:H a=some (exN a C dd)):IsExc H a C dd:=⟨_,h,fun _ ⟨vs,sl,_,q,_⟩=>⟨vs,sl,q⟩⟩
theorem exN_ok {P:Program}{w:World}{H:Hp}{h:Heap}{a C:Addr}{dd:Option Addr}{vs:Array Value}{sl:Array (Option Value)}{t0:Addr}(e:h.get? a=some ⟨.ref C,dd,.fields vs,sl⟩)(h0:vs[0]?=some (.ref t0))(h1:vs[1]?=some .none∧vs[2]?=some .none∧4<vs.size):ObjOk P w H h a (exN a C dd) :=
 ⟨⟨vs,sl,t0,e,h0,h1⟩,⟨_,e⟩,fun _ _ ⟨vs',sl',t',q,r⟩ k=>⟨vs',sl',t',k _ q,r⟩⟩
structure ExcS (K:PySem.W.Frag)(C:Addr):Prop where
 ov:overVE K C=true
 hd:PySem.W.hasDictIn K C=true
 sa:PySem.W.findIn K (.ref C) "__setattr__"=some (some (.builtin "object.__setattr__"))
section
variable {X:Cx}{o value:Expr}{f:Str}{ta tv:TE}{pos pos':Pos}
def SFldX (K:PySem.W.Frag)(f:Str)(y x:V)(H:Hp)(R:Hp→Prop):Prop:=∃ a C,x=.ref a∧H a=some (exN a C none)∧ExcS K C∧NoAttr K C f∧∀ d,H d=none→R (upd (upd H d (.xd [(f,y)])) a (exN a C (some d)))
def sFldX (K:PySem.W.Frag)(ta tv:TE)(f:Str):TS:=fun D σ H=>tv σ H fun y H1=>ta σ H1 fun x H2=>SFldX K f y x H2 fun H'=>D.nx σ H'
theorem ps_fldX (ha:PE X o ta)(hv:PE X value tv)(hs:swapsWith value (some (.Attribute o f pos')) pos.line X.env=pure false):PS X (.Assign [.Attribute o f pos'] value pos) (sFldX X.K ta tv f):=by
 intro pins s σ H D I h
 refine plainObj_wpAny_Assign_Attribute (thn (hv pins s σ H _ I h) fun u s1 ⟨y,H1,I1,ry,q⟩=>thn (ha pins s1 σ H1 _ I1 q) fun ov s2 ⟨x,H2,I2,rx,a,C,ex,ea,S,na,q2⟩=>?_) hs
 subst ex
 obtain rfl:ov=Value.ref a:=rx
 obtain ⟨⟨vs,sl,t0,hx,h0,h1⟩,_,_⟩:=(show ObjOk X.prog X.w H2 s2.heap a (exN a C none) from I2.hok a _ ea)
 refine store_new (ox:=⟨.ref C,none,.fields vs,sl⟩) I2.kIn ⟨hx,rfl,rfl,trivial⟩ S.ov S.hd na S.sa fun h' d tk hd ed hx' ns kk=>?_
 subst ed
 obtain ⟨od,es,ep,hod,rest⟩:=id ns
 have nd:H2 s2.heap.objs.size=none:=I2.fresh
 have ne:a≠s2.heap.objs.size:=Nat.ne_of_lt (Heap.lt_size hx)
 have hfd:od.isFreed=false:=(Heap.get?_some_iff.mp hod).2
 have gd:(s2.heap.push od).get? s2.heap.objs.size=some od:=Heap.get?_push_size _ hfd
 have I3:Inv X pins σ (upd H2 s2.heap.objs.size (.xd [(f,y)])) { s2 with heap:=s2.heap.push od,toks:=tk }:=I2.laid (fun b ob q=>Heap.get?_push_of_some _ q) (Nat.le_refl _) ⟨_,⟨od,es,ep,gd,rest⟩,fun n=>by
  by_cases z:n=f
  ·subst z
   rw [List.lookup_cons,beq_self_eq_true,if_pos rfl]
   exact ry
  ·rw [List.lookup_cons,beq_eq_false_iff_ne.mpr z,if_neg z]
   exact trivial⟩
 refine ⟨σ,_,?_,q2 _ nd⟩
 refine Inv.write (s:={ s2 with heap:=s2.heap.push od,toks:=tk }) (t':=tk) (x:=a) (e:=a) I3 (by rw [upd_ne ne,ea]; exact trivial) (.inl rfl) (fun b u hb q=>?_) ⟨_,hx'⟩ (exN_ok hx' h0 h1)
 replace q:(s2.heap.push od).get? b=some u:=q
 by_cases z:b=s2.heap.objs.size
 ·subst z
  rw [gd] at q
  cases q
  exact hod
 ·rw [Heap.get?_push_ne _ _ _ z] at q
  exact kk b u hb q
end
end Sv
namespace Sv
open PySem PySem.Spec PyProof.Rows L2
theorem upd_id {H:Hp}{a:Addr}{o:HO}(h:H a=some o):upd H a o=H:=funext fun b=>by
 by_cases z:b=a
 ·subst z
  rw [upd_same,h]
 ·rw [upd_ne z]
def bmVE:List Value:=[.type "ValueError",.type "Exception",.type "BaseException",.type "object"]
structure ExcK (K:PySem.W.Frag)(C N:Addr):Prop where
 ex:∃ (nm q:Str) (bs bm:List Value) (hdct:Bool) (sn:List Str) (sub:List Value) (ab:Bool) (col:Option Bool) (dd:Option Addr) (k0 k1 k2 k3 k5:Option Value),K.lookup C=some (excClassObj nm q C N bs bm hdct sn sub ab col dd k0 k1 k2 k3 k5 "ValueError.__new__")∧PySem.W.tailIn K bmVE bm=true
structure ExcB (K:PySem.W.Frag)(C0:Addr):Prop where
 ga:PySem.W.specialIn K (.ref C0) "__getattribute__"=some (some (.builtin "type.__getattribute__"))
 rd:PySem.W.readsIn K C0 (.type "type")=true
 at_:PySem.W.findCls K (.ref C0) (.type "type") "__init__"=some (.val (.builtin "ValueError.__init__"))
def XInit (K:PySem.W.Frag)(xs:List V)(H:Hp)(Q:VK):Prop:=∃ a C N dd m,xs=[.ref a,m]∧H a=some (exN a C dd)∧ExcK K C N∧Q .non H
def tXInit (K:PySem.W.Frag)(t:TA):TE:=fun σ H Q=>t σ H fun xs H1=>XInit K xs H1 Q
section
variable {X:Cx}{C0:Addr}{pos apos:Pos}{e o:Expr}{es:List Expr}{t:TA}{pl:Sem Bool}
theorem pe_xinit (he:PE X o (tC (.ref C0)))(B:ExcB X.K C0)(ha:PA X (e::es) t)(hst:starEach (e::es) X.env=(false,eval e X.env)::starEach es X.env:=by rfl)(hpl:(backTo pos (starEach es X.env)).any (·.1)=false:=by rfl)
  (ht:eval (.Call (.Attribute o "__init__" apos) (e::es) [] pos) X.env=(do
   let ov ← eval o X.env
   standAt apos.atName
   let (f,first) ← holding [ov] (getMethod ov "__init__" pl)
   callWith pos f first (backTo pos (starEach (e::es) X.env)) (backToKw pos (keywordEach [] X.env))):=by rfl):PE X (.Call (.Attribute o "__init__" apos) (e::es) [] pos) (tXInit X.K t):=by
 intro pins s σ H Q I h
 refine PySem.W.methodCall_KW (pl:=pl) (thn (he pins s σ H (fun x H1=>x=.ref C0∧H1=H) I ⟨rfl,rfl⟩) fun u s1 ⟨x,H1,I1,rx,ex,eH⟩=>?_) ht
 subst ex eH
 obtain rfl:u=Value.ref C0:=rx
 refine PySem.W.method_cls I1.kIn B.ga (PySem.W.cls_value I1.kIn B.rd B.at_ rfl ?_)
 have I2:=I1.tok (s1.toks+1)
 refine PyProof.Rows.callWith_builtin1 (thn (ha pos pins _ σ H1 _ I2 h) fun us s2 ⟨vs,H2,I3,r,q⟩=>?_) hst hpl
 obtain ⟨a,C,N,dd,m,rfl,hx,Kc,q⟩:=q
 obtain ⟨u,v,rfl,ru,rv⟩:=Vals.two r
 obtain rfl:u=Value.ref a:=ru
 obtain ⟨nm,q',bs,bm,hdct,sn,sub,ab,col,dd',k0,k1,k2,k3,k5,lk,tl⟩:=Kc.ex
 obtain ⟨⟨vs,sl,t0,hr,h0,h1⟩,_,_⟩:=(show ObjOk X.prog X.w H2 s2.heap a (exN a C dd) from I3.hok a _ hx)
 obtain ⟨hp,g,d,tk,os⟩:=s2
 refine base_init PySem.F.excBase_ValueError (PySem.W.tail_of_in I3.kIn tl) (I3.kIn _ _ lk) hr h0 fun h' b hb kk=>?_
 have I4:Inv X pins σ (upd H2 a (exN a C dd)) ⟨h',g,d,tk,os⟩:=Inv.write (s:=⟨hp,g,d,tk,os⟩) (t':=tk) (x:=a) (e:=a) I3 (by rw [hx]; exact trivial) (.inl rfl) (fun b u hb q=>kk b u hb q) ⟨_,hb⟩ (exN_ok (t0:=b) hb (by
  have:0<vs.size:=(Array.getElem?_eq_some_iff.mp h0).1
  simp [this]) ⟨by rw [Array.getElem?_setIfInBounds_ne (by decide)]; exact h1.1,by rw [Array.getElem?_setIfInBounds_ne (by decide)]; exact h1.2.1,by rw [Array.size_setIfInBounds]; exact h1.2.2⟩)
 rw [upd_id hx] at I4
 exact ⟨.non,H2,I4,rfl,q⟩
end
def del (H:Hp)(a:Addr):Hp:=fun b=>if b=a then none else H b
theorem del_ne {H:Hp}{a b:Addr}(h:b≠a):del H a b=H b:=if_neg h
theorem del_same {H:Hp}{a:Addr}:del H a a=none:=if_pos rfl
theorem _root_.L2.Inv.del {X:Cx}{pins:List (Addr×Obj)}{σ:L2.St}{H:Hp}{s:Shared}{a:Addr}{φ:Heap→Prop}(I:Inv X pins σ H s)(h:H a=some (.ext φ)):Inv X pins σ (Sv.del H a) s:=by
 have ne:∀ b u,H b=some u→(∀ ψ,u≠.ext ψ)→b≠a:=fun b u e n z=>by
  rw [z,h] at e
  exact n φ (Option.some.inj e).symm
 have dn:∀ b,H b=none→Sv.del H a b=none:=fun b e=>by
  by_cases z:b=a
  ·rw [z]
   exact del_same
  ·rw [del_ne z]
   exact e
 refine ⟨I.ok,I.os,I.bare,⟨I.base.keep,I.base.slot,fun b o e n hx=>dn b (I.base.free b o e n hx),I.base.there,fun b xs e=>?_,fun b o u e=>?_,fun b ps e=>?_⟩,I.loc,I.cell,dn _ I.free,fun x c e=>dn _ (I.freeC x c e),fun p hp=>?_,fun b u e=>?_,I.len⟩
 ·have q:=I.base.tups b xs e
  rw [del_ne (ne b _ q fun _ z=>by cases z)]
  exact q
 ·have q:=I.base.frzs b o u e
  rw [del_ne (ne b _ q fun _ z=>by cases z)]
  exact q
 ·obtain ⟨more,q⟩:=I.base.tbls b ps e
  exact ⟨more,by rw [del_ne (ne b _ q fun _ z=>by cases z)]; exact q⟩
 ·obtain ⟨e,n,r⟩:=I.pin p hp
  exact ⟨e,dn _ n,r⟩
 ·have hb:b≠a:=fun z=>by
   rw [z,del_same] at e
   cases e
  rw [del_ne hb] at e
  exact (I.hok b u e).stay (fun _ _ _ q=>q) (fun c q=>by rw [del_ne (ne c _ q fun _ z=>by cases z)]; exact q) fun c xs q=>by rw [del_ne (ne c _ q fun _ z=>by cases z)]; exact q
structure ExcCI (K:PySem.W.Frag)(mg:Str→Option Value)(x:Str)(C N fI:Addr):Prop where
 mg:mg x=some (.ref C)
 k:ExcK K C N
 ns:PySem.W.nsOkIn K N=true
 ini:PySem.W.nsIn K N "__init__"=some (some (.ref fI))
 fn:∃ oI,K.lookup fI=some oI∧oI.cls=.type "function"
theorem ns_some {K:PySem.W.Frag}{h:Heap}{N:Addr}{mN:Str→Option Value}{n:Str}{v:Value}(X:K.In h)(G:h.Ns N mN)(e:PySem.W.nsIn K N n=some (some v)):mN n=some v:=by
 obtain ⟨o,es,ep,ho,hd,_,hf⟩:=G
 unfold PySem.W.nsIn at e
 split at e
 ·rename_i c d es' n' sl q
  have z:=X _ _ q
  rw [ho] at z
  cases z
  cases hd
  split at e
  ·rename_i he
   rw [← hf]
   unfold nsFind findBy
   rw [← Array.find?_toList,he]
   cases e
   rfl
  ·split at e
   ·cases e
   ·cases e
 ·cases e
def tRaiseI (C:Addr)(sp:Sp)(E:XK)(t:TA):TS:=fun _ σ H=>t σ H fun vs H1=>vs.length≤sizeLine∧∀ a,H1 a=none→sp (.ref a::vs) (upd H1 a (exN a C none)) (fun v H2=>v=.non∧∃ dd,H2 a=some (exN a C dd)∧(∀ d,dd=some d→d≠a∧∃ fs,H2 d=some (.xd fs))∧E (.ref C) dd (del H2 a)) E0
theorem ps_raiseI {X:Cx}{E:XK}{x:Str}{C N fI:Addr}{k:Nat}{fd:FuncData}{ps:List Str}{sp:Sp}{np cpos pos:Pos}{e:Expr}{es:List Expr}{t:TA}(hX:XeOut X E)(O:ExcCI X.K X.mg x C N fI)(G:FnOk X.prog X.w X.K X.mg X.base CX0 k fI fd ps sp)(hr:Room (k+1) X.A)(hb:Binds X.K fd ps [])(hc:X.calm=true)(hg:Gl X x)(ha:PA X (e::es) t)(hdb:(x == ("__debug__":Str))=false:=by decide)
  (he:starEach (e::es) X.env=(false,eval e X.env)::starEach es X.env:=by rfl) (hpl:(backTo cpos (starEach es X.env)).any (·.1)=false:=by rfl):PS X (.Raise (some (.Call (.Name x np) (e::es) [] cpos)) none pos) (tRaiseI C sp E t):=by
 intro pins s σ H D I h
 obtain ⟨nm,q',bs,bm,hdct,sn,sub,ab,col,dd',k0,k1,k2,k3,k5,lk,tl⟩:=O.k.ex
 obtain ⟨oI,lf,hfc⟩:=O.fn
 have kin:=I.ok.mod.kin
 have T:=PySem.W.tail_of_in kin tl
 have hN:X.base.Ns N (X.base.nsMap N):=.of_isNs (PySem.W.isNs_of_in kin O.ns)
 have hi:X.base.nsMap N "__init__"=some (.ref fI):=ns_some kin hN O.ini
 refine raise_callI (C:=C) (nm:=nm) (q:=q') (N:=N) (bs:=bs) (bm:=bm) (hdct:=hdct) (sn:=sn) (sub:=sub) (ab:=ab) (col:=col) (dd:=dd') (k0:=k0) (k1:=k1) (k2:=k2) (k3:=k3) (k5:=k5) PySem.F.excBase_ValueError (mN:=X.base.nsMap N) (oI:=oI)
  (T.hasType (show bmVE.contains (.type "BaseException")=true by decide +kernel)) (I.ok.hd hc) (by rw [he]; show (false || (backTo cpos (starEach es X.env)).any (·.1))=false; rw [hpl]; rfl) hi hfc (ld_glob I hg O.mg ⟨rfl,?_⟩ hdb)
 have a:=ha cpos pins s σ H _ I h
 rw [he] at a ⊢
 refine Calls.evalArgs_plain (wpAny_mono a (fun us s2 ⟨vs,H2,I2,r,hz,q2⟩=>?_) fun _ _ y=>y)
 refine ⟨rfl,by rw [← r.length]; exact hz,I2.kIn _ _ lk,hN.keeps I2.bk,PySem.W.tail_of_in I2.kIn tl,I2.kIn _ _ lf,fun h' e hm le=>?_⟩
 obtain ⟨t0,ht0,_,_⟩:=hm.there
 have hfree:H2 e=none:=I2.hok.fresh le
 have I3:Inv X pins σ (upd H2 e (exN e C none)) { s2 with heap:=h',toks:=s2.toks }:=I2.laid hm.keeps le (exN_ok ht0 rfl ⟨rfl,rfl,show 4<6 by decide⟩)
 have hq:=q2 e hfree
 have r2:Vals (V.ref e::vs) (Value.ref e::us):=.cons rfl r
 have hl:(Value.ref e::us++[]).length=ps.length:=by
  have e1:=r2.length
  rw [G.len _ _ _ _ hq] at e1
  rw [List.append_nil]
  exact e1.symm
 have bd:=hb { s2 with heap:=h',toks:=s2.toks } (Value.ref e::us) I3.kIn hl
 rw [List.append_nil] at bd
 refine wpAny_call (codeAny_mono (G.run _ X.stack _ _ ⟨Value.ref e::us,[]⟩ (Value.ref e::us) _ _ E0 (hr.make C us []) (I3.env0.make C us []) bd r2 hq) fun r' s' hq'=>?_)
 cases r' with
 | error y=>exact False.elim hq'
 | ok fl =>
  cases fl with
  | ret u =>
   obtain ⟨v,H4,I4,rv,ev,dd,h4,hd,hE⟩:=I3.after hq'
   subst ev
   obtain ⟨⟨vs',sl',t',hr',h0',h1'⟩,_,_⟩:=(show ObjOk X.prog X.w H4 s'.heap e (exN e C dd) from I4.hok e _ h4)
   refine ⟨rv,I4.kIn _ _ lk,⟨dd,vs',sl',hr',h1'.1⟩,?_⟩
   refine leave_made hX (I4.del h4) ⟨sl',vs',hr',h1'.1,.no h1'.2.1⟩ ?_ del_same (fun d z=>?_) hE
   ·cases q:X.s₀.heap.get? e with
    | none=>rfl
    | some u =>
     obtain ⟨ob,ho⟩:=I2.base.there e u q (by rw [hX.ex]; simp)
     rw [hm.new] at ho
     cases ho
   ·obtain ⟨ne,fs,hf⟩:=hd d z
    exact ⟨fs,by rw [del_ne ne]; exact hf⟩
  | next=>exact False.elim hq'
  | brk=>exact False.elim hq'
  | cont=>exact False.elim hq'
end Sv
namespace L2
open PySem PySem.Spec PyProof.Rows
section
variable {κ:Type} [DecidableEq κ]
def valV (kvs:List (κ×V))(k:κ):Option V:=(kvs.find? fun kv=>decide (kv.1=k)).map (·.2)
def putK (kvs:List (κ×V))(k:κ)(v:V):List (κ×V) :=
  if (kvs.any fun kv=>decide (kv.1=k))=true then kvs.map (fun kv=>if kv.1=k then (kv.1,v) else kv) else kvs++[(k,v)]
def dropK (kvs:List (κ×V))(k:κ):List (κ×V):=kvs.filter fun kv=>decide (kv.1≠k)
theorem valV_pos {p:κ×V}{r:List (κ×V)}{k:κ}(e:p.1=k):valV (p::r) k=some p.2:=by simp [valV,List.find?_cons,e]
theorem valV_neg {p:κ×V}{r:List (κ×V)}{k:κ}(e:¬ p.1=k):valV (p::r) k=valV r k:=by simp [valV,List.find?_cons,e]
theorem valV_any (k:κ):∀ kvs:List (κ×V),(kvs.any fun kv=>decide (kv.1=k))=(valV kvs k).isSome
  | []=>rfl
  | p::r=>by
    rw [List.any_cons]
    by_cases e:p.1=k
    · simp only [valV_pos e,decide_eq_true e,Bool.true_or,Option.isSome_some]
    · rw [valV_neg e,decide_eq_false e,Bool.false_or]; exact valV_any k r
theorem length_putK (kvs:List (κ×V))(k:κ)(v:V):(putK kvs k v).length≤kvs.length+1:=by
  unfold putK
  split
  · rw [List.length_map]; omega
  · rw [List.length_append,List.length_cons,List.length_nil]; omega
theorem putK_new {kvs:List (κ×V)}{k:κ}(v:V)(h:valV kvs k=none):putK kvs k v=kvs++[(k,v)]:=by
  unfold putK
  rw [valV_any,h]
  exact if_neg (by decide)
theorem RelO.isSome_eq {o:Option V}{u:Option Value}(r:RelO o u):o.isSome=u.isSome:=by
  cases o with
  | none=>cases u with
    | none=>rfl
    | some _=>exact (show False from r).elim
  | some _=>cases u with
    | none=>exact (show False from r).elim
    | some _=>rfl
theorem RelO.getD {o:Option V}{u:Option Value}{d:V}{d':Value}(r:RelO o u)(rd:RelV d d'):RelV (o.getD d) (u.getD d'):=by
  cases o with
  | none=>cases u with
    | none=>exact rd
    | some _=>exact (show False from r).elim
  | some _=>cases u with
    | none=>exact (show False from r).elim
    | some _=>exact r
theorem KV.val {kvs:List (κ×V)}{vs:List (κ×Value)}(r:KV kvs vs)(k:κ):RelO (valV kvs k) (valueAt vs k):=by
  unfold KV at r
  induction r with
  | nil=>exact True.intro
  | @cons p q ps qs h t ih =>
    obtain ⟨h1,h2⟩:=h
    by_cases e:p.1=k
    · have e':q.1=k:=h1.symm.trans e
      have b:valueAt (q::qs) k=some q.2:=by simp [valueAt,List.find?_cons,e']
      rw [valV_pos e,b]; exact h2
    · have e':¬ q.1=k:=fun z=>e (h1.trans z)
      have b:valueAt (q::qs) k=valueAt qs k:=by simp [valueAt,List.find?_cons,e']
      rw [valV_neg e,b]; exact ih
theorem KV.any {kvs:List (κ×V)}{vs:List (κ×Value)}(r:KV kvs vs)(k:κ):(kvs.any fun kv=>decide (kv.1=k))=vs.any fun kv=>decide (kv.1=k):=by
  unfold KV at r
  induction r with
  | nil=>rfl
  | cons h t ih=>rw [List.any_cons,List.any_cons,ih,h.1]
theorem KV.repl {kvs:List (κ×V)}{vs:List (κ×Value)}(r:KV kvs vs)(k:κ){y:V}{u:Value}(ry:RelV y u) :
    KV (kvs.map fun kv=>if kv.1=k then (kv.1,y) else kv) (vs.map fun kv=>if kv.1=k then (kv.1,u) else kv):=by
  unfold KV at r ⊢
  induction r with
  | nil=>exact .nil
  | @cons p q ps qs h t ih =>
    rw [List.map_cons,List.map_cons]
    refine .cons ?_ ih
    obtain ⟨h1,h2⟩:=h
    by_cases e:p.1=k
    · rw [if_pos e,if_pos (h1.symm.trans e)]; exact ⟨h1,ry⟩
    · rw [if_neg e,if_neg (fun z=>e (h1.trans z))]; exact ⟨h1,h2⟩
theorem KV.put {kvs:List (κ×V)}{vs:List (κ×Value)}(r:KV kvs vs)(k:κ){y:V}{u:Value}(ry:RelV y u):KV (putK kvs k y) (stored vs k u):=by
  unfold putK stored
  rw [r.any k]
  by_cases e:(vs.any fun kv=>decide (kv.1=k))=true
  · rw [if_pos e,if_pos e]; exact r.repl k ry
  · rw [if_neg e,if_neg e]; exact Paired.snoc r ⟨rfl,ry⟩
theorem KV.drop {kvs:List (κ×V)}{vs:List (κ×Value)}(r:KV kvs vs)(k:κ):KV (dropK kvs k) (without vs k):=by
  unfold KV at r ⊢
  unfold dropK without
  induction r with
  | nil=>exact .nil
  | @cons p q ps qs h t ih =>
    obtain ⟨h1,h2⟩:=h
    rw [List.filter_cons,List.filter_cons]
    by_cases e:p.1=k
    · have a:¬ decide (p.1≠k)=true:=by simp [e]
      have b:¬ decide (q.1≠k)=true:=by simp [h1.symm.trans e]
      rw [if_neg a,if_neg b]; exact ih
    · have e':¬ q.1=k:=fun z=>e (h1.trans z)
      have a:decide (p.1≠k)=true:=by simp [e]
      have b:decide (q.1≠k)=true:=by simp [e']
      rw [if_pos a,if_pos b]; exact .cons ⟨h1,h2⟩ ih
theorem KV.length {kvs:List (κ×V)}{vs:List (κ×Value)}(r:KV kvs vs):kvs.length=vs.length:=Paired.length r
end
theorem kV_is {P:Program}{w:World}{k:Key}{u:Value}(r:RelV (kV k) u):(mixKind P w).is k u=true:=by
  cases k with
  | inl i=>obtain ⟨t,e⟩:=(show ∃ t,u=Value.int i t from r); subst e; exact mixKind_int P w i t
  | inr x=>obtain ⟨t,e⟩:=(show ∃ t,u=Value.str x t from r); subst e; exact mixKind_str P w x t
theorem items_are {P:Program}{w:World}:∀ {ks:List Key} {us:List Value},Vals (ks.map kV) us→ItemsAre (mixKind P w) ks us
  | [],_,r=>by rw [List.map_nil] at r; cases r; exact .nil
  | k::ks,_,r=>by
    rw [List.map_cons] at r
    cases r with
    | cons h t=>exact .cons (kV_is h) (items_are t)
abbrev KT (H:Hp):List (List Key×V)→List (List Key×Addr×Value)→Prop:=Paired fun p q=>p.1=q.1∧H q.2.1=some (.tup (p.1.map kV))∧RelV p.2 q.2.2
theorem KT.val {H:Hp}{kvs:List (List Key×V)}{xs:List (List Key×Addr×Value)}(r:KT H kvs xs)(k:List Key):RelO (valV kvs k) ((atKey xs k).map (·.2)):=by
  induction r with
  | nil=>exact True.intro
  | @cons p q ps qs h t ih =>
    obtain ⟨h1,_,h2⟩:=h
    by_cases e:p.1=k
    · have e':q.1=k:=h1.symm.trans e
      have b:atKey (q::qs) k=some q.2:=by simp [atKey,List.find?_cons,e']
      rw [valV_pos e,b]; exact h2
    · have e':¬ q.1=k:=fun z=>e (h1.trans z)
      have b:atKey (q::qs) k=atKey qs k:=by simp [atKey,List.find?_cons,e']
      rw [valV_neg e,b]; exact ih
theorem KT.repl {H:Hp}{kvs:List (List Key×V)}{xs:List (List Key×Addr×Value)}(r:KT H kvs xs)(k:List Key){y:V}{u:Value}(ry:RelV y u) :
    KT H (kvs.map fun kv=>if kv.1=k then (kv.1,y) else kv) (xs.map (putAt k u)):=by
  induction r with
  | nil=>exact .nil
  | @cons p q ps qs h t ih =>
    rw [List.map_cons,List.map_cons]
    refine .cons ?_ ih
    obtain ⟨h1,h2,h3⟩:=h
    unfold putAt
    by_cases e:p.1=k
    · rw [if_pos e,if_pos (h1.symm.trans e)]; exact ⟨h1,h2,ry⟩
    · rw [if_neg e,if_neg (fun z=>e (h1.trans z))]; exact ⟨h1,h2,h3⟩
theorem KT.put {H:Hp}{kvs:List (List Key×V)}{xs:List (List Key×Addr×Value)}(r:KT H kvs xs)(k:List Key){b:Addr}{y:V}{u:Value}(hb:H b=some (.tup (k.map kV)))(ry:RelV y u) :
    KT H (putK kvs k y) (storedH xs k b u):=by
  have e:(kvs.any fun kv=>decide (kv.1=k))=(atKey xs k).isSome:=by
    rw [valV_any,(r.val k).isSome_eq,Option.isSome_map]
  unfold putK storedH
  rw [e]
  by_cases q:(atKey xs k).isSome=true
  · rw [if_pos q,if_pos q]; exact r.repl k ry
  · rw [if_neg q,if_neg q]; exact Paired.snoc r ⟨rfl,hb,ry⟩
theorem KT.keeps {H H':Hp}{kvs:List (List Key×V)}{xs:List (List Key×Addr×Value)}(r:KT H kvs xs)(ht:∀ b ys,H b=some (.tup ys)→H' b=some (.tup ys)):KT H' kvs xs :=
  Paired.mapP r fun _ _ z=>⟨z.1,ht _ _ z.2.1,z.2.2⟩
section
variable {P:Program}{w:World}{H:Hp}{h:Heap}{a:Addr}
theorem rd_of {u:HO}(ok:HOk P w H h)(e:Rd H a u):ObjOk P w H h a u:=e.ok ok
theorem dk_rd {kvs:List (Key×V)}(ok:HOk P w H h)(e:Rd H a (.dK kvs)):kvs.length≤sizeLine∧(a == sysModules)=false∧∃ vs,KV kvs vs∧h.DictOf (mixKind P w) a vs :=
  show ObjOk P w H h a (.dK kvs) from rd_of ok e
theorem dk_of {kvs:List (Key×V)}(ok:HOk P w H h)(e:H a=some (.dK kvs)):kvs.length≤sizeLine∧(a == sysModules)=false∧∃ vs,KV kvs vs∧h.DictOf (mixKind P w) a vs:=dk_rd ok (.inl e)
theorem key_of {ks:List Key}(ok:HOk P w H h)(e:H a=some (.tup (ks.map kV))):(tupleKind (mixKind P w)).is h ks a:=by
  obtain ⟨_,its,r,o,h1,h2,n,h3⟩:=(show ObjOk P w H h a (.tup (ks.map kV)) from ok a _ e)
  exact ⟨o,its.toArray,n,h1,h2,h3,by simpa using items_are r⟩
theorem dt_rd {kvs:List (List Key×V)}(ok:HOk P w H h)(e:Rd H a (.dT kvs)):kvs.length≤sizeLine∧(a == sysModules)=false ∧
    ∃ xs,KT H kvs xs∧h.DictOfH (tupleKind (mixKind P w)) a xs:=by
  obtain ⟨z,y,xs,r,o,es,ep,h1,h2,h3,h4,h5⟩:=(show ObjOk P w H h a (.dT kvs) from rd_of ok e)
  refine ⟨z,y,xs,r,o,es,ep,h1,h2,h3,h4,fun x hx=>?_,h5⟩
  have all:∀ {l:List (List Key×V)} {m:List (List Key×Addr×Value)},KT H l m→∀ x∈m,(tupleKind (mixKind P w)).is h x.1 x.2.1:=by
    intro l m q
    induction q with
    | nil=>intro x hx; exact nomatch hx
    | @cons p q ps qs hq t ih =>
      intro x hx
      rcases List.mem_cons.mp hx with e | hx
      · subst e
        exact key_of ok (by rw [← hq.1]; exact hq.2.1)
      · exact ih x hx
  exact all r x hx
theorem dt_of {kvs:List (List Key×V)}(ok:HOk P w H h)(e:H a=some (.dT kvs)):kvs.length≤sizeLine∧(a == sysModules)=false ∧
    ∃ xs,KT H kvs xs∧h.DictOfH (tupleKind (mixKind P w)) a xs:=dt_rd ok (.inl e)
end
def DGet (H:Hp)(a:Addr)(y:V)(r:Option V):Prop :=
  (∃ kvs k,Rd H a (.dK kvs)∧y=kV k∧r=valV kvs k)∨∃ kvs k b,Rd H a (.dT kvs)∧y=.ref b∧H b=some (.tup (k.map kV))∧r=valV kvs k
def DPut (H:Hp)(a:Addr)(y v:V)(H':Hp):Prop :=
  (∃ kvs k,H a=some (.dK kvs)∧y=kV k∧kvs.length<sizeLine∧H'=upd H a (.dK (putK kvs k v))) ∨
  ∃ kvs k b,H a=some (.dT kvs)∧y=.ref b∧H b=some (.tup (k.map kV))∧kvs.length<sizeLine∧H'=upd H a (.dT (putK kvs k v))
theorem DGet.k {H:Hp}{a:Addr}{kvs:List (Key×V)}{k:Key}(e:H a=some (.dK kvs)):DGet H a (kV k) (valV kvs k):=.inl ⟨kvs,k,.inl e,rfl,rfl⟩
theorem DGet.t {H:Hp}{a b:Addr}{kvs:List (List Key×V)}{k:List Key}(e:H a=some (.dT kvs))(eb:H b=some (.tup (k.map kV))):DGet H a (.ref b) (valV kvs k):=.inr ⟨kvs,k,b,.inl e,rfl,eb,rfl⟩
theorem DPut.k {H:Hp}{a:Addr}{kvs:List (Key×V)}{k:Key}{v:V}(e:H a=some (.dK kvs))(hl:kvs.length<sizeLine):DPut H a (kV k) v (upd H a (.dK (putK kvs k v))):=.inl ⟨kvs,k,e,rfl,hl,rfl⟩
theorem DPut.t {H:Hp}{a b:Addr}{kvs:List (List Key×V)}{k:List Key}{v:V}(e:H a=some (.dT kvs))(eb:H b=some (.tup (k.map kV)))(hl:kvs.length<sizeLine) :
    DPut H a (.ref b) v (upd H a (.dT (putK kvs k v))):=.inr ⟨kvs,k,b,e,rfl,eb,hl,rfl⟩
section
variable {X:Cx}{pins:List (Addr×Obj)}{σ:St}{H:Hp}{s:Shared}{a:Addr}{y v:V}{u r:Value}{o:Option V}{A:Around}{E:Value→Shared→Prop}
theorem Inv.big (I:Inv X pins σ H s):sysModules<s.heap.objs.size:=by
  have h:mainGlobals<s.heap.objs.size:=(I.mod.glob.keeps I.bk).lt
  exact Nat.lt_trans (by decide) h
theorem d_getItem {Q:Value→Shared→Prop}(hu:A.units+1<cLine)(I:Inv X pins σ H s)(g:DGet H a y (some v))(ry:RelV y u)(h:∀ w' s',Inv X pins σ H s'→RelV v w'→Q w' s') :
    wpAny (model X.prog X.w) A (getItem (.ref a) u) Q E s:=by
  rcases g with ⟨kvs,k,e,ey,l⟩ | ⟨kvs,k,b,e,ey,eb,l⟩
  · subst ey
    obtain ⟨z,hd,vs,rel,dd⟩:=dk_rd I.hok e
    obtain ⟨w',hw,rw'⟩:=RelO.some_of (v:=v) (o:=valueAt vs k) (by rw [l]; exact rel.val k)
    exact wpAny_getItem_of (kV_is ry) dd.mapOf hw (h w' _ (I.tok _) rw')
  · subst ey
    cases (show u=Value.ref b from ry)
    obtain ⟨z,hd,xs,rel,dd⟩:=dt_rd I.hok e
    obtain ⟨w',hw,rw'⟩:=RelO.some_of (v:=v) (o:=(atKey xs k).map (·.2)) (by rw [l]; exact rel.val k)
    obtain ⟨p,hp,hp2⟩:=Option.map_eq_some_iff.mp hw
    refine wpAny_getItem_heap (tupleKind_room_in1 hu) (key_of I.hok eb) dd hp ?_
    rw [hp2]
    exact h w' _ (I.tok _) rw'
theorem d_in {Q:Value→Shared→Prop}(hu:A.units+1<cLine)(I:Inv X pins σ H s)(g:DGet H a y o)(ry:RelV y u)(h:∀ s',Inv X pins σ H s'→Q (.bool o.isSome) s') :
    wpAny (model X.prog X.w) A (compareOp .In u (.ref a)) Q E s:=by
  rcases g with ⟨kvs,k,e,ey,l⟩ | ⟨kvs,k,b,e,ey,eb,l⟩
  · subst ey
    obtain ⟨z,hd,vs,rel,dd⟩:=dk_rd I.hok e
    refine wpAny_in_of (kV_is ry) hd dd.mapOf ?_
    rw [← (rel.val k).isSome_eq,← l]
    exact h _ (I.tok _)
  · subst ey
    cases (show u=Value.ref b from ry)
    obtain ⟨z,hd,xs,rel,dd⟩:=dt_rd I.hok e
    refine wpAny_in_heap (tupleKind_room_in1 hu) (key_of I.hok eb) hd dd ?_
    have q:=(rel.val k).isSome_eq
    rw [Option.isSome_map] at q
    rw [← q,← l]
    exact h _ (I.tok _)
theorem d_notIn {Q:Value→Shared→Prop}(hu:A.units+1<cLine)(I:Inv X pins σ H s)(g:DGet H a y o)(ry:RelV y u)(h:∀ s',Inv X pins σ H s'→Q (.bool (!o.isSome)) s') :
    wpAny (model X.prog X.w) A (compareOp .NotIn u (.ref a)) Q E s:=by
  rcases g with ⟨kvs,k,e,ey,l⟩ | ⟨kvs,k,b,e,ey,eb,l⟩
  · subst ey
    obtain ⟨z,hd,vs,rel,dd⟩:=dk_rd I.hok e
    refine wpAny_notIn_of (kV_is ry) hd dd.mapOf ?_
    rw [← (rel.val k).isSome_eq,← l]
    exact h _ (I.tok _)
  · subst ey
    cases (show u=Value.ref b from ry)
    obtain ⟨z,hd,xs,rel,dd⟩:=dt_rd I.hok e
    refine wpAny_notIn_heap (tupleKind_room_in1 hu) (key_of I.hok eb) hd dd ?_
    have q:=(rel.val k).isSome_eq
    rw [Option.isSome_map] at q
    rw [← q,← l]
    exact h _ (I.tok _)
theorem d_write {h':Heap}{t':Nat}{ob:HO}(I:Inv X pins σ H s)(mu:Mut (H a))(hs:Heap.SameBut a s.heap h')(he:∃ q,h'.get? a=some q)(new:ObjOk X.prog X.w (upd H a ob) h' a ob) :
    Inv X pins σ (upd H a ob) { s with heap:=h',toks:=t' } :=
  I.write (x:=a) (e:=a) mu (.inl rfl) (fun b q hb z=>(hs.2 b hb).trans z) he new
theorem dk_new {P:Program}{w:World}{H':Hp}{h':Heap}{kvs:List (Key×V)}{vs:List (Key×Value)}(z:kvs.length≤sizeLine)(hd:(a == sysModules)=false)(rel:KV kvs vs)(dd:h'.DictOf (mixKind P w) a vs) :
    ObjOk P w H' h' a (.dK kvs):=⟨z,hd,vs,rel,dd⟩
theorem d_setItem {H':Hp}{Q:Unit→Shared→Prop}(hu:A.units+1<cLine)(I:Inv X pins σ H s)(g:DPut H a y v H')(ry:RelV y u)(rv:RelV v r)(h:∀ s',Inv X pins σ H' s'→Q () s') :
    wpAny (model X.prog X.w) A (setItem (.ref a) u r) Q E s:=by
  rcases g with ⟨kvs,k,e,ey,l,eH⟩ | ⟨kvs,k,b,e,ey,eb,l,eH⟩
  · subst ey eH
    obtain ⟨z,hd,vs,rel,dd⟩:=dk_of I.hok e
    have hz:vs.length≤sizeLine:=by rw [← rel.length]; exact z
    have hl:(putK kvs k v).length≤sizeLine:=by have:=length_putK kvs k v; omega
    refine wpAny_setItem_pairs (hsz:=hz) (kV_is ry) dd fun h' dd' hs=>h _ ?_
    have he:∃ q,h'.get? a=some q:=let ⟨q,_,_,hq,_⟩:=dd'; ⟨q,hq⟩
    exact d_write I (by rw [e]; exact True.intro) hs he (dk_new hl hd (rel.put k rv) dd')
  · subst ey eH
    cases (show u=Value.ref b from ry)
    obtain ⟨z,hd,xs,rel,dd⟩:=dt_of I.hok e
    have hz:xs.length≤sizeLine:=by rw [← Paired.length rel]; exact z
    have hl:(putK kvs k v).length≤sizeLine:=by have:=length_putK kvs k v; omega
    refine wpAny_setItem_heap (hsz:=hz) (tupleKind_room_in1 hu) (key_of I.hok eb) dd fun h' dd' hs=>h _ ?_
    obtain ⟨q,es,ep,hq,h2,h3,h4,_,h5⟩:=dd'
    refine d_write I (by rw [e]; exact True.intro) hs ⟨q,hq⟩ ⟨hl,hd,_,(rel.put k eb rv).keeps fun c ys ec=>?_,q,es,ep,hq,h2,h3,h4,h5⟩
    rw [upd_ne (ne_of ec e (fun z=>nomatch z))]
    exact ec
end
section
variable {X:Cx}{pins:List (Addr×Obj)}{σ:St}{H:Hp}{s:Shared}{a:Addr}{kvs:List (Key×V)}{k:Key}{u:Value}{A:Around}{E:Value→Shared→Prop}
theorem d_len {Q:Value→Shared→Prop}(I:Inv X pins σ H s)(e:Rd H a (.dK kvs))(h:∀ t s',Inv X pins σ H s'→Q (.int kvs.length t) s'):wpAny (model X.prog X.w) A (call (.builtin "len") [.ref a]) Q E s:=by
  obtain ⟨z,hd,vs,rel,dd⟩:=dk_rd I.hok e
  refine call_len_dict hd dd (by rw [← rel.length]; rw [sizeLine_eq] at z; omega) ?_
  rw [← rel.length]
  exact h _ _ (I.tok _)
end
def NoSl (i:Expr):Prop:=∀ ov iv,subscripted i false ov iv=operate [ov,iv] (getItem ov iv)
theorem subD_of {prog:Program}{w:World}{A:Around}{E:Value→Shared→Prop}{s:Shared}{env:Env}{value slice:Expr}{pos:Pos}{T id:String}{Q:Value→Shared→Prop}
    (hl:typeLookup (.type T) "__getitem__"=pure (some (.builtin id))) (hs:NoSl slice)
    (h:wpAny (model prog w) A (eval value env) (fun o s₁=>wpAny (model prog w) A (eval slice env) (fun i s₂=>s₂.TypeIs o T∧wpAny (model prog w) A (getItem o i) Q E s₂) E s₁) E s) :
    wpAny (model prog w) A (eval (.Subscript value slice pos) env) Q E s:=by
  refine Subscript_ (wpAny_mono h (fun o s₁ h₁=>wpAny_mono h₁ (fun i s₂ h₂=>?_) fun _ _ x=>x) fun _ _ x=>x)
  obtain ⟨hT,h₂⟩:=h₂
  unfold subscriptTail
  refine wpAny_bind ?_
  rw [getitemInPython_of_ne hT.not_modules]
  refine wpAny_bind (wpAny_specialOf hT hl ?_)
  have fin:wpAny (model prog w) A (subscripted slice false o i) (fun r s₃=>wpAny (model prog w) A (letTemporaryGo value o r >>= fun _=>pure r) Q E s₃) E s₂:=by
    rw [hs o i]
    exact wpAny_operating (wpAny_mono h₂ (fun r s₃ h₃=>wpAny_bind (wpAny_letTemporaryGo (wpAny_pure h₃))) fun _ _ x=>x)
  first
    | exact wpAny_pure (wpAny_bind fin)
    | exact wpAny_bind (wpAny_pure (wpAny_bind fin))
    | exact wpAny_bind fin
theorem dict_typeIs {X:Cx}{pins:List (Addr×Obj)}{σ:St}{H:Hp}{s:Shared}{a:Addr}{y:V}{o:Option V}(I:Inv X pins σ H s)(g:DGet H a y o):s.TypeIs (.ref a) "dict":=by
  rcases g with ⟨kvs,k,e,_,_⟩ | ⟨kvs,k,b,e,_,_,_⟩
  · obtain ⟨_,_,vs,_,dd⟩:=dk_rd I.hok e
    exact dd.typeIs
  · obtain ⟨_,_,xs,_,dd⟩:=dt_rd I.hok e
    exact dd.typeIs
def tDGet (td ty:TE):TE:=fun σ H Q=>td σ H fun x H1=>ty σ H1 fun y H2=>∃ a v,x=.ref a∧DGet H2 a y (some v)∧Q v H2
def tDIn (ty td:TE):TE:=fun σ H Q=>ty σ H fun y H1=>td σ H1 fun x H2=>∃ a o,x=.ref a∧DGet H2 a y o∧Q (.bl o.isSome) H2
def tDNotIn (ty td:TE):TE:=fun σ H Q=>ty σ H fun y H1=>td σ H1 fun x H2=>∃ a o,x=.ref a∧DGet H2 a y o∧Q (.bl (!o.isSome)) H2
def sDPut (td ty tv:TE):TS:=fun D σ H=>tv σ H fun v H1=>td σ H1 fun x H2=>ty σ H2 fun y H3=>∃ a H4,x=.ref a∧DPut H3 a y v H4∧D.nx σ H4
section
variable {X:Cx}{o i e value:Expr}{pos pos' tpos:Pos}{td ty tv:TE}
theorem pe_dget (hu:X.A.units+1<cLine)(ho:PE X o td)(hi:PE X i ty)(hs:NoSl i):PE X (.Subscript o i pos) (tDGet td ty):=by
  intro pins s σ H Q I h
  refine subD_of PySem.F.slot_dict_getitem.lookup hs (thn (ho pins s σ H _ I h) fun u s1 ⟨x,H1,I1,rx,q1⟩=>thn (hi pins s1 σ H1 _ I1 q1) fun iv s2 ⟨y,H2,I2,ry,a,v,ex,g,q2⟩=>?_)
  subst ex
  obtain rfl:u=Value.ref a:=rx
  exact ⟨dict_typeIs I2 g,d_getItem hu I2 g ry fun w' s3 I3 rw'=>⟨v,H2,I3,rw',q2⟩⟩
theorem pc_din (hu:X.A.units+1<cLine)(hi:PE X i ty)(ho:PE X o td):PC X .In i o (tDIn ty td):=by
  intro pins s σ H Q I h
  refine thn (hi pins s σ H _ I h) fun iv s1 ⟨y,H1,I1,ry,q1⟩=>thn (ho pins s1 σ H1 _ I1 q1) fun u s2 ⟨x,H2,I2,rx,a,ov,ex,g,q2⟩=>?_
  subst ex
  obtain rfl:u=Value.ref a:=rx
  exact d_in hu I2 g ry fun s3 I3=>⟨.bl ov.isSome,H2,I3,rfl,q2⟩
theorem pc_dnotin (hu:X.A.units+1<cLine)(hi:PE X i ty)(ho:PE X o td):PC X .NotIn i o (tDNotIn ty td):=by
  intro pins s σ H Q I h
  refine thn (hi pins s σ H _ I h) fun iv s1 ⟨y,H1,I1,ry,q1⟩=>thn (ho pins s1 σ H1 _ I1 q1) fun u s2 ⟨x,H2,I2,rx,a,ov,ex,g,q2⟩=>?_
  subst ex
  obtain rfl:u=Value.ref a:=rx
  exact d_notIn hu I2 g ry fun s3 I3=>⟨.bl (!ov.isSome),H2,I3,rfl,q2⟩
theorem ps_dput (hu:X.A.units+1<cLine)(ho:PE X o td)(hi:PE X i ty)(hv:PE X value tv)(hs:swapsWith value (some (.Subscript o i pos')) pos.line X.env=pure false) :
    PS X (.Assign [.Subscript o i pos'] value pos) (sDPut td ty tv):=by
  intro pins s σ H D I h
  refine wpAny_Assign_Subscript (thn (hv pins s σ H _ I h) fun r s1 ⟨v,H1,I1,rv,q1⟩=>thn (ho pins s1 σ H1 _ I1 q1) fun u s2 ⟨x,H2,I2,rx,q2⟩=>thn (hi pins s2 σ H2 _ I2 q2) fun iv s3 ⟨y,H3,I3,ry,a,H4,ex,g,q3⟩=>?_) hs
  subst ex
  obtain rfl:u=Value.ref a:=rx
  exact d_setItem hu I3 g ry rv fun s4 I4=>⟨σ,H4,I4,q3⟩
end
theorem dk_empty {P:Program}{w:World}{H:Hp}(h:Heap)(hb:sysModules<h.objs.size):ObjOk P w H (h.push { cls:=.type "dict",data:=.dict #[] }) h.objs.size (.dK []) :=
  ⟨Nat.zero_le _,beq_eq_false_iff_ne.mpr (Ne.symm (Nat.ne_of_lt hb)),[],.nil,Heap.DictOf.new h⟩
def tDNewK:TE:=fun _ H Q=>∀ p,H p=none→Q (.ref p) (upd H p (.dK []))
section
variable {X:Cx}{pos:Pos}
theorem pe_dnewK:PE X (.Dict [] [] pos) tDNewK:=fun pins s σ H Q I h =>
  wpAny_Dict_empty ⟨.ref s.heap.objs.size,_,I.laid (a:=s.heap.objs.size) (o:=.dK []) (t':=s.toks) (fun _ _ q=>Heap.get?_push_of_some _ q) (Nat.le_refl _) (dk_empty s.heap I.big),rfl,h _ (I.hok.fresh (Nat.le_refl _))⟩
end
section
variable {X:Cx}{pins:List (Addr×Obj)}{σ:St}{H:Hp}{s:Shared}{a:Addr}{y d:V}{u r:Value}{o:Option V}{A:Around}{E:Value→Shared→Prop}
end
section
variable {X:Cx}{o e f:Expr}{apos cpos:Pos}{td ty tx:TE}
end
section
variable {X:Cx}{pins:List (Addr×Obj)}{σ:St}{H:Hp}{s:Shared}{a:Addr}{kvs:List (Key×V)}{A:Around}{E:Value→Shared→Prop}
end
section
variable {X:Cx}{pins:List (Addr×Obj)}{σ:St}{H:Hp}{s:Shared}{a:Addr}{y:V}{u:Value}{A:Around}{E:Value→Shared→Prop}
end
end L2
namespace L2
open PySem PySem.Spec PyProof.Rows
section
variable {X:Cx}
end
section
variable {κ:Type} [DecidableEq κ]
theorem nd_snoc:∀ {l:List κ} {k:κ},l.Nodup→¬ k∈l→(l++[k]).Nodup
  | [],k,_,_=>by simp
  | a::r,k,h,hk=>by
    obtain ⟨h1,h2⟩:=List.nodup_cons.mp h
    show (a::(r++[k])).Nodup
    refine List.nodup_cons.mpr ⟨fun m=>?_,nd_snoc h2 fun m=>hk (List.mem_cons.mpr (Or.inr m))⟩
    rcases List.mem_append.mp m with q | q
    · exact h1 q
    · exact hk (List.mem_cons.mpr (Or.inl (List.mem_singleton.mp q).symm))
end
end L2
namespace Sv
open PySem PySem.Spec PyProof.Rows L2
theorem paired_get {α β:Type}{F:α→β→Prop}{xs:List α}{ys:List β}(h:Paired F xs ys):∀ {i:Nat} {x:α},xs[i]?=some x→∃ y,ys[i]?=some y∧F x y:=by
 induction h with
 | nil=>intro i x e; cases e
 | cons h _ ih =>
  intro i x e
  cases i with
  | zero =>
   cases e
   exact ⟨_,rfl,h⟩
  | succ i=>exact ih e
theorem key_rel {k:Key}{u:Value}(h:keyIs k u=true):RelV (kV k) u:=by
 rcases keyIs_shape h with ⟨i,t,rfl,rfl⟩ | ⟨x,t,rfl,rfl⟩
 ·exact ⟨t,rfl⟩
 ·exact ⟨t,rfl⟩
theorem mix_rel {P:Program}{w:World}{k:Key}{u:Value}(h:(mixKind P w).is k u=true):RelV (kV k) u:=by
 rw [mixKind_is] at h
 exact key_rel h
def Itd (d:Addr)(o:Obj)(kvs:List (Key×V)):It :=
 ⟨fun i H=>H d=some (.frz o (.dK kvs))∧i<kvs.length,fun i H x H'=>H'=H∧∃ kv,kvs[i]?=some kv∧x=kV kv.1,fun i H=>H d=some (.frz o (.dK kvs))∧kvs.length≤i⟩
theorem frz_at {X:Cx}{pins:List (Addr×Obj)}{σ:L2.St}{H:Hp}{s:Shared}{d:Addr}{o:Obj}{kvs:List (Key×V)}{es:Array DictEntry}{ep:Nat}(I:Inv X pins σ H s)(h:H d=some (.frz o (.dK kvs)))(ho:o.data=.dict es ep) :
  ∃ vs,KV kvs vs∧kvs.length=vs.length∧s.heap.DictAt (mixKind X.prog X.w) d vs ep:=by
 obtain ⟨hg,_,_,vs,kv,o',es',ep',hg',ex,hd,ks,pr,nd⟩:=(show ObjOk X.prog X.w H s.heap d (.frz o (.dK kvs)) from I.hok d _ h)
 rw [hg] at hg'
 cases hg'
 rw [ho] at hd
 cases hd
 exact ⟨vs,kv,kv.length,o,es,hg,ex,ho,ks,pr,nd⟩
theorem turn_dict {P:Program}{w:World}{K:PySem.W.Frag}{tg:Expr}(d it:Addr)(o:Obj)(kvs:List (Key×V))(es:Array DictEntry)(ep:Nat)(ho:o.data=.dict es ep):Turn P w K tg (Itd d o kvs) [it] it (fun i h=>h.IsKeyIter it d i kvs.length ep) where
 mem:=by simp
 obj:=fun i h st b hb=>by
  have e:b=it:=by simpa using hb
  subst e
  obtain ⟨o,e,c,dd⟩:=st
  exact ⟨o,e,fun v z=>by rw [dd] at z; cases z⟩
 keep:=fun i h h' st k=>st.at fun o e=>k it (by simp) o e
 item:=by
  intro X hP hw hK hc i pins s σ H E I hf st hg
  subst hP hw hK
  obtain ⟨hd,lt⟩:=hg
  obtain ⟨vs,kv,len,da⟩:=frz_at I hd ho
  obtain ⟨⟨k,v⟩,hx⟩:∃ p,kvs[i]?=some p:=⟨kvs[i],List.getElem?_eq_getElem lt⟩
  obtain ⟨⟨k',u⟩,hx',e1,e2⟩:=paired_get kv hx
  obtain ⟨f0,f1,f2,f3,f4,f5⟩:=hf it (by simp)
  rw [len] at st
  refine wpAny_pyNext_dict_item st da hx' fun key h' hkey st' sb=>?_
  have I1:Inv X pins σ H { s with heap:=h' }:=I.turned (t':=s.toks) (fun b o hb e=>(sb.2 b hb).trans e) f0 f1 f3 f4 f5
  obtain ⟨oi,e,c,dd⟩:=id st'
  cases e1
  exact ⟨key,rfl,go_of (s:={ s with heap:=h' }) e c dd (by decide) ⟨kV k,H,I1,mix_rel hkey,⟨rfl,(k,v),hx,rfl⟩,by rw [len]; exact st',fun b hb=>(hf b hb).1⟩⟩
 done:=by
  intro X hP hw hK hc i pins s σ H E I hf st hg
  subst hP hw hK
  obtain ⟨hd,le⟩:=hg
  obtain ⟨vs,kv,len,da⟩:=frz_at I hd ho
  obtain ⟨f0,f1,f2,f3,f4,f5⟩:=hf it (by simp)
  rw [len] at st le
  exact wpAny_pyNext_dict_end (I.ok.hd hc) st da (List.getElem?_eq_none le) fun h' eb=>⟨rfl,I.turned (t':=s.toks) (fun b o hb e=>eb b o hb e) f0 f1 f3 f4 f5⟩
 self:=fun _ _ _ _ _ st h=>wpAny_pyIter_keyiter st h
section
variable {X:Cx}{tg:Expr}
theorem freeze {pins:List (Addr×Obj)}{σ:L2.St}{H:Hp}{s:Shared}{d:Addr}{o:Obj}{kvs:List (Key×V)}(I:Inv X pins σ H s)(h:H d=some (.dK kvs))(ho:s.heap.get? d=some o):Inv X pins σ (upd H d (.frz o (.dK kvs))) s :=
 Inv.write (t':=s.toks) (x:=d) (e:=d) I (by rw [h]; exact trivial) (.inl rfl) (fun _ _ _ q=>q) ⟨_,ho⟩ ⟨ho,(show ObjOk X.prog X.w H s.heap d (.dK kvs) from I.hok d _ h)⟩
def DicR (x:V)(H:Hp)(R:It→Hp→Prop):Prop:=∃ d kvs,x=.ref d∧((∃ o,H d=some (.frz o (.dK kvs))∧R (Itd d o kvs) H)∨(H d=some (.dK kvs)∧∀ o,R (Itd d o kvs) (upd H d (.frz o (.dK kvs)))))
def iDict (tl:TE):TI:=fun σ H R=>tl σ H fun x H1=>DicR x H1 R
theorem dic_ {tl:TE}{σ:L2.St}{H:Hp}{R:It→Hp→Prop}:iDict tl σ H R=tl σ H fun x H1=>DicR x H1 R:=rfl
theorem pi_dict {l:Expr}{tl:TE}(hl:PE X l tl):PI X tg l (iDict tl):=by
 intro pins s σ H R I h
 refine thn (hl pins s σ H _ I h) fun v s1 ⟨x,H1,I1,r1,d,kvs,ex,q⟩=>?_
 subst ex
 cases r1
 have main:∀ (o:Obj) (H2:Hp),Inv X pins σ H2 s1→H2 d=some (.frz o (.dK kvs))→R (Itd d o kvs) H2→wpAny (model X.prog X.w) X.A (pyIter (.ref d)) (PIE X pins σ tg R) X.xe s1:=fun o H2 I2 hf q=>by
  obtain ⟨hg,_,sy,vs,kv,o',es,ep,hg',ex,hd,ks,pr,nd⟩:=(show ObjOk X.prog X.w H2 s1.heap d (.frz o (.dK kvs)) from I2.hok d _ hf)
  rw [hg] at hg'
  cases hg'
  refine wpAny_pyIter_dict (ep:=ep) sy ⟨o,es,hg,ex,hd,ks,pr,nd⟩ ?_
  refine ⟨s1.heap.objs.size,[s1.heap.objs.size],_,_,H2,rfl,I2.kept (t':=s1.toks) fun b ob e=>Heap.get?_push_of_some _ e,turn_dict d _ o kvs es ep hd,⟨_,Heap.get?_push_size _ rfl,rfl,?_⟩,fun b hb=>?_,q⟩
  ·rw [kv.length]
   rfl
  ·have e:b=s1.heap.objs.size:=by simpa using hb
   subst e
   exact I2.fpOk (Nat.le_refl _) (I2.hok.fresh (Nat.le_refl _))
 rcases q with ⟨o,hf,q⟩ | ⟨hf,q⟩
 ·exact main o H1 I1 hf q
 ·obtain ⟨ob,ho⟩:=obj_there (I1.hok d _ hf)
  exact main ob _ (freeze I1 hf ho) upd_same (q ob)
end
theorem itd {d:Addr}{o:Obj}{kvs:List (Key×V)}:ItOf (Itd d o kvs) (kvs.map fun kv=>kV kv.1) (fun H=>H d=some (.frz o (.dK kvs))) where
 go:=fun i H ok l=>by
  rw [List.length_map] at l
  exact ⟨ok,l⟩
 yld:=fun i H x H' ok l y=>by
  obtain ⟨rfl,kv,e,rfl⟩:=y
  exact ⟨rfl,by rw [List.getElem?_map,e]; rfl⟩
 stop:=fun i H ok l=>by
  rw [List.length_map] at l
  exact ⟨ok,l⟩
end Sv
namespace Sv
open PySem PySem.Spec PyProof.Rows L2
theorem bo_sum:bootBuiltins "sum"=some (.builtin "sum"):=by decide +kernel
theorem bo_reversed:bootBuiltins "reversed"=some (.type "reversed"):=by decide +kernel
theorem CmpR.filt {cap:List Nat}{tc:TT}{te:TE}{J:It}{σ:L2.St}{H:Hp}{Q:VK}{xs:List V}{Ok:Hp→Prop}(p:V→Bool)(f:V→V)(it:ItOf J xs Ok)(hz:xs.length≤1000)(ok:∀ H',Same H H'→Ok H')
  (hc:∀ x H' (Q':Bool→Hp→Prop),x∈xs→Same H H'→(∀ H2,Same H' H2→Q' (p x) H2)→tc (some x::cap.map fun i=>σ.getD i none) H' Q')
  (hs:∀ x H' (Q':VK),x∈xs→p x=true→Same H H'→(∀ H2,Same H' H2→Q' (f x) H2)→te (some x::cap.map fun i=>σ.getD i none) H' Q')
  (hd:∀ D H',H D=none→Same H H'→H' D=some (.lst ((xs.filter p).map f))→Q (.ref D) H'):CmpR 1 cap (gName 0) tc te J σ H Q:=by
 intro D hD
 have keep:∀ {H':Hp} {o:HO},Same H H'→Same H (upd H' D o):=fun sm b o e=>by
  rw [upd_ne (ne_of_none e hD)]
  exact sm b o e
 have le:∀ i,(((xs.take i).filter p).map f).length≤i:=fun i=>by
  rw [List.length_map]
  exact Nat.le_trans (List.length_filter_le _ _) (by rw [List.length_take]; exact Nat.min_le_left _ _)
 refine ⟨fun i m σ' H'=>m=xs.length - i∧i≤xs.length∧∃ t,σ'=t::(cap.map fun i=>σ.getD i none)∧Same H H'∧H' D=some (.lst (((xs.take i).filter p).map f)),⟨_,rfl,Nat.zero_le _,none,rfl,keep (Same.refl _),upd_same⟩,fun i m σ' H' hw=>?_⟩
 obtain ⟨rfl,hi,t,rfl,sm,hl⟩:=hw
 by_cases lt:i<xs.length
 ·refine .inr ⟨it.go i _ (ok _ sm) lt,fun σ2 H2=>∃ t,σ2=t::(cap.map fun i=>σ.getD i none)∧Same H H2∧H2 D=some (.lst (((xs.take (i+1)).filter p).map f)),fun σ2 H2 n2=>⟨_,?_,rfl,lt,n2⟩,fun x H2 y=>?_⟩
  ·omega
  ·obtain ⟨rfl,hx⟩:=it.yld i _ x H2 (ok _ sm) lt y
   show tc (some x::(cap.map fun i=>σ.getD i none)) _ _
   refine hc x H2 _ (List.mem_of_getElem? hx) sm fun H3 s3=>?_
   have e1:(xs.take (i+1)).filter p=(xs.take i).filter p++if p x=true then [x] else []:=by
    rw [List.take_add_one,hx,List.filter_append,Option.toList_some]
    congr 1
    cases hp:p x <;> simp [List.filter,hp]
   cases hp:p x with
   | false =>
    rw [if_neg Bool.false_ne_true]
    refine ⟨_,rfl,sm.trans s3,?_⟩
    rw [e1,hp,if_neg Bool.false_ne_true,List.append_nil]
    exact s3 _ _ hl
   | true =>
    rw [if_pos rfl]
    show te (some x::(cap.map fun i=>σ.getD i none)) _ _
    refine hs x H3 _ (List.mem_of_getElem? hx) hp (sm.trans s3) fun H4 s4=>⟨_,s4 _ _ (s3 _ _ hl),?_,_,rfl,keep ((sm.trans s3).trans s4),?_⟩
    ·have:=le i
     exact small1000 (by omega)
    ·rw [upd_same,e1,hp,if_pos rfl,List.map_append]
     rfl
 ·obtain rfl:i=xs.length:=by omega
  refine .inl ⟨it.stop _ _ (ok _ sm) (Nat.le_refl _),?_⟩
  rw [List.take_length] at hl
  exact hd D H' hD sm hl
section
variable {X:Cx}{K:PySem.W.Frag}
theorem pe_fldK {e:Expr}{f:Str}{pos:Pos}{ta:TE}(hK:X.K=K)(he:PE X e ta)(hb:attributeBase e f X.env (eval e X.env)=eval e X.env):PE X (.Attribute e f pos) (tFld K ta f):=by
 subst hK
 exact pe_fld he hb
theorem call_isiCK (hK:X.K=K):CallR X (.builtin "isinstance") (rIsiC K):=by
 subst hK
 exact call_isiC
def InR (K:PySem.W.Frag)(neg:Bool):R2:=rIn K neg
theorem op_inL (hK:X.K=K):OpR X (compareOp .In) (InR K false):=by
 subst hK
 exact op_in_seq
theorem op_notinL (hK:X.K=K):OpR X (compareOp .NotIn) (InR K true):=by
 subst hK
 exact op_notIn_seq
theorem all_str (zs:List Str):(zs.map V.str).all flatV=true:=by
 rw [List.all_eq_true]
 intro x hx
 obtain ⟨z,_,rfl⟩:=List.mem_map.mp hx
 rfl
theorem inV_str (z:Str)(zs:List Str):inV (.str z) (zs.map V.str)=decide (z∈zs):=by
 induction zs with
 | nil=>rfl
 | cons y r ih =>
  have e:inV (.str z) ((y::r).map V.str)=(eqV (.str y) (.str z) || inV (.str z) (r.map V.str)):=rfl
  rw [e,ih]
  have e2:eqV (.str y) (.str z)=decide (y=z):=by
   first
   | rfl
   | (simp [eqV])
  rw [e2]
  by_cases h:y=z
  ·subst h
   simp
  ·have h':¬ z=y:=fun c=>h c.symm
   simp [h,h']
theorem inR_go {neg:Bool}{p:Addr}{z:Str}{zs:List Str}{H:Hp}{Q:VK}(h:SqL K H p (zs.map V.str))(q:Q (.bl (if neg then !decide (z∈zs) else decide (z∈zs))) H):InR K neg (.str z) (.ref p) H Q :=
 ⟨p,_,rfl,.inl h,rfl,all_str zs,by rw [inV_str]; exact q⟩
def SumR (K:PySem.W.Frag):List V→Hp→VK→Prop:=fun xs H Q=>∃ (p:Addr) (ns:List Int),xs=[.ref p]∧SqL K H p (ns.map V.int)∧Q (.int ns.sum) H
theorem ints_are:∀ {ns:List Int} {us:List Value},Vals (ns.map V.int) us→IntsAre us ns
 | [],_,r=>by
  cases r
  exact .nil
 | n::ns,_,r=>by
  cases r with
  | cons r1 r2 =>
   obtain ⟨t,rfl⟩:=r1
   exact .cons n t (ints_are r2)
theorem call_sumR (hc:X.calm=true)(hK:X.K=K):CallR X (.builtin "sum") (SumR K):=by
 subst hK
 intro pins s σ H xs us Q I r h
 obtain ⟨p,ns,rfl,hq,q⟩:=h
 obtain ⟨u,rfl,ru⟩:=r.one
 obtain rfl:u=Value.ref p:=ru
 obtain ⟨its,rv,pl,hz⟩:=I.list hq
 have ia:=ints_are rv
 have nm:=ia.numsOf
 obtain ⟨xs,ex⟩:=ia.allInts.items
 have pl':=pl.isList
 rw [ex] at pl'
 refine sum_intListG (I.ok.hd hc) pl' fun h' tk t' hk=>⟨.int ns.sum,H,I.kept (t':=tk) hk,?_,q⟩
 have e3:numsOf (intItems xs).toList=ns:=by
  rw [← ex]
  exact nm
 rw [nums_intItems] at e3
 refine ⟨t',?_⟩
 rw [preSum_eq,List.take_of_length_le (by simp),e3]
theorem sumR_go {p:Addr}{ns:List Int}{H:Hp}{Q:VK}(h:SqL K H p (ns.map V.int))(q:Q (.int ns.sum) H):SumR K [.ref p] H Q:=⟨p,ns,rfl,h,q⟩
theorem vals_of:∀ {xs:List V} {us:List Value},xs.length=us.length→(∀ (i:Nat) (x:V),xs[i]?=some x→∃ u,us[i]?=some u∧RelV x u)→Vals xs us
 | [],[],_,_=>.nil
 | [],_::_,e,_=>by cases e
 | _::_,[],e,_=>by cases e
 | x::xs,u::us,e,h=>by
  obtain ⟨u',e1,r⟩:=h 0 x rfl
  cases e1
  exact .cons r (vals_of (Nat.succ.inj e) fun i y z=>h (i+1) y z)
def LdR:List V→Hp→VK→Prop:=fun xs H Q=>∃ d kvs,xs=[.ref d]∧Rd H d (.dK kvs)∧∀ l,H l=none→Q (.ref l) (upd H l (.lst (kvs.map fun kv=>kV kv.1)))
theorem call_listD (hc:X.calm=true):CallR X (.type "list") LdR:=by
 intro pins s σ H xs us Q I r h
 obtain ⟨d,kvs,rfl,hr,q⟩:=h
 obtain ⟨u,rfl,ru⟩:=r.one
 obtain rfl:u=Value.ref d:=ru
 obtain ⟨hz,sy,vs,kv,o,es,ep,hg,ex,hd,ks,pr,nd⟩:=(show ObjOk X.prog X.w H s.heap d (.dK kvs) from hr.ok I.hok)
 refine PySem.W.kdl_call (PySem.W.kdl_dict (knd:=mixKind X.prog X.w) (kvs:=vs) (ep:=ep) sy) (I.ok.hd hc) ⟨o,es,hg,ex,hd,ks,pr,nd⟩ (by rw [← kv.length]; exact hz) fun h' tk acc' c' hk hS hacc=>?_
 have rel:Vals (kvs.map fun kv=>kV kv.1) acc'.toList:=by
  obtain ⟨l1,l2⟩:=hacc
  have len:kvs.length=acc'.toList.length:=(kv.length.trans l1.symm).trans Array.length_toList.symm
  refine vals_of (by rw [List.length_map]; exact len) fun i x e=>?_
  rw [List.getElem?_map] at e
  obtain ⟨⟨k,v⟩,e1,rfl⟩:=Option.map_eq_some_iff.mp e
  obtain ⟨⟨k',u⟩,e2,e3,e4⟩:=paired_get kv e1
  have lt:i<acc'.toList.length:=by
   rw [← len]
   obtain ⟨z,_⟩:=List.getElem?_eq_some_iff.mp e1
   exact z
  refine ⟨acc'.toList[i],List.getElem?_eq_getElem lt,?_⟩
  obtain ⟨k2,x2,e5,e6⟩:=l2 i (acc'.toList[i]) (by rw [← Array.getElem?_toList]; exact List.getElem?_eq_getElem lt)
  rw [e2] at e5
  cases e5
  cases e3
  exact mix_rel e6
 refine ⟨.ref s.heap.objs.size,_,I.laid (t':=tk) hk (Nat.le_refl _) (show ObjOk X.prog X.w _ h' _ (.lst (kvs.map fun kv=>kV kv.1)) from ⟨by rw [List.length_map]; exact hz,acc'.toList,c',rel,by rw [Array.toArray_toList]; exact hS⟩),rfl,q _ (I.hok.fresh (Nat.le_refl _))⟩
end
section
variable {td ty tv:TE}{σ:L2.St}{H:Hp}{Q:VK}{D:Ends}{x y v:V}{d:Addr}{z:Str}{ps:List (Str×V)}
def DGetR (x y:V)(H:Hp)(Q:VK):Prop:=∃ a v,x=.ref a∧DGet H a y (some v)∧Q v H
def DInR (neg:Bool)(x y:V)(H:Hp)(Q:VK):Prop:=∃ a o,x=.ref a∧DGet H a y o∧Q (.bl (if neg then !o.isSome else o.isSome)) H
def DPutR (x y v:V)(H:Hp)(Q:Hp→Prop):Prop:=∃ a H4,x=.ref a∧DPut H a y v H4∧Q H4
def DNewR (H:Hp)(Q:VK):Prop:=∀ p,H p=none→Q (.ref p) (upd H p (.dK []))
theorem dget_:tDGet td ty σ H Q=td σ H fun x H1=>ty σ H1 fun y H2=>DGetR x y H2 Q:=rfl
theorem din_:tDIn ty td σ H Q=ty σ H fun y H1=>td σ H1 fun x H2=>DInR false x y H2 Q:=rfl
theorem dnotin_:tDNotIn ty td σ H Q=ty σ H fun y H1=>td σ H1 fun x H2=>DInR true x y H2 Q:=rfl
theorem dput_:sDPut td ty tv D σ H=tv σ H fun v H1=>td σ H1 fun x H2=>ty σ H2 fun y H3=>DPutR x y v H3 (D.nx σ):=rfl
theorem dnew_:tDNewK σ H Q=DNewR H Q:=rfl
def Dk (ps:List (Str×V)):List (Key×V):=ps.map fun p=>(.inr p.1,p.2)
theorem valV_Dk (z:Str):∀ ps:List (Str×V),valV (Dk ps) (.inr z)=ps.lookup z
 | []=>rfl
 | (k,v)::r=>by
  have ih:=valV_Dk z r
  unfold valV Dk at ih ⊢
  rw [List.map_cons,List.find?_cons,List.lookup_cons]
  by_cases h:k=z
  ·subst h
   simp
  ·have h1:¬ ((Sum.inr k:Key)=Sum.inr z):=fun c=>h (Sum.inr.inj c)
   have h2:(z == k)=false:=beq_eq_false_iff_ne.mpr fun c=>h c.symm
   simp only [decide_eq_false h1,h2]
   exact ih
theorem Dk_keys (ps:List (Str×V)):((Dk ps).map fun kv=>kV kv.1)=(ps.map (·.1)).map V.str:=by
 unfold Dk
 rw [List.map_map,List.map_map]
 rfl
def DicS (H:Hp)(d:Addr)(ps:List (Str×V)):Prop:=Rd H d (.dK (Dk ps))
theorem DicS.get (h:DicS H d ps):DGet H d (.str z) (ps.lookup z):=.inl ⟨Dk ps,.inr z,h,rfl,(valV_Dk z ps).symm⟩
theorem dgetR_go (h:DicS H d ps)(e:ps.lookup z=some v)(q:Q v H):DGetR (.ref d) (.str z) H Q:=⟨d,v,rfl,e▸h.get,q⟩
theorem dinR_go {neg:Bool}(h:DicS H d ps)(q:Q (.bl (if neg then !(ps.lookup z).isSome else (ps.lookup z).isSome)) H):DInR neg (.ref d) (.str z) H Q:=⟨d,_,rfl,h.get,q⟩
theorem dputR_go {R:Hp→Prop}(h:H d=some (.dK (Dk ps)))(n:ps.lookup z=none)(l:ps.length<1000)(q:R (upd H d (.dK (Dk (ps++[(z,v)]))))):DPutR (.ref d) (.str z) v H R:=by
 have e:putK (Dk ps) (.inr z) v=Dk (ps++[(z,v)]):=by
  rw [putK_new v (by rw [valV_Dk]; exact n)]
  unfold Dk
  rw [List.map_append]
  rfl
 refine ⟨d,_,rfl,DPut.k (k:=.inr z) h ?_,?_⟩
 ·unfold Dk
  rw [List.length_map]
  exact small1000 (Nat.le_of_lt l)
 ·rw [e]
  exact q
theorem DicS.same {H':Hp}(h:DicS H d ps)(s:Same H H'):DicS H' d ps:=by
 rcases h with h | ⟨o,h⟩
 ·exact .inl (s _ _ h)
 ·exact .inr ⟨o,s _ _ h⟩
end
def LenDR:List V→Hp→VK→Prop:=fun xs H Q=>∃ d kvs,xs=[.ref d]∧Rd H d (.dK kvs)∧Q (.int kvs.length) H
theorem call_lenDR {X:Cx}:CallR X (.builtin "len") LenDR:=by
 intro pins s σ H xs us Q I r h
 obtain ⟨a,kvs,rfl,ha,q⟩:=h
 obtain ⟨u,rfl,ru⟩:=r.one
 obtain rfl:u=Value.ref a:=ru
 exact d_len I ha fun t s' I'=>⟨.int kvs.length,H,I',⟨t,rfl⟩,q⟩
theorem lenDR_go {H:Hp}{Q:VK}{d:Addr}{ps:List (Str×V)}(h:DicS H d ps)(q:Q (.int ps.length) H):LenDR [.ref d] H Q:=⟨d,Dk ps,rfl,h,by unfold Dk; rw [List.length_map]; exact q⟩
theorem CmpR.tups {K:PySem.W.Frag}{cap:List Nat}{te:TE}{J:It}{σ:L2.St}{H:Hp}{Q:VK}{xs:List V}{ps:List (V×V)}{Ok:Hp→Prop}(f:V×V→V)(it:ItOf J xs Ok)(tt:All2 (fun x (p:V×V)=>∃ t,x=.ref t∧H t=some (.tup [p.1,p.2])) xs ps)(hz:xs.length≤1000)(ok:∀ H',Same H H'→Ok H')
  (hs:∀ p H' (Q':VK),p∈ps→Same H H'→(∀ H2,Same H' H2→Q' (f p) H2)→te (some p.1::some p.2::cap.map fun i=>σ.getD i none) H' Q')
  (hd:∀ D H',H D=none→Same H H'→H' D=some (.lst (ps.map f))→Q (.ref D) H'):CmpR 2 cap (gTup K 2 (gCons (gName 0) (gCons (gName 1) gNil))) tYes te J σ H Q:=by
 intro D hD
 have keep:∀ {H':Hp} {o:HO},Same H H'→Same H (upd H' D o):=fun sm b o e=>by
  rw [upd_ne (ne_of_none e hD)]
  exact sm b o e
 refine ⟨fun i m σ' H'=>m=xs.length - i∧i≤xs.length∧∃ t u,σ'=t::u::(cap.map fun i=>σ.getD i none)∧Same H H'∧H' D=some (.lst ((ps.take i).map f)),⟨_,rfl,Nat.zero_le _,none,none,rfl,keep (Same.refl _),upd_same⟩,fun i m σ' H' hw=>?_⟩
 obtain ⟨rfl,hi,t,u,rfl,sm,hl⟩:=hw
 by_cases lt:i<xs.length
 ·refine .inr ⟨it.go i _ (ok _ sm) lt,fun σ2 H2=>∃ t u,σ2=t::u::(cap.map fun i=>σ.getD i none)∧Same H H2∧H2 D=some (.lst ((ps.take (i+1)).map f)),fun σ2 H2 n2=>⟨_,?_,rfl,lt,n2⟩,fun x H2 y=>?_⟩
  ·omega
  ·obtain ⟨rfl,hx⟩:=it.yld i _ x H2 (ok _ sm) lt y
   obtain ⟨p,hp,r,rfl,hr⟩:=tt.at hx
   refine gtup2 (SqT.of (sm _ _ hr)) ?_
   show te (some p.1::some p.2::(cap.map fun i=>σ.getD i none)) _ _
   refine hs p _ _ (List.mem_of_getElem? hp) sm fun H3 s3=>⟨_,s3 _ _ hl,?_,_,_,rfl,keep (sm.trans s3),?_⟩
   ·rw [List.length_map,List.length_take]
    exact small1000 (by omega)
   ·rw [upd_same,List.take_add_one,hp,List.map_append]
    rfl
 ·obtain rfl:i=xs.length:=by omega
  refine .inl ⟨it.stop _ _ (ok _ sm) (Nat.le_refl _),?_⟩
  rw [tt.len,List.take_length] at hl
  exact hd D H' hD sm hl
def textsD (zs:List Str):PyData:=.list (zs.map .str)
theorem texts_lay:∀ {zs:List Str},(∀ z∈zs,PyData.strOk z=true)→PyData.canLayAll0 (zs.map PyData.str)=true
 | [],_=>by simp [PyData.canLayAll0]
 | z::zs,h=>by
  rw [List.map_cons,PyData.canLayAll0.eq_2,texts_lay fun y hy=>h y (List.mem_cons_of_mem _ hy)]
  simp [PyData.canLay0,h z List.mem_cons_self]
theorem textsD_shaped {zs:List Str}(h:∀ z∈zs,PyData.strOk z=true):SeqAt.shaped (textsD zs)=true:=by
 have a:=texts_lay h
 have b:=depthAll_of PyData.str (n:=2) (fun z=>by simp [PyData.depth]) zs
 exact shaped_of (by simp [textsD,PyData.canLay0,a]) (by simp only [textsD,PyData.depth]; omega)
theorem texts_dts {H:Hp}:∀ zs:List Str,Dts H (zs.map V.str) (zs.map PyData.str)
 | []=>.nil
 | z::zs=>.cons (.str z) (texts_dts zs)
theorem eqNil_go {neg:Bool}{H:Hp}{Q:VK}{a b:Addr}{zs:List Str}(ha:H a=some (.lst (zs.map V.str)))(hb:H b=some (.lst []))(ok:∀ z∈zs,PyData.strOk z=true)(q:Q (.bl (if neg then !decide (zs=[]) else decide (zs=[]))) H):rEqD neg (.ref a) (.ref b) H Q:=by
 refine ⟨textsD zs,.list [],.lst (.inl ha) (texts_dts zs),.lst (.inl hb) .nil,textsD_shaped ok,by decide,?_⟩
 have e:PyData.eqv (textsD zs) (.list [])=decide (zs=[]):=by
  cases zs with
  | nil=>rfl
  | cons z r =>
   rw [decide_eq_false (by intro c; cases c)]
   simp [textsD,PyData.eqv,PyData.eqvAll]
 rw [e]
 exact q
end Sv
namespace Sv
open PySem PySem.Spec PyProof PyProof.Rows L2
def rSlS:V→Option Int→Option Int→Hp→VK→Prop:=fun x lo hi H Q=>∃ z:Str,x=.str z∧z.length≤sizeLine∧Q (.str (Txt.slice z lo hi)) H
theorem sl_str {X:Cx}:SlR X rSlS:=by
 intro pins s σ H x v vl vu lo hi sl Q I rx hs pl pu h
 obtain ⟨z,rfl,hz,q⟩:=h
 obtain ⟨t,rfl⟩:=rx
 refine ⟨"str",_,PySem.F.slot_str_getitem.lookup,typeIs_str _ _ _,?_⟩
 have key:∀ (l u:Option (Int×Tok)),vl=partValue l→vu=partValue u→lo=l.map (·.1)→hi=u.map (·.1)→wpAny (model X.prog X.w) X.A (getItem (.str z t) (.ref sl)) (EP X pins σ Q) X.xe s:=fun l u e1 e2 e3 e4=>by
  subst e1 e2 e3 e4
  obtain ⟨o,ho,hc,hd⟩:=hs
  exact wpAny_getItem_str_slice (l:=l) (u:=u) (st:=none) ⟨o,ho,hc,hd⟩ rfl (post_val_or_str ⟨Nat.le_trans (Txt.slice_le z _ _) hz,fun t' k=>⟨.str _,H,I.tok k,⟨t',rfl⟩,q⟩⟩)
 cases pl with
 | none =>
  cases pu with
  | none=>exact key none none rfl rfl rfl rfl
  | int j u=>exact key none (some (j,u)) rfl rfl rfl rfl
 | int i t1 =>
  cases pu with
  | none=>exact key (some (i,t1)) none rfl rfl rfl rfl
  | int j u=>exact key (some (i,t1)) (some (j,u)) rfl rfl rfl rfl
def cutS (z:Str)(lo hi:Nat):Str:=⟨((z.cps.toList.drop lo).take (hi - lo)).toArray⟩
theorem slice_core {z:Str}{l u:Option Int}{lo hi:Nat}(h:Builtin.Str.strSliceIndices l u 1 z.length=sliceRange (lo:Int) (hi:Int) 1)(h2:hi≤z.length):Txt.slice z l u=cutS z lo hi:=by
 unfold Txt.slice cutS
 rw [h,sliceRange_one,pick_run]
 split
 ·rename_i c
  rw [List.length_map,List.length_range] at c
  have e:hi - lo=z.length:=by simpa using c
  have zl:z.length=z.cps.toList.length:=by rw [Array.length_toList]; rfl
  have l0:lo=0∨z.length=0:=by omega
  rcases l0 with rfl | l0
  ·rw [List.drop_zero,e,zl,List.take_length]
  ·have:z.cps.toList=[]:=List.length_eq_zero_iff.mp (by omega)
   rw [this,List.drop_nil,List.take_nil]
   cases z with
   | mk a =>
    have this:a.toList=[]:=this
    rw [← this]
 ·rfl
theorem slice_to {z:Str}{k:Nat}(h:k≤z.length):Txt.slice z none (some (k:Int))=cutS z 0 k:=by
 refine slice_core ?_ h
 unfold Builtin.Str.strSliceIndices
 simp only [show (1:Int) > 0 by decide,if_true]
 congr 1
 split <;> omega
theorem slice_from {z:Str}{k:Nat}(h:k≤z.length):Txt.slice z (some (k:Int)) none=cutS z k z.length:=by
 refine slice_core ?_ (Nat.le_refl _)
 unfold Builtin.Str.strSliceIndices
 simp only [show (1:Int) > 0 by decide,if_true]
 congr 1
 split <;> omega
section
variable {H:Hp}{Q:VK}{z:Str}{k j:Nat}
theorem slS_to (h:k≤z.length)(hz:z.length≤1000)(q:Q (.str (cutS z 0 k)) H):rSlS (.str z) none (some (k:Int)) H Q:=⟨z,rfl,Nat.le_of_lt (small1000 hz),by rw [slice_to h]; exact q⟩
theorem slS_from (h:k≤z.length)(hz:z.length≤1000)(q:Q (.str (cutS z k z.length)) H):rSlS (.str z) (some (k:Int)) none H Q:=⟨z,rfl,Nat.le_of_lt (small1000 hz),by rw [slice_from h]; exact q⟩
end
theorem cutS_length {z:Str}{k j:Nat}(h:j≤z.length):(cutS z k j).length=j - k:=by
 have zl:z.length=z.cps.toList.length:=by rw [Array.length_toList]; rfl
 show ((z.cps.toList.drop k).take (j - k)).toArray.size=_
 rw [List.size_toArray,List.length_take,List.length_drop]
 omega
theorem cutS_ok {z:Str}{k j:Nat}(h:PyData.strOk z=true):PyData.strOk (cutS z k j)=true:=by
 unfold PyData.strOk cutS at *
 rw [Array.all_eq_true'] at h ⊢
 intro c hc
 refine h c ?_
 have:=List.mem_of_mem_drop (List.mem_of_mem_take (by simpa using hc))
 simpa using this
def Rng2R (vs:List V)(H:Hp)(R:It→Hp→Prop):Prop:=∃ i j:Int,vs=[.int i,.int j]∧(-(2 ^ 62)≤i∧i<2 ^ 62∧-(2 ^ 62)≤j∧j<2 ^ 62)∧R (Itr i (j - i).toNat) H
theorem rng2_ {ta:TA}{σ:L2.St}{H:Hp}{R:It→Hp→Prop}:iRng2 ta σ H R=ta σ H fun vs H1=>Rng2R vs H1 R:=rfl
theorem Rng2R.go {i j:Int}{H:Hp}{R:It→Hp→Prop}(h:-(2 ^ 62)≤i∧i<2 ^ 62∧-(2 ^ 62)≤j∧j<2 ^ 62)(q:R (Itr i (j - i).toNat) H):Rng2R [.int i,.int j] H R:=⟨i,j,rfl,h,q⟩
theorem slMid_go {K:PySem.W.Frag}{H:Hp}{Q:VK}{p:Addr}{xs:List V}{k j:Nat}(h:SqL K H p xs)(hk:k≤xs.length)(hj:j≤xs.length)(q:∀ l,H l=none→Q (.ref l) (upd H l (.lst ((xs.drop k).take (j - k))))):rSlL K (.ref p) (some (k:Int)) (some (j:Int)) H Q:=by
 refine ⟨p,xs,rfl,h,?_⟩
 have e:cutV xs (some (k:Int)) (some (j:Int))=(xs.drop k).take (j - k):=by
  unfold cutV
  rw [HT.sIx_nat,HT.sIx_nat,Nat.min_eq_left hk,Nat.min_eq_left hj]
 rw [e]
 exact q
def RngD (vs:List V)(H:Hp)(R:It→Hp→Prop):Prop:=∃ k:Nat,vs=[.int (k:Int),.int (-1),.int (-1)]∧k<1000000∧R (Its (k:Int) (-1) (k+1)) H
theorem RngD.go {k:Nat}{H:Hp}{R:It→Hp→Prop}(h:k<1000000)(q:R (Its (k:Int) (-1) (k+1)) H):RngD [.int (k:Int),.int (-1),.int (-1)] H R:=⟨k,rfl,h,q⟩
end Sv
namespace Sv
open PySem PySem.Spec PyProof.Rows L2
def Itzl (K:PySem.W.Frag)(a b:Addr):It :=
 ⟨fun i H=>∃ xs ys x y,SqL K H a xs∧SqL K H b ys∧xs[i]?=some x∧ys[i]?=some y,
  fun i H v H'=>∃ t x y,v=.ref t∧H t=none∧H'=upd H t (.tup [x,y])∧∀ xs ys,SqL K H a xs→SqL K H b ys→xs[i]?=some x∧ys[i]?=some y,
  fun i H=>∃ xs ys,SqL K H a xs∧SqL K H b ys∧(xs.length≤i∨ys.length≤i)⟩
section
variable {X:Cx}
end
section
variable {K:PySem.W.Frag}{H:Hp}{R:It→Hp→Prop}{a b:Addr}{xs ys:List V}
def ZipLR (K:PySem.W.Frag)(vs:List V)(H:Hp)(R:It→Hp→Prop):Prop:=∃ a b xs ys,vs=[.ref a,.ref b]∧SqL K H a xs∧SqL K H b ys∧R (Itzl K a b) H
theorem ZipLR.go (h1:SqL K H a xs)(h2:SqL K H b ys)(q:R (Itzl K a b) H):ZipLR K [.ref a,.ref b] H R:=⟨a,b,xs,ys,rfl,h1,h2,q⟩
end
end Sv
namespace Sv
open PySem PySem.Spec PyProof.Rows L2
section
variable {X:Cx}{k j:Nat}{C:Addr}{ps:List Str}{sp:Sp}{m:Str}{pos apos:Pos}{e o:Expr}{es:List Expr}{ta:TE}{t:TA}{pl:Sem Bool}
def MethT (Rr:RX)(C:Addr)(m:Str)(sp:Sp)(x:V)(t:TA)(σ:L2.St)(H:Hp)(Q:VK):Prop:=∃ (a dx:Addr) (fs:List (Str×V)),x=.ref a∧H a=some (.ins C dx fs)∧fs.lookup m=none∧t σ H fun vs H2=>sp (x::vs) H2 Q fun cls dd H'=>Rr cls dd σ H'
theorem MethT.go {Rr:RX}{σ:L2.St}{H:Hp}{Q:VK}{a dx:Addr}{fs:List (Str×V)}(h:H a=some (.ins C dx fs))(l:fs.lookup m=none)(q:t σ H fun vs H2=>sp (.ref a::vs) H2 Q fun cls dd H'=>Rr cls dd σ H'):MethT Rr C m sp (.ref a) t σ H Q:=⟨a,dx,fs,rfl,h,l,q⟩
end
section
variable {K:PySem.W.Frag}{ta tv:TE}{t:TA}{f:Str}{D:Ends}{σ:L2.St}{H:Hp}{Q:VK}{C:Addr}{sp:Sp}{E:XK}
theorem sfldX_:sFldX K ta tv f D σ H=tv σ H fun y H1=>ta σ H1 fun x H2=>SFldX K f y x H2 fun H'=>D.nx σ H':=rfl
theorem xinit_:tXInit K t σ H Q=t σ H fun xs H1=>XInit K xs H1 Q:=rfl
theorem fldE_:tFldE K ta f σ H Q=ta σ H fun x H1=>FldE K f x H1 Q:=rfl
def RaiseI (C:Addr)(sp:Sp)(E:XK)(vs:List V)(H1:Hp):Prop:=vs.length≤sizeLine∧∀ a,H1 a=none→sp (.ref a::vs) (upd H1 a (exN a C none)) (fun v H2=>v=.non∧∃ dd,H2 a=some (exN a C dd)∧(∀ d,dd=some d→d≠a∧∃ fs,H2 d=some (.xd fs))∧E (.ref C) dd (del H2 a)) E0
theorem raiseI_:tRaiseI C sp E t D σ H=t σ H fun vs H1=>RaiseI C sp E vs H1:=rfl
def FmtR (x:V)(H1:Hp)(Q:VK):Prop:=(∃ y,x=.str y∧y.length≤sizeLine∧Q (.str y) H1)∨∃ i:Int,x=.int i∧i.natAbs.log2<1920∧Q (.str (toString i)) H1
theorem fmt_:tFmt ta σ H Q=ta σ H fun x H1=>FmtR x H1 Q:=rfl
theorem FmtR.str {y:Str}(h:y.length≤1000)(q:Q (.str y) H):FmtR (.str y) H Q:=.inl ⟨y,rfl,Nat.le_of_lt (small1000 h),q⟩
structure XcI (P:Program)(w:World)(K:PySem.W.Frag)(mg:Str→Option Value)(base:Heap)(x:Str)(C:Addr)(k:Nat)(ps:List Str)(sp:Sp):Prop where
 ex:∃ (N fI:Addr) (fd:FuncData),ExcCI K mg x C N fI∧FnOk P w K mg base CX0 k fI fd ps sp∧Binds K fd ps []
end
end Sv
namespace Sv
open PySem PySem.Spec PyProof.Rows L2
section
variable {prog:Program}{w:World}{A:Around}{E:Value→Shared→Prop}{s:Shared}{r:Addr}
variable {it l S:Addr}{items:Array Value}
end
section
variable {X:Cx}{e a b:Expr}{t:TA}{p p2 pos pos2:Pos}
end
structure XDef (K:PySem.W.Frag)(mg:Str→Option Value)(x:Str)(C:Addr)(qual:Str)(st:Stmt):Prop where
 ex:∃ (N fI:Addr) (fd:FuncData),ExcCI K mg x C N fI∧Fun K "__init__" qual st fI fd
theorem mk_xdef {K:PySem.W.Frag}{h:Heap}{mg:Str→Option Value}{x qual:Str}{C N fI:Addr}{st:Stmt}{nm q:Str}{bs bm:List Value}{hdct:Bool}{sn:List Str}{sub:List Value}{ab:Bool}{col:Option Bool}{dd:Option Addr}{k0 k1 k2 k3 k5:Option Value}{kV dc pm cd ct:Value}{od an:Option Addr}{sl:Array (Option Value)}(X:K.In h)(G:h.Ns mainGlobals mg)
  (a:PySem.W.nsIn K mainGlobals x=some (some (.ref C))) (lk:K.lookup C=some (excClassObj nm q C N bs bm hdct sn sub ab col dd k0 k1 k2 k3 k5 "ValueError.__new__")) (tl:PySem.W.tailIn K bmVE bm=true) (ns:PySem.W.nsOkIn K N=true) (ini:PySem.W.nsIn K N "__init__"=some (some (.ref fI)))
  (l:K.lookup fI=some ⟨.type "function",od,.func (PySem.W.fnOf "__init__" qual (defArgs st) (defBody st) (defScope st) .none kV dc pm an cd ct),sl⟩) (c:PySem.W.codeIn K cd qual=true) (k:PySem.W.keepIn K (.ref fI)=true):XDef K mg x C qual st :=
 ⟨⟨N,fI,_,⟨PySem.W.mg_of X G a,⟨⟨_,_,_,_,_,_,_,_,_,_,_,_,_,_,_,lk,tl⟩⟩,ns,ini,_,l,rfl⟩,fun_mk l c k⟩⟩
theorem XDef.xci {P:Program}{w:World}{K:PySem.W.Frag}{mg:Str→Option Value}{base:Heap}{x qual:Str}{C:Addr}{st:Stmt}{k:Nat}{ps:List Str}{sp:Sp}(D:XDef K mg x C qual st)
  (b:∀ (kV doc pm:Value) (an:Option Addr) (cdv ct:Value) (us:List Value),us.length=ps.length→bindArgs (PySem.W.fnOf "__init__" qual (defArgs st) (defBody st) (defScope st) .none kV doc pm an cdv ct) ⟨us,[]⟩=pure (ps.zip us))
  (ok:∀ (N f:Addr) (fd:FuncData),ExcK K C N→Fun K "__init__" qual st f fd→FnOk P w K mg base CX0 k f fd ps sp):XcI P w K mg base x C k ps sp:=by
 obtain ⟨N,fI,fd,O,F⟩:=D.ex
 exact ⟨⟨N,fI,fd,O,ok N fI fd O.k F,F.binds b⟩⟩
theorem call_listRK {X:Cx}{K:PySem.W.Frag}(h:X.K=K):CallR X (.type "list") (LstOf K):=h▸call_listR
section
variable {t:TT}{ta tb:TE}{σ:L2.St}{H:Hp}{Q:VK}
end
theorem cut_midA {xs:List V}{k j:Nat}:cutV xs (some (k:Int)) (some (j:Int))=(xs.drop k).take (j - k):=by
 unfold cutV
 rw [HT.sIx_nat,HT.sIx_nat]
 by_cases h:k≤xs.length
 ·rw [Nat.min_eq_left h]
  by_cases g:j≤xs.length
  ·rw [Nat.min_eq_left g]
  ·rw [Nat.min_eq_right (by omega),List.take_of_length_le (by rw [List.length_drop]; omega),List.take_of_length_le (by rw [List.length_drop]; omega)]
 ·rw [Nat.min_eq_right (show xs.length≤k by omega),List.drop_of_length_le (Nat.le_refl _),List.drop_of_length_le (show xs.length≤k by omega),List.take_nil,List.take_nil]
theorem slMidA_go {K:PySem.W.Frag}{H:Hp}{Q:VK}{p:Addr}{xs:List V}{k j:Nat}(h:SqL K H p xs)(q:∀ l,H l=none→Q (.ref l) (upd H l (.lst ((xs.drop k).take (j - k))))):rSlL K (.ref p) (some (k:Int)) (some (j:Int)) H Q:=⟨p,xs,rfl,h,by rw [cut_midA]; exact q⟩
theorem cut_dropA {xs:List V}{k:Nat}:cutV xs (some (k:Int)) none=xs.drop k:=by
 by_cases h:k≤xs.length
 ·exact cut_drop h
 ·unfold cutV
  rw [HT.sIx_nat,HT.sIx_none,Nat.min_eq_right (show xs.length≤k by omega),List.drop_of_length_le (Nat.le_refl _),List.drop_of_length_le (show xs.length≤k by omega),List.take_nil]
theorem slDropA_go {K:PySem.W.Frag}{H:Hp}{Q:VK}{p:Addr}{xs:List V}{k:Nat}(h:SqL K H p xs)(q:∀ l,H l=none→Q (.ref l) (upd H l (.lst (xs.drop k)))):rSlL K (.ref p) (some (k:Int)) none H Q:=⟨p,xs,rfl,h,by rw [cut_dropA]; exact q⟩
theorem CmpR.relT {K:PySem.W.Frag}{cap:List Nat}{te:TE}{J:It}{σ:L2.St}{H:Hp}{Q:VK}{xs:List V}{ps:List (V×V)}{Ok:Hp→Prop}(R:Addr→Hp→V×V→V→Prop)(mono:∀ D H H' x v,(∀ b o,b≠D→H b=some o→H' b=some o)→R D H x v→R D H' x v)(it:ItOf J xs Ok)(tt:All2 (fun x (p:V×V)=>∃ t,x=.ref t∧H t=some (.tup [p.1,p.2])) xs ps)(hz:xs.length≤1000)(ok:∀ H',Same H H'→Ok H')
  (hs:∀ D p H' ys (Q':VK),p∈ps→H D=none→Same H H'→H' D=some (.lst ys)→(∀ v H2,Same H' H2→R D H2 p v→Q' v H2)→te (some p.1::some p.2::cap.map fun i=>σ.getD i none) H' Q')
  (hd:∀ D H' vs,H D=none→Same H H'→H' D=some (.lst vs)→All2 (R D H') ps vs→Q (.ref D) H'):CmpR 2 cap (gTup K 2 (gCons (gName 0) (gCons (gName 1) gNil))) tYes te J σ H Q:=by
 intro D hD
 have keep:∀ {H':Hp} {o:HO},Same H H'→Same H (upd H' D o):=fun sm b o e=>by
  rw [upd_ne (ne_of_none e hD)]
  exact sm b o e
 refine ⟨fun i m σ' H'=>m=xs.length - i∧i≤xs.length∧∃ t u vs,σ'=t::u::(cap.map fun i=>σ.getD i none)∧Same H H'∧H' D=some (.lst vs)∧All2 (R D H') (ps.take i) vs,⟨_,rfl,Nat.zero_le _,none,none,[],rfl,keep (Same.refl _),upd_same,.nil⟩,fun i m σ' H' hw=>?_⟩
 obtain ⟨rfl,hi,t,u,vs,rfl,sm,hl,al⟩:=hw
 by_cases lt:i<xs.length
 ·refine .inr ⟨it.go i _ (ok _ sm) lt,fun σ2 H2=>∃ t u vs,σ2=t::u::(cap.map fun i=>σ.getD i none)∧Same H H2∧H2 D=some (.lst vs)∧All2 (R D H2) (ps.take (i+1)) vs,fun σ2 H2 n2=>⟨_,?_,rfl,lt,n2⟩,fun x H2 y=>?_⟩
  ·omega
  ·obtain ⟨rfl,hx⟩:=it.yld i _ x H2 (ok _ sm) lt y
   obtain ⟨p,hp,r,rfl,hr⟩:=tt.at hx
   refine gtup2 (SqT.of (sm _ _ hr)) ?_
   show te (some p.1::some p.2::(cap.map fun i=>σ.getD i none)) _ _
   refine hs D p _ vs _ (List.mem_of_getElem? hp) hD sm hl fun v H3 s3 r=>⟨_,s3 _ _ hl,?_,_,_,vs++[v],rfl,keep (sm.trans s3),upd_same,?_⟩
   ·have:=al.len
    rw [List.length_take] at this
    exact small1000 (by omega)
   ·rw [List.take_add_one,hp,Option.toList_some]
    refine (All2.snoc (al.imp fun a b r=>mono D _ _ a b (fun c o ne e=>?_) r) (mono D H3 _ p v (fun c o ne e=>?_) r))
    ·rw [upd_ne ne]
     exact s3 _ _ e
    ·rw [upd_ne ne]
     exact e
 ·obtain rfl:i=xs.length:=by omega
  refine .inl ⟨it.stop _ _ (ok _ sm) (Nat.le_refl _),?_⟩
  rw [tt.len,List.take_length] at al
  exact hd D H' vs hD sm hl al
end Sv
namespace Sv
open PySem PySem.Spec PyProof.Rows L2
def rInsert:V→List V→Hp→VK→Prop:=fun x vs H Q=>∃ l xs k y,x=.ref l∧vs=[.int (k:Nat),y]∧H l=some (.lst xs)∧k≤xs.length∧xs.length≤1000∧Q .non (upd H l (.lst (xs.take k++y::xs.drop k)))
theorem Vals.take_ {xs:List V}{us:List Value}(h:Vals xs us)(k:Nat):Vals (xs.take k) (us.take k):=by
 induction h generalizing k with
 | nil=>rw [List.take_nil,List.take_nil]; exact .nil
 | cons r _ ih =>
  cases k with
  | zero=>exact .nil
  | succ k=>exact .cons r (ih k)
theorem Vals.drop_ {xs:List V}{us:List Value}(h:Vals xs us)(k:Nat):Vals (xs.drop k) (us.drop k):=by
 induction h generalizing k with
 | nil=>rw [List.drop_nil,List.drop_nil]; exact .nil
 | cons r t ih =>
  cases k with
  | zero=>exact .cons r t
  | succ k=>exact ih k
theorem insert_is {its:List Value}{k:Nat}{x:Int}{u:Value}(ex:x=(k:Int))(hk:k≤its.length):(fun xs:Array Value=>have j:=if x<0 then (x+(xs.size:Int)).toNat else min x.toNat xs.size; (xs.extract 0 j).push u++xs.extract j) its.toArray=(its.take k++u::its.drop k).toArray:=by
 have ej:(if x<0 then (x+(its.toArray.size:Int)).toNat else min x.toNat its.toArray.size)=k:=by
  rw [if_neg (by omega),ex,Int.toNat_natCast,List.size_toArray]
  omega
 show ((its.toArray.extract 0 (if x<0 then (x+(its.toArray.size:Int)).toNat else min x.toNat its.toArray.size)).push u++its.toArray.extract (if x<0 then (x+(its.toArray.size:Int)).toNat else min x.toNat its.toArray.size))=_
 rw [ej]
 apply Array.ext'
 simp
 rw [List.take_of_length_le]
 rw [List.length_drop]
 omega
theorem mt_insert {X:Cx}:MtM X "list.insert" rInsert:=by
 intro pins s σ H x vs v us Q I rx rv h
 obtain ⟨l,xs,k,y,rfl,rfl,hH,hk,hz,q⟩:=h
 cases rx
 obtain ⟨x,ex⟩:∃ x:Int,x=(k:Int):=⟨_,rfl⟩
 rw [← ex] at rv
 obtain ⟨u1,u2,rfl,⟨t,rfl⟩,ry⟩:=Vals.two rv
 obtain ⟨z,its,n,r,hl,e⟩:=I.lstM hH
 have fits:¬ (!Builtin.List.listFitsIndex x)=true:=by
  unfold Builtin.List.listFitsIndex
  simp
  omega
 have z':its.toArray.size≤sizeLine:=by
  rw [List.size_toArray,← hl]
  exact z
 have v1:Vals (xs.take k) (its.take k):=Vals.take_ r k
 have v2:Vals (y::xs.drop k) (u2::its.drop k):=.cons ry (Vals.drop_ r k)
 have M:=AutoSeq1.list_insert_list_int_val_1 l its.toArray n x t u2 fits z'
 refine call_meets F.slot_list_insert ⟨_,e,rfl⟩ F.entry_list_insert (F.args_list_insert_3 _ _ _) M ⟨e,?_⟩
 refine ⟨.non,_,I.lset (its':=its.take k++u2::its.drop k) hH e (insert_is ex (by omega)) (v1.append v2) ?_,rfl,q⟩
 rw [List.length_append,List.length_cons,List.length_take,List.length_drop]
 have:=small1000 hz
 omega
def rIndexS:V→List V→Hp→VK→Prop:=fun x vs H Q=>∃ (l:Addr) (zs:List Str) (c:Nat) (z:Str),x=.ref l∧vs=[.str z]∧H l=some (.lst (zs.map V.str))∧zs.Nodup∧zs[c]?=some z∧zs.length≤1000∧Q (.int (c:Int)) H
theorem all_flat (zs:List Str):(zs.map V.str).all flatV=true:=by
 rw [List.all_eq_true]
 intro x hx
 obtain ⟨z,_,rfl⟩:=List.mem_map.mp hx
 rfl
theorem mt_index {X:Cx}:MtM X "list.index" rIndexS:=by
 intro pins s σ H x vs v us Q I rx rv h
 obtain ⟨l,zs,c,z,rfl,rfl,hH,nd,ez,hz,q⟩:=h
 cases rx
 obtain ⟨u,rfl,ru⟩:=rv.one
 obtain ⟨zl,its,n,r,hl,e⟩:=I.lstM hH
 have hc:c<zs.length:=(List.getElem?_eq_some_iff.mp ez).1
 rw [List.length_map] at hl
 have at_:∀ (m:Nat) (hm:m<its.toArray.size),eqU (.str z) its.toArray[m]=decide (zs[m]?=some z):=fun m hm=>by
  have hm':m<its.length:=by simpa using hm
  obtain ⟨w,hw,rw'⟩:=r.get (i:=m) (x:=.str (zs[m]'(by omega))) (by rw [List.getElem?_map,List.getElem?_eq_getElem (by omega)]; rfl)
  have ew:its.toArray[m]=w:=by
   have:=List.getElem?_eq_some_iff.mp hw
   obtain ⟨_,e'⟩:=this
   simpa using e'
  rw [ew,eqU_of rw' rfl,List.getElem?_eq_getElem (by omega)]
  show (zs[m] == z)=_
  rw [Bool.eq_iff_iff,beq_iff_eq,decide_eq_true_eq]
  simp
 have hj:c<its.toArray.size:=by rw [List.size_toArray]; omega
 refine call_meets F.slot_list_index ⟨_,e,rfl⟩ F.entry_list_index (F.args_list_index_2 _ _) (SeqAt.list_indexAt l its.toArray n none #[] u (eqU (.str z)) c hj (by omega) (by rw [at_ c hj,decide_eq_true ez]) fun m hm lt=>?_) ⟨e,fun y hy=>mem_eqAt ru rfl r (all_flat zs) y (by simpa using hy),?_⟩
 ·rw [at_ m hm]
  refine decide_eq_false fun e2=>?_
  have:=(List.getElem?_inj hc nd).mp (ez.trans e2.symm)
  omega
 ·exact ⟨.int (c:Int),H,I.tok _,⟨_,rfl⟩,q⟩
theorem index_go {l:Addr}{zs:List Str}{c:Nat}{z:Str}{H:Hp}{Q:VK}(h:H l=some (.lst (zs.map V.str)))(nd:zs.Nodup)(e:zs[c]?=some z)(hz:zs.length≤1000)(q:Q (.int (c:Int)) H):rIndexS (.ref l) [.str z] H Q:=⟨l,zs,c,z,rfl,rfl,h,nd,e,hz,q⟩
end Sv
namespace Sv
open PySem PySem.Spec PyProof.Rows L2
def Itv (K:PySem.W.Frag)(a:Addr)(n:Nat):It :=
 ⟨fun i H=>∃ xs x,SqL K H a xs∧i<n∧xs[n - 1 - i]?=some x,fun i H x H'=>H'=H∧∀ xs,SqL K H a xs→xs[n - 1 - i]?=some x,fun i _=>n≤i⟩
theorem turn_rev {P:Program}{w:World}{K:PySem.W.Frag}{tg:Expr}(a it:Addr)(n:Nat):Turn P w K tg (Itv K a n) [it] it (fun i h=>i≤n∧h.IsRevIter it a ((n:Int) - 1 - (i:Int))) where
 mem:=by simp
 obj:=fun i h st b hb=>by
  have e:b=it:=by simpa using hb
  subst e
  obtain ⟨_,o,e,c,d⟩:=st
  exact ⟨o,e,fun v z=>by rw [d] at z; cases z⟩
 keep:=fun i h h' st k=>⟨st.1,st.2.at fun o e=>k it (by simp) o e⟩
 item:=by
  intro X hP hw hK hc i pins s σ H E I hf st hg
  subst hP hw hK
  obtain ⟨xs,x,hq,hi,hx⟩:=hg
  obtain ⟨its,rv,p,hz⟩:=I.list hq
  obtain ⟨u,hu,ru⟩:=rv.get hx
  obtain ⟨f0,f1,f2,f3,f4,f5⟩:=hf it (by simp)
  have st1:s.heap.IsRevIter it a ((n - 1 - i:Nat):Int):=by
   rw [show ((n - 1 - i:Nat):Int)=(n:Int) - 1 - (i:Int) by omega]
   exact st.2
  refine wpAny_pyNext_rev_item st1 p.isList (x:=u) (by simpa using hu) fun h' st' sb=>?_
  have I1:Inv X pins σ H { s with heap:=h' }:=I.turned (t':=s.toks) (fun b o hb e=>(sb.2 b hb).trans e) f0 f1 f3 f4 f5
  have st3:i+1≤n∧h'.IsRevIter it a ((n:Int) - 1 - ((i+1:Nat):Int)):=⟨hi,by
   rw [show (n:Int) - 1 - ((i+1:Nat):Int)=((n - 1 - i:Nat):Int) - 1 by omega]
   exact st'⟩
  obtain ⟨o,e,c,d⟩:=id st'
  exact ⟨u,rfl,go_of (s:={ s with heap:=h' }) e c d (by decide) ⟨x,H,I1,ru,⟨rfl,fun ys hy=>by rw [I.list_inj hy hq]; exact hx⟩,st3,fun b hb=>(hf b hb).1⟩⟩
 done:=by
  intro X hP hw hK hc i pins s σ H E I hf st hg
  subst hP hw hK
  have e:i=n:=Nat.le_antisymm st.1 hg
  obtain ⟨f0,f1,f2,f3,f4,f5⟩:=hf it (by simp)
  have st1:s.heap.IsRevIter it a (-1):=by
   rw [show (-1:Int)=(n:Int) - 1 - (i:Int) by omega]
   exact st.2
  exact wpAny_pyNext_rev_end (I.ok.hd hc) st1 fun h' eb=>⟨rfl,I.turned (t':=s.toks) (fun b o hb e=>eb b o hb e) f0 f1 f3 f4 f5⟩
 self:=fun _ _ _ _ _ st h=>wpAny_pyIter_revIter st.2 h
def RevR (K:PySem.W.Frag)(vs:List V)(H:Hp)(R:It→Hp→Prop):Prop:=∃ a xs,vs=[.ref a]∧SqL K H a xs∧R (Itv K a xs.length) H
def iRev (K:PySem.W.Frag)(ta:TA):TI:=fun σ H R=>ta σ H fun vs H1=>RevR K vs H1 R
section
variable {X:Cx}
theorem pi_rev {tg a:Expr}{ta:TA}{p pos:Pos}(hg:Gl X "reversed")(hm:X.mg "reversed"=none)(ha:PA X [a] ta)(hs:starEach [a] X.env=[(false,eval a X.env)]:=by rfl) :
  PI X tg (.Call (.Name "reversed" p) [a] [] pos) (iRev X.K ta):=by
 intro pins s σ H R I h
 refine Call_ (ld_blt I hg hm bo_reversed (PyProof.Rows.callWith_type1 (thn (ha pos pins s σ H _ I h) fun us s1 ⟨vs,H1,I1,r1,q1⟩=>?_) hs rfl))
 obtain ⟨p1,xs,e,h1,q⟩:=q1
 subst e
 obtain ⟨its,rv,t1,hz⟩:=I1.list h1
 cases r1 with
 | cons r rr =>
  cases rr
  cases r
  have hl:=rv.length
  refine call_reversed_list t1.isList ?_
  refine wpAny_pyIter_revIter (it:=s1.heap.objs.size) (l:=p1) (i:=(its.toArray.size:Int) - 1) ⟨_,Heap.get?_push_size _ rfl,rfl,rfl⟩ ?_
  refine ⟨s1.heap.objs.size,[s1.heap.objs.size],_,_,H1,rfl,I1.kept (t':=s1.toks) fun b o e=>Heap.get?_push_of_some _ e,turn_rev p1 _ xs.length,⟨Nat.zero_le _,_,Heap.get?_push_size _ rfl,rfl,?_⟩,fun b hb=>?_,q⟩
  ·show Data.fields #[.ref p1,rawInt ((its.toArray.size:Int) - 1)]=Data.fields #[.ref p1,rawInt ((xs.length:Int) - 1 - ((0:Nat):Int))]
   rw [show (its.toArray.size:Int) - 1=(xs.length:Int) - 1 - ((0:Nat):Int) by rw [List.size_toArray]; omega]
  ·have e:b=s1.heap.objs.size:=by simpa using hb
   subst e
   exact I1.fpOk (Nat.le_refl _) (I1.hok.fresh (Nat.le_refl _))
end
section
variable {K:PySem.W.Frag}{H:Hp}{R:It→Hp→Prop}{a:Addr}{xs:List V}
theorem rev_ {ta:TA}{σ:L2.St}:iRev K ta σ H R=ta σ H fun vs H1=>RevR K vs H1 R:=rfl
theorem RevR.go (h:SqL K H a xs)(q:R (Itv K a xs.length) H):RevR K [.ref a] H R:=⟨a,xs,rfl,h,q⟩
theorem itv:ItOf (Itv K a xs.length) xs.reverse (fun H=>SqL K H a xs) where
 go:=fun i H h l=>by
  rw [List.length_reverse] at l
  exact ⟨xs,xs[xs.length - 1 - i],h,l,List.getElem?_eq_getElem _⟩
 yld:=fun i H x H' h l y=>by
  rw [List.length_reverse] at l
  refine ⟨y.1,?_⟩
  rw [List.getElem?_reverse l]
  exact y.2 xs h
 stop:=fun i H h l=>by
  rw [List.length_reverse] at l
  exact l
end
end Sv
namespace Sv
open PySem PySem.Spec PyProof.Rows L2
def LabN (ns:List Int):Prop:=ns.length≤8∧∀ n∈ns,0≤n∧n<10 ^ 10
def RepA (Q:VK)(x:V)(H:Hp):Prop:=∃ a ns,x=.ref a∧H a=some (.tup (ns.map V.int))∧LabN ns∧∀ z:Str,z.length≤200→Q (.str z) H
theorem RepA.go {Q:VK}{a:Addr}{ns:List Int}{H:Hp}(h:H a=some (.tup (ns.map V.int)))(l:LabN ns)(q:∀ z:Str,z.length≤200→Q (.str z) H):RepA Q (.ref a) H:=⟨a,ns,rfl,h,l,q⟩
def rIsiN (K:PySem.W.Frag):List V→Hp→VK→Prop:=fun xs H Q=>rIsiE K xs H Q∨rIsiC K xs H Q
theorem call_isiN {X:Cx}:CallR X (.builtin "isinstance") (rIsiN X.K):=fun pins s σ H xs us Q I r h=>h.elim (fun h=>call_isiE pins s σ H xs us Q I r h) fun h=>call_isiC pins s σ H xs us Q I r h
theorem isiN_non {K:PySem.W.Frag}{C:Addr}{H:Hp}{Q:VK}(f:PySem.W.kitOne K (.type "NoneType") (.ref C)=some false)(q:Q (.bl false) H):rIsiN K [.non,.ref C] H Q:=.inr ⟨.non,C,_,false,rfl,.non,f,q⟩
end Sv
namespace Sv
open PySem PySem.Spec PyProof.Rows L2
end Sv
local macro_rules | `(tactic| walk_at "sv")=>`(tactic| try simp only [List.map_cons,List.map_nil,List.getD_cons_zero,List.getD_cons_succ,Sv.seq_,Sv.dget_,Sv.din_,Sv.dnotin_,Sv.dput_,Sv.dnew_,Sv.dic_,Sv.rng2_,Sv.raiseI_,Sv.sfldX_,Sv.xinit_,Sv.fldE_,Sv.fmt_,Sv.rev_,Sv.comp_,Sv.setComp_,Sv.yes_,Sv.gsub_,Sv.vals_,Sv.jn0_,Sv.jnC_,Sv.asnx_,Sv.asrt_,Sv.next_,Sv.ret_,Sv.drop_,Sv.ifS_,Sv.asg_,Sv.gname_,Sv.var_,Sv.ex_,Sv.exb_,Sv.c_,Sv.op_,Sv.test_,Sv.tB_,Sv.and_,Sv.or_,Sv.not_,Sv.andV_,Sv.notV_,Sv.rI0_,Sv.ilist_,Sv.cxK2,Sv.rI_,Sv.rEqI_,Sv.rEqS_,Sv.nil_,Sv.cons_,Sv.tup_,Sv.lst_,Sv.call_,Sv.cb_,Sv.for_,Sv.rng1_,Sv.enum_,Sv.fld_,Sv.sfld_,Sv.make_,Sv.methA_,Sv.rEqB_,Sv.slice_,Sv.part_,Sv.nopart_,Sv.max_,Sv.bm_,Sv.tyInt_,Sv.tyStr_,Sv.cxK,Sv.brS_t,Sv.brS_f,Sv.brA_t,Sv.brA_f,Sv.brO_t,Sv.brO_f,Sv.brAV_t,Sv.brAV_f,Bool.not_true,Bool.not_false,true_and,eq_self,decide_true,decide_false,if_true,if_false,Bool.false_eq_true, List.getElem?_cons_zero,List.getElem?_cons_succ,List.set_cons_zero,List.set_cons_succ])
local macro_rules | `(tactic| walk_at "svn")=>`(tactic| try simp only [List.map_cons,List.map_nil,List.getD_cons_zero,List.getD_cons_succ,Sv.seq_,Sv.dget_,Sv.din_,Sv.dnotin_,Sv.dput_,Sv.dnew_,Sv.dic_,Sv.rng2_,Sv.raiseI_,Sv.sfldX_,Sv.xinit_,Sv.fldE_,Sv.fmt_,Sv.rev_,Sv.comp_,Sv.setComp_,Sv.yes_,Sv.gsub_,Sv.vals_,Sv.jn0_,Sv.jnC_,Sv.asnx_,Sv.asrt_,Sv.next_,Sv.ret_,Sv.drop_,Sv.ifS_,Sv.asg_,Sv.gname_,Sv.var_,Sv.ex_,Sv.exb_,Sv.c_,Sv.op_,Sv.test_,Sv.tB_,Sv.and_,Sv.or_,Sv.not_,Sv.andV_,Sv.notV_,Sv.rI0_,Sv.ilist_,Sv.cxK2,Int.reduceEq,Sv.rI_,Sv.rEqI_,Sv.rEqS_,Sv.nil_,Sv.cons_,Sv.tup_,Sv.lst_,Sv.call_,Sv.cb_,Sv.for_,Sv.rng1_,Sv.enum_,Sv.fld_,Sv.sfld_,Sv.make_,Sv.methA_,Sv.rEqB_,Sv.slice_,Sv.part_,Sv.nopart_,Sv.max_,Sv.bm_,Sv.tyInt_,Sv.tyStr_,Sv.cxK,Sv.brS_t,Sv.brS_f,Sv.brA_t,Sv.brA_f,Sv.brO_t,Sv.brO_f,Sv.brAV_t,Sv.brAV_f,Bool.not_true,Bool.not_false,true_and,eq_self,decide_true,decide_false,if_true,if_false,Bool.false_eq_true, List.getElem?_cons_zero,List.getElem?_cons_succ,List.set_cons_zero,List.set_cons_succ])
local macro_rules | `(tactic| walk_at "ix")=>`(tactic| repeat (first | refine Sv.ixT_go (i:=0) (L2.SqT.of (by assumption)) rfl ?_ | refine Sv.ixT_go (i:=1) (L2.SqT.of (by assumption)) rfl ?_ | simp only [Int.zero_add,List.map_cons,List.map_nil,List.getD_cons_zero,List.getD_cons_succ,Sv.seq_,Sv.dget_,Sv.din_,Sv.dnotin_,Sv.dput_,Sv.dnew_,Sv.dic_,Sv.rng2_,Sv.raiseI_,Sv.sfldX_,Sv.xinit_,Sv.fldE_,Sv.fmt_,Sv.rev_,Sv.comp_,Sv.setComp_,Sv.yes_,Sv.gsub_,Sv.vals_,Sv.jn0_,Sv.jnC_,Sv.asnx_,Sv.asrt_,Sv.next_,Sv.ret_,Sv.drop_,Sv.ifS_,Sv.asg_,Sv.gname_,Sv.var_,Sv.ex_,Sv.exb_,Sv.c_,Sv.op_,Sv.test_,Sv.tB_,Sv.and_,Sv.or_,Sv.not_,Sv.andV_,Sv.notV_,Sv.rI0_,Sv.ilist_,Sv.cxK2,Sv.rI_,Sv.rEqI_,Sv.rEqS_,Sv.nil_,Sv.cons_,Sv.tup_,Sv.lst_,Sv.call_,Sv.cb_,Sv.for_,Sv.rng1_,Sv.enum_,Sv.fld_,Sv.sfld_,Sv.make_,Sv.methA_,Sv.rEqB_,Sv.slice_,Sv.part_,Sv.nopart_,Sv.max_,Sv.bm_,Sv.tyInt_,Sv.tyStr_,Sv.cxK,Sv.brS_t,Sv.brS_f,Sv.brA_t,Sv.brA_f,Sv.brO_t,Sv.brO_f,Sv.brAV_t,Sv.brAV_f,Bool.not_true,Bool.not_false,true_and,eq_self,decide_true,decide_false,if_true,if_false,Bool.false_eq_true, List.getElem?_cons_zero,List.getElem?_cons_succ,List.set_cons_zero,List.set_cons_succ]))
namespace K18
open PySem PySem.Spec PyProof.Rows L2 Sv
section
variable {P:Program}{w:World}{K:PySem.W.Frag}{mg:Str→Option Value}{base:Heap}{f:Addr}{fd:FuncData}
def top (i:Nat):Stmt:=PySem.Challenge.pw_sieve_k18_books_refused.main.body.getD i (.Pass ⟨0,0,0,0⟩)
abbrev s__wall:Stmt:=top 0
abbrev s_NoRow___init__:Stmt:=inClass (top 3) 0
abbrev s_TwoChains___init__:Stmt:=inClass (top 4) 0
theorem st_TwoChains___init__ {v0 v1:V}:start ["self","name"] [v0,v1]=[some v0,some v1]:=rfl
theorem sc_TwoChains___init__:FnScope ["self","name"] ["self","name"] (defScope s_TwoChains___init__):=⟨rfl,rfl,rfl,by decide +kernel,rfl,by decide +kernel,by decide +kernel⟩
abbrev s_NoChain___init__:Stmt:=inClass (top 5) 0
theorem st_NoChain___init__ {v0 v1:V}:start ["self","name"] [v0,v1]=[some v0,some v1]:=rfl
theorem sc_NoChain___init__:FnScope ["self","name"] ["self","name"] (defScope s_NoChain___init__):=⟨rfl,rfl,rfl,by decide +kernel,rfl,by decide +kernel,by decide +kernel⟩
abbrev s_Ring___init__:Stmt:=inClass (top 6) 0
theorem st_Ring___init__ {v0 v1:V}:start ["self","names","ring"] [v0,v1]=[some v0,some v1,none]:=rfl
theorem sc_Ring___init__:FnScope ["self","names","ring"] ["self","names"] (defScope s_Ring___init__):=⟨rfl,rfl,rfl,by decide +kernel,rfl,by decide +kernel,by decide +kernel⟩
abbrev s_TooLong___init__:Stmt:=inClass (top 7) 0
theorem st_TooLong___init__ {v0 v1:V}:start ["self","total"] [v0,v1]=[some v0,some v1]:=rfl
theorem sc_TooLong___init__:FnScope ["self","total"] ["self","total"] (defScope s_TooLong___init__):=⟨rfl,rfl,rfl,by decide +kernel,rfl,by decide +kernel,by decide +kernel⟩
abbrev s_NoName___init__:Stmt:=inClass (top 9) 0
abbrev s_Rule___init__:Stmt:=inClass (top 11) 0
theorem st_Rule___init__ {v0 v1:V}:start ["self","box"] [v0,v1]=[some v0,some v1]:=rfl
theorem sc_Rule___init__:FnScope ["self","box"] ["self","box"] (defScope s_Rule___init__):=⟨rfl,rfl,rfl,by decide +kernel,rfl,by decide +kernel,by decide +kernel⟩
abbrev s_Rule_fits:Stmt:=inClass (top 11) 1
abbrev s_Word___init__:Stmt:=inClass (top 12) 0
theorem st_Word___init__ {v0 v1 v2:V}:start ["self","box","word"] [v0,v1,v2]=[some v0,some v1,some v2]:=rfl
theorem sc_Word___init__:FnScope ["self","box","word"] ["self","box","word"] (defScope s_Word___init__):=⟨rfl,rfl,rfl,by decide +kernel,rfl,by decide +kernel,by decide +kernel⟩
abbrev s_Word_told:Stmt:=inClass (top 12) 1
theorem sc_Word_told:FnScope ["self"] ["self"] (defScope s_Word_told):=⟨rfl,rfl,rfl,by decide +kernel,rfl,by decide +kernel,by decide +kernel⟩
abbrev s_Word_head:Stmt:=inClass (top 12) 2
abbrev s_Back_told:Stmt:=inClass (top 13) 0
abbrev s_Back_head:Stmt:=inClass (top 13) 1
abbrev s_Call___init__:Stmt:=inClass (top 14) 0
theorem st_Call___init__ {v0 v1 v2:V}:start ["self","box","name"] [v0,v1,v2]=[some v0,some v1,some v2]:=rfl
theorem sc_Call___init__:FnScope ["self","box","name"] ["self","box","name"] (defScope s_Call___init__):=⟨rfl,rfl,rfl,by decide +kernel,rfl,by decide +kernel,by decide +kernel⟩
abbrev s_Call_told:Stmt:=inClass (top 14) 1
abbrev s_Call_head:Stmt:=inClass (top 14) 2
abbrev s_rule_of:Stmt:=top 15
theorem st_rule_of {v0:V}:start ["told"] [v0]=[some v0]:=rfl
theorem sc_rule_of:FnScope ["told"] ["told"] (defScope s_rule_of):=⟨rfl,rfl,rfl,by decide +kernel,rfl,by decide +kernel,by decide +kernel⟩
abbrev s_called_names:Stmt:=top 19
theorem st_called_names {v0:V}:start ["rules"] [v0]=[some v0]:=rfl
theorem sc_called_names:FnScope ["rules"] ["rules"] (defScope s_called_names):=⟨rfl,rfl,rfl,by decide +kernel,rfl,by decide +kernel,by decide +kernel⟩
abbrev s_refuse_two_chains:Stmt:=top 20
theorem st_refuse_two_chains {v0:V}:start ["names","place","name"] [v0]=[some v0,none,none]:=rfl
theorem sc_refuse_two_chains:FnScope ["names","place","name"] ["names"] (defScope s_refuse_two_chains):=⟨rfl,rfl,rfl,by decide +kernel,rfl,by decide +kernel,by decide +kernel⟩
abbrev s_refuse_missing_chains:Stmt:=top 21
theorem st_refuse_missing_chains {v0:V}:start ["chains","name","called"] [v0]=[some v0,none,none]:=rfl
theorem sc_refuse_missing_chains:FnScope ["chains","name","called"] ["chains"] (defScope s_refuse_missing_chains):=⟨rfl,rfl,rfl,by decide +kernel,rfl,by decide +kernel,by decide +kernel⟩
abbrev s_ready_names:Stmt:=top 22
theorem st_ready_names {v0 v1:V}:start ["chains","lengths","ready","name","lacking"] [v0,v1]=[some v0,some v1,none,none,none]:=rfl
theorem sc_ready_names:FnScope ["chains","lengths","ready","name","lacking"] ["chains","lengths"] (defScope s_ready_names):=⟨rfl,rfl,rfl,by decide +kernel,rfl,by decide +kernel,by decide +kernel⟩
abbrev s_chain_lengths:Stmt:=top 23
theorem st_chain_lengths {v0:V}:start ["chains","lengths","ready","name","rules"] [v0]=[some v0,none,none,none,none]:=rfl
theorem sc_chain_lengths:FnScope ["chains","lengths","ready","name","rules"] ["chains"] (defScope s_chain_lengths):=⟨rfl,rfl,rfl,by decide +kernel,rfl,by decide +kernel,by decide +kernel⟩
abbrev s_first_unmeasured:Stmt:=top 24
theorem st_first_unmeasured {v0 v1:V}:start ["names","lengths"] [v0,v1]=[some v0,some v1]:=rfl
theorem sc_first_unmeasured:FnScope ["names","lengths"] ["names","lengths"] (defScope s_first_unmeasured):=⟨rfl,rfl,rfl,by decide +kernel,rfl,by decide +kernel,by decide +kernel⟩
abbrev s_ring_among:Stmt:=top 25
theorem st_ring_among {v0 v1:V}:start ["chains","lengths","walked","name"] [v0,v1]=[some v0,some v1,none,none]:=rfl
theorem sc_ring_among:FnScope ["chains","lengths","walked","name"] ["chains","lengths"] (defScope s_ring_among):=⟨rfl,rfl,rfl,by decide +kernel,rfl,by decide +kernel,by decide +kernel⟩
abbrev s_Book___init__:Stmt:=inClass (top 26) 0
theorem st_Book___init__ {v0 v1 v2:V}:start ["self","default","chains","kept","name","rules","lengths"] [v0,v1,v2]=[some v0,some v1,some v2,none,none,none,none]:=rfl
theorem sc_Book___init__:FnScope ["self","default","chains","kept","name","rules","lengths"] ["self","default","chains"] (defScope s_Book___init__):=⟨rfl,rfl,rfl,by decide +kernel,rfl,by decide +kernel,by decide +kernel⟩
abbrev s_Book_chain_names:Stmt:=inClass (top 26) 1
abbrev s_Book_chain:Stmt:=inClass (top 26) 2
abbrev s_Book_rule_at:Stmt:=inClass (top 26) 3
abbrev s_Book_length:Stmt:=inClass (top 26) 4
theorem st_Book_length {v0:V}:start ["self"] [v0]=[some v0]:=rfl
theorem sc_Book_length:FnScope ["self"] ["self"] (defScope s_Book_length):=⟨rfl,rfl,rfl,by decide +kernel,rfl,by decide +kernel,by decide +kernel⟩
abbrev s_Book_length_of:Stmt:=inClass (top 26) 5
abbrev s_Book_told:Stmt:=inClass (top 26) 6
abbrev s__law_cell_at:Stmt:=top 28
theorem st__law_cell_at {v0 v1:V}:start ["_law_script","_law_k"] [v0,v1]=[some v0,some v1]:=rfl
theorem sc__law_cell_at:FnScope ["_law_script","_law_k"] ["_law_script","_law_k"] (defScope s__law_cell_at):=⟨rfl,rfl,rfl,by decide +kernel,rfl,by decide +kernel,by decide +kernel⟩
abbrev s__law_whole:Stmt:=top 29
theorem st__law_whole {v0:V}:start ["_law_found"] [v0]=[some v0]:=rfl
theorem sc__law_whole:FnScope ["_law_found"] ["_law_found"] (defScope s__law_whole):=⟨rfl,rfl,rfl,by decide +kernel,rfl,by decide +kernel,by decide +kernel⟩
abbrev s__law_stream:Stmt:=top 30
theorem st__law_stream {v0 v1:V}:start ["_law_cell","_law_many","_law_found","_law_number","_law_k"] [v0,v1]=[some v0,some v1,none,none,none]:=rfl
theorem sc__law_stream:FnScope ["_law_cell","_law_many","_law_found","_law_number","_law_k"] ["_law_cell","_law_many"] (defScope s__law_stream):=⟨rfl,rfl,rfl,by decide +kernel,rfl,by decide +kernel,by decide +kernel⟩
abbrev s__law_box:Stmt:=top 31
theorem st__law_box {v0:V}:start ["_law_draw","_law_tops","_law_box_here","_law_at","_law_x"] [v0]=[some v0,none,none,none,none]:=rfl
theorem sc__law_box:FnScope ["_law_draw","_law_tops","_law_box_here","_law_at","_law_x"] ["_law_draw"] (defScope s__law_box):=⟨rfl,rfl,rfl,by decide +kernel,rfl,by decide +kernel,by decide +kernel⟩
abbrev s__law_names:Stmt:=top 32
theorem st__law_names {v0 v1:V}:start ["_law_cell","_law_many","_law_letters","_law_draws","_law_size","_law_at","_law_base","_law_names_here","_law_k","_law_sign","_law_name"] [v0,v1]=[some v0,some v1,none,none,none,none,none,none,none,none,none]:=rfl
theorem sc__law_names:FnScope ["_law_cell","_law_many","_law_letters","_law_draws","_law_size","_law_at","_law_base","_law_names_here","_law_k","_law_sign","_law_name"] ["_law_cell","_law_many"] (defScope s__law_names):=⟨rfl,rfl,rfl,by decide +kernel,rfl,by decide +kernel,by decide +kernel⟩
abbrev s__law_chains:Stmt:=top 33
theorem st__law_chains {v0 v1:V}:start ["_law_cells","_law_names_here","_law_rules","_law_cell","_law_draws","_law_at","_law_rule"] [v0,v1]=[some v0,some v1,none,none,none,none,none]:=rfl
theorem sc__law_chains:FnScope ["_law_cells","_law_names_here","_law_rules","_law_cell","_law_draws","_law_at","_law_rule"] ["_law_cells","_law_names_here"] (defScope s__law_chains):=⟨rfl,rfl,rfl,by decide +kernel,rfl,by decide +kernel,by decide +kernel⟩
abbrev s__law_put:Stmt:=top 34
theorem st__law_put {v0 v1 v2 v3:V}:start ["_law_chains_here","_law_at","_law_where","_law_rule","_law_rules","_law_place"] [v0,v1,v2,v3]=[some v0,some v1,some v2,some v3,none,none]:=rfl
theorem sc__law_put:FnScope ["_law_chains_here","_law_at","_law_where","_law_rule","_law_rules","_law_place"] ["_law_chains_here","_law_at","_law_where","_law_rule"] (defScope s__law_put):=⟨rfl,rfl,rfl,by decide +kernel,rfl,by decide +kernel,by decide +kernel⟩
abbrev s__law_spoiled:Stmt:=top 35
theorem st__law_spoiled {v0 v1 v2 v3:V}:start ["_law_chains_here","_law_strange","_law_draws","_law_bits","_law_many","_law_one","_law_other","_law_k","_law_name"] [v0,v1,v2,v3]=[some v0,some v1,some v2,some v3,none,none,none,none,none]:=rfl
theorem sc__law_spoiled:FnScope ["_law_chains_here","_law_strange","_law_draws","_law_bits","_law_many","_law_one","_law_other","_law_k","_law_name"] ["_law_chains_here","_law_strange","_law_draws","_law_bits"] (defScope s__law_spoiled):=⟨rfl,rfl,rfl,by decide +kernel,rfl,by decide +kernel,by decide +kernel⟩
abbrev s__law_totals:Stmt:=top 36
theorem st__law_totals {v0:V}:start ["_law_chains_here","_law_totals_here","_law_name","_law_rules"] [v0]=[some v0,none,none,none]:=rfl
theorem sc__law_totals:FnScope ["_law_chains_here","_law_totals_here","_law_name","_law_rules"] ["_law_chains_here"] (defScope s__law_totals):=⟨rfl,rfl,rfl,by decide +kernel,rfl,by decide +kernel,by decide +kernel⟩
abbrev s__law_twice:Stmt:=top 37
theorem st__law_twice {v0:V}:start ["_law_chains_here","_law_known","_law_name","_law_rules"] [v0]=[some v0,none,none,none]:=rfl
theorem sc__law_twice:FnScope ["_law_chains_here","_law_known","_law_name","_law_rules"] ["_law_chains_here"] (defScope s__law_twice):=⟨rfl,rfl,rfl,by decide +kernel,rfl,by decide +kernel,by decide +kernel⟩
abbrev s__law_lacks:Stmt:=top 38
theorem st__law_lacks {v0:V}:start ["_law_chains_here","_law_names_here","_law_name","_law_rules","_law_rule"] [v0]=[some v0,none,none,none,none]:=rfl
theorem sc__law_lacks:FnScope ["_law_chains_here","_law_names_here","_law_name","_law_rules","_law_rule"] ["_law_chains_here"] (defScope s__law_lacks):=⟨rfl,rfl,rfl,by decide +kernel,rfl,by decide +kernel,by decide +kernel⟩
abbrev s__law_told:Stmt:=top 39
theorem st__law_told {v0 v1:V}:start ["_law_default","_law_chains_here","_law_told_here","e"] [v0,v1]=[some v0,some v1,none,none]:=rfl
theorem sc__law_told:FnScope ["_law_default","_law_chains_here","_law_told_here","e"] ["_law_default","_law_chains_here"] (defScope s__law_told):=⟨rfl,rfl,rfl,by decide +kernel,rfl,by decide +kernel,by decide +kernel⟩
abbrev s__law_answers:Stmt:=top 40
theorem st__law_answers {v0 v1 v2:V}:start ["_law_chains_here","_law_bits","_law_total","_law_told_here","_law_twice_here","_law_lacks_here","_law_ring","_law_due","_law_found"] [v0,v1,v2]=[some v0,some v1,some v2,none,none,none,none,none,none]:=rfl
theorem sc__law_answers:FnScope ["_law_chains_here","_law_bits","_law_total","_law_told_here","_law_twice_here","_law_lacks_here","_law_ring","_law_due","_law_found"] ["_law_chains_here","_law_bits","_law_total"] (defScope s__law_answers):=⟨rfl,rfl,rfl,by decide +kernel,rfl,by decide +kernel,by decide +kernel⟩
abbrev s_law:Stmt:=top 41
theorem st_law {v0:V}:start ["_law_script","_law_names_here","_law_chains_here","_law_bits","_law_draws","_law_lack","_law_total","_law_fill","_law_k","_law_kept"] [v0]=[some v0,none,none,none,none,none,none,none,none,none]:=rfl
theorem sc_law:FnScope ["_law_script","_law_names_here","_law_chains_here","_law_bits","_law_draws","_law_lack","_law_total","_law_fill","_law_k","_law_kept"] ["_law_script"] (defScope s_law):=⟨rfl,rfl,rfl,by decide +kernel,rfl,by decide +kernel,by decide +kernel⟩
section
open PySem PySem.Spec PyProof.Rows L2
def Stt (h B:Heap)(U:Addr→Prop)(e:Addr)(cls:Value)(dd:Option Addr):Prop:=Raw h B U e cls dd∨∃ fl,Tr h B U e cls dd fl
section
variable {M:Model}{A:Around}{E:Value→Shared→Prop}{s:Shared}{B:Heap}{U:Addr→Prop}{env:Env}{outer:List Env}{L e:Addr}{cls:Value}{dd:Option Addr}{Q:Unit→Shared→Prop}
theorem note_3 (hfr:A.frames=some (env::outer))(hl:s.heap.FunFrames B (env::outer))(hf:env.frame=some L)(hB:B.StaysIn s.heap)(hn:B.get? e=none)(x:Stt s.heap B U e cls dd)
  (k:∀ h',FlyD B U (env::outer) e cls dd (rawInt L) h'→s.heap.UpToSlots h'→Q () { s with heap:=h' }):wpAny M A (noteFrame (.ref e) env) Q E s:=by
 rcases x with x | ⟨fl,x⟩
 ·exact note_d hfr hl hf hB hn (.inl x) k
 ·obtain ⟨sl,vs,T,oT,ts,he,h1,hT,hne,ho,hd,h3,hc⟩:=id x
  unfold noteFrame
  simp only [hf]
  refine wpAny_bind (wpAny_field he rfl h1 ?_)
  rw [if_pos (show (Value.ref T != Value.none)=true by simp)]
  refine wpAny_bind (wpAny_field ho hd h3 ?_)
  by_cases c:(fl == rawInt L)=true
  ·rw [if_pos c]
   have e1:fl=rawInt L:=eq_of_beq c
   subst e1
   exact wpAny_pure (k s.heap ⟨hB,hn,hl,x⟩ (fun _ o e _=>⟨o.slots,e⟩))
  ·rw [if_neg c]
   refine wpAny_bind (wpAny_setField ho hd (Array.getElem?_eq_some_iff.mp h3).1 ?_)
   obtain ⟨u1,u2,u3⟩:=upd_rest (f:=fun w=>w.setIfInBounds 3 Value.none) ho hd
   have up:s.heap.UpToSlots (s.heap.update T (Obj.mapFields fun w=>w.setIfInBounds 3 Value.none)):=fun b o hb nf=>⟨o.slots,u3 b o hb nf⟩
   refine entry_d (s:={ s with heap:=s.heap.update T (Obj.mapFields fun w=>w.setIfInBounds 3 Value.none) }) hfr (frames_up hl up) hf ((u1 e (Ne.symm hne)).trans he) (fun b o hb=>?_) hn (Array.getElem?_eq_some_iff.mp h1).1 hc fun h' f up'=>k h' f (up.trans up')
   exact (u1 b fun z=>by rw [z,hT] at hb; cases hb).trans (hB b o hb)
theorem flight_any {l:List Env}{fl:Value}{fo:Option Addr}(x:FlyD B U l e cls dd fl s.heap)(k:∀ h' fl',FlyD B U l e cls dd fl' h'→s.heap.UpToSlots h'→Q () { s with heap:=h' }):wpAny M A (setFlight (.ref e) fo) Q E s:=by
 obtain ⟨hB,hn,hl,sl,vs,T,oT,ts,he,h1,hT,hne,ho,hd,h3,hc⟩:=x
 have hz:3<ts.size:=(Array.getElem?_eq_some_iff.mp h3).1
 unfold setFlight
 refine wpAny_bind (wpAny_field he rfl h1 ?_)
 rw [if_pos (show (Value.ref T != Value.none)=true by simp)]
 generalize fo.elim Value.none (fun f=>rawInt f)=nv
 obtain ⟨u1,u2,u3⟩:=upd_rest (f:=fun w=>w.setIfInBounds 3 nv) ho hd
 have up:s.heap.UpToSlots (s.heap.update T (Obj.mapFields fun w=>w.setIfInBounds 3 nv)):=fun b o hb nf=>⟨o.slots,u3 b o hb nf⟩
 refine wpAny_setField ho hd hz (k _ nv ⟨fun b o hb=>?_,hn,frames_up hl up,?_⟩ up)
 ·exact (u1 b fun z=>by rw [z,hT] at hb; cases hb).trans (hB b o hb)
 ·exact ⟨sl,vs,T,_,_,(u1 e (Ne.symm hne)).trans he,h1,hT,hne,u2,rfl,by simp [hz],hc⟩
theorem leaves_3 (hfr:A.frames=some (env::outer))(hl:s.heap.FunFrames B (env::outer))(hf:env.frame=some L)(hB:B.StaysIn s.heap)(hn:B.get? e=none)(x:Stt s.heap B U e cls dd)
  (k:∀ h',FlyD B U outer e cls dd .none h'→s.heap.UpToSlots h'→Q () { s with heap:=h' }):wpAny M A (leaving env (.ref e)) Q E s:=by
 unfold leaving
 refine wpAny_bind (note_3 hfr hl hf hB hn x fun h1 f1 up1=>?_)
 refine flight_d (s:={ s with heap:=h1 }) f1 fun h2 f2 up2=>k h2 ⟨f2.st,f2.ne,?_,f2.tr⟩ (up1.trans up2)
 obtain ⟨_,_,q⟩:=f2.fr
 exact q
end
def upX (X:Cx)(E:XK):Value→Shared→Prop:=fun e s'=>∃ (xa:Addr) (cls:Value) (dd:Option Addr) (σ:L2.St) (H:Hp) (B:Heap),e=.ref xa∧Inv X [] σ H s'∧B.StaysIn s'.heap∧B.get? xa=none∧s'.heap.FunFrames B X.stack∧Stt s'.heap B (fun b=>H b=none) xa cls dd ∧
 (∀ b o,s'.heap.get? b=some o→b∉frs X.stack→((∃ u,X.s₀.heap.get? b=some u)∨∃ u,H b=some u)→B.get? b=some o)∧H xa=none∧(∀ d,dd=some d→∃ fs,H d=some (.xd fs))∧E cls dd H
structure XeU (X:Cx)(E:XK):Prop extends DefCx X where
 pn:X.pn=[]
 up:∀ e s',upX X E e s'→X.xe e s'
section
variable {X:Cx}{E:XK}{pins:List (Addr×Obj)}{σ:L2.St}{H:Hp}{s s':Shared}
theorem up_leave {e:Value}(hX:XeOut X E)(u:upX X E e s'):X.xe e s':=by
 obtain ⟨xa,cls,dd,σ,H,B,rfl,J,st,ne,fr,tr,cov,hf,hd,hE⟩:=u
 have hfr:X.A.frames=some (X.env::X.outer):=by rw [← hX.stk]; exact J.ok.frames
 rw [hX.stk] at fr
 refine hX.out _ _ (leaves_3 hfr fr hX.frm st ne tr fun h' x1 x2=>?_)
 obtain ⟨un,hok,cv⟩:=left_ok (h':=h') hX.toDefCx J x1.st x2 cov
 exact ⟨xa,cls,dd,H,rfl,⟨J.os,J.bare,un,hok,⟨B,x1,cv⟩,hf,hd⟩,hE⟩
theorem up_on {e:Value}(hD:DefCx X)(hp:X.pn=[])(I:Inv X pins σ H s)(h:CXe X.prog X.w X.stack H s E e s'):upX X E e s':=by
 obtain ⟨xa,cls,dd,H',rfl,F,hE⟩:=h
 have J:Inv X pins σ H' s':=I.call' F.os F.un F.hok F.bare fun b z=>nomatch z
 obtain ⟨B,fl,cov⟩:=F.fly
 refine ⟨xa,cls,dd,σ,H',B,rfl,J.pins_of (fun p hp=>nomatch hp),fl.st,fl.ne,fl.fr,.inr ⟨_,fl.tr⟩,fun b o q hb hc=>cov b o q hb ?_,F.free,F.dct,hE⟩
 rcases hc with ⟨u,e'⟩ | hc
 ·exact .inl (I.base.there b u e' (by rw [hD.ex]; simp))
 ·exact .inr hc
theorem up_made {e:Addr}{cls:Value}{dd:Option Addr}(hD:DefCx X)(J:Inv X pins σ H s)(hx:Raw s.heap (PySem.W.hideAll s.heap (e::frs (X.env::X.outer))) (fun b=>H b=none) e cls dd)(h0:X.s₀.heap.get? e=none)(hf:H e=none)(hd:∀ d,dd=some d→∃ fs,H d=some (.xd fs))(hE:E cls dd H):upX X E (.ref e) s:=by
 have stk:=J.stack
 have hin:∀ env∈X.stack,∀ a,env.frame=some a→a∈e::frs (X.env::X.outer):=fun env he a ha=>List.mem_cons_of_mem _ (List.mem_filterMap.mpr ⟨env,by rw [hD.stk] at he; exact he,ha⟩)
 refine ⟨e,cls,dd,σ,H,PySem.W.hideAll s.heap (e::frs (X.env::X.outer)),rfl,J.pins_of (fun p hp=>nomatch hp),fun b o q=>PySem.W.of_hideAll _ q,PySem.W.hideAll_none _ List.mem_cons_self,PySem.W.funFrames_hide stk hin,.inl hx,fun b o q hb hc=>?_,hf,hd,hE⟩
 refine PySem.W.hideAll_get _ q fun z=>?_
 rcases List.mem_cons.mp z with z | z
 ·rcases hc with ⟨u,e'⟩ | ⟨u,e'⟩
  ·rw [z,h0] at e'; cases e'
  ·rw [z,hf] at e'; cases e'
 ·rw [hD.stk] at hb
  exact hb z
theorem up_on2 {h2:Heap}{xa:Addr}{cls:Value}{dd:Option Addr}{B:Heap}{fl:Value}(hD:DefCx X)(hp:X.pn=[])(J:Inv X [] σ H s)(cov:∀ b o,s.heap.get? b=some o→b∉frs X.stack→((∃ u,X.s₀.heap.get? b=some u)∨∃ u,H b=some u)→B.get? b=some o)(hf:H xa=none)(hd:∀ d,dd=some d→∃ fs,H d=some (.xd fs))(hE:E cls dd H)
  (f2:FlyD B (fun b=>H b=none) (X.env::X.outer) xa cls dd fl h2) (up:s.heap.UpToSlots h2):upX X E (.ref xa) { s with heap:=h2 }:=by
 have J2:Inv X [] σ H { s with heap:=h2 }:=land_ok hD J f2.st up fun b o q hb hc=>cov b o q hb (by
  rcases hc with hc | hc | ⟨p,hp',_⟩
  ·exact .inl hc
  ·exact .inr hc
  ·rw [hp] at hp'
   cases hp')
 refine ⟨xa,cls,dd,σ,H,B,rfl,J2,f2.st,f2.ne,by rw [hD.stk]; exact f2.fr,.inr ⟨_,f2.tr⟩,fun b o q hb hc=>?_,hf,hd,hE⟩
 have there:∃ o',s.heap.get? b=some o':=by
  rcases hc with ⟨u,e'⟩ | ⟨u,e'⟩
  ·exact J.base.there b u e' (by rw [hD.ex]; simp)
  ·exact obj_there (J.hok b u e')
 obtain ⟨o',q'⟩:=there
 have c:=cov b o' q' hb hc
 have:=f2.st b o' c
 have q:h2.get? b=some o:=q
 rw [q] at this
 cases this
 exact c
theorem up_note (hD:DefCx X)(hp:X.pn=[]):PassesOwn (model X.prog X.w) X.A X.env (upX X E):=fun e s' u=>by
 obtain ⟨xa,cls,dd,σ,H,B,rfl,J,st,ne,fr,tr,cov,hf,hd,hE⟩:=u
 have hfr:X.A.frames=some (X.env::X.outer):=by rw [← hD.stk]; exact J.ok.frames
 have fr':=fr
 rw [hD.stk] at fr'
 refine note_3 hfr fr' hD.frm st ne tr fun h1 f1 up1=>?_
 unfold cameBackBy
 obtain ⟨sl,vs,T,oT,ts,he,h1',_⟩:=id f1.tr
 refine wpAny_bind (wpAny_field he rfl h1' ?_)
 rw [if_neg (show ¬ (Value.ref T == Value.none)=true by simp)]
 show wpAny _ _ (setFlight (.ref xa) X.env.frame) _ _ _
 rw [hD.frm]
 refine flight_any (s:={ s' with heap:=h1 }) f1 fun h2 fl2 f2 up2=>?_
 exact up_on2 (s:=s') (h2:=h2) hD hp J cov hf hd hE f2 (up1.trans up2)
end
theorem upX_wish {X:Cx}{E:XK}{W:Value→Shared→Prop}{e:Value}{s:Shared}(u:upX (X.wish W) E e s):upX X E e s:=by
 obtain ⟨xa,cls,dd,σ,H,B,e1,J,r⟩:=u
 exact ⟨xa,cls,dd,σ,H,B,e1,J.unwish,r⟩
abbrev cxU (X:Cx)(E:XK):Cx:=X.wish (upX X E)
theorem xeU_up {X:Cx}{E:XK}(hD:DefCx X)(hp:X.pn=[]):XeU (cxU X E) E:=⟨⟨hD.stk,hD.frm,hD.ex⟩,hp,fun _ _ u=>upX_wish u⟩
theorem pass_up {X:Cx}{E:XK}(hD:DefCx X)(hp:X.pn=[]):PassesOwn (model (cxU X E).prog (cxU X E).w) (cxU X E).A (cxU X E).env (cxU X E).xe:=up_note hD hp
theorem pss_up {X:Cx}{E:XK}{body:List Stmt}{t:TS}(hX:XeOut X E)(h:PSs (cxU X E) body t):PSs X body t:=fun pins s σ H D I hw =>
 wpAny_mono (h pins s σ H D (I.wish _) hw) (fun _ _ q=>q.unwish) fun _ _ u=>up_leave hX u
theorem fun_okU {P:Program}{w:World}{K:PySem.W.Frag}{mg:Str→Option Value}{base:Heap}{x qual:Str}{st:Stmt}{f:Addr}{fd:FuncData}{N ps:List Str}{k:Nat}{sp:Sp}(F:Fun K x qual st f fd)(S:FnScope N ps (defScope st))(len:∀ vs H Q E,sp vs H Q E→vs.length=ps.length)
  (hbody:∀ (cdv:Value) (A:Around) (outer:List Env) (s:Shared) (H:Hp) (vs:List V) (Q:VK) (E:XK),Room k (A.deeper (envOfC qual (defScope st) s.heap.objs.size f cdv))→sp vs H Q E →
   ∃ t,PSs (cxU (cxOf (CXe P w) P w K mg base N qual (defScope st) f cdv A outer s H E) E) (defBody st) t∧t { nx:=fun _ H'=>Q .non H',rt:=Q } (start N vs) H):FnOk P w K mg base (CXe P w) (k+1) f fd ps sp :=
 fun_okX F S len fun cdv A outer s H vs Q E hr h=>by
  obtain ⟨t,ht,q⟩:=hbody cdv A outer s H vs Q E hr h
  exact ⟨t,pss_up xeOut_cx ht,q⟩
end
section
open PySem PySem.Spec PyProof.Rows L2
theorem ps_raiseIU {X:Cx}{E:XK}{x:Str}{C N fI:Addr}{k:Nat}{fd:FuncData}{ps:List Str}{sp:Sp}{np cpos pos:Pos}{e:Expr}{es:List Expr}{t:TA}(hX:XeU X E)(O:ExcCI X.K X.mg x C N fI)(G:FnOk X.prog X.w X.K X.mg X.base CX0 k fI fd ps sp)(hr:Room (k+1) X.A)(hb:Binds X.K fd ps [])(hc:X.calm=true)(hg:Gl X x)(ha:PA X (e::es) t)(hdb:(x == ("__debug__":Str))=false:=by decide)
  (he:starEach (e::es) X.env=(false,eval e X.env)::starEach es X.env:=by rfl) (hpl:(backTo cpos (starEach es X.env)).any (·.1)=false:=by rfl):PS X (.Raise (some (.Call (.Name x np) (e::es) [] cpos)) none pos) (tRaiseI C sp E t):=by
 intro pins s σ H D I h
 obtain ⟨nm,q',bs,bm,hdct,sn,sub,ab,col,dd',k0,k1,k2,k3,k5,lk,tl⟩:=O.k.ex
 obtain ⟨oI,lf,hfc⟩:=O.fn
 have kin:=I.ok.mod.kin
 have T:=PySem.W.tail_of_in kin tl
 have hN:X.base.Ns N (X.base.nsMap N):=.of_isNs (PySem.W.isNs_of_in kin O.ns)
 have hi:X.base.nsMap N "__init__"=some (.ref fI):=ns_some kin hN O.ini
 refine raise_callI (C:=C) (nm:=nm) (q:=q') (N:=N) (bs:=bs) (bm:=bm) (hdct:=hdct) (sn:=sn) (sub:=sub) (ab:=ab) (col:=col) (dd:=dd') (k0:=k0) (k1:=k1) (k2:=k2) (k3:=k3) (k5:=k5) PySem.F.excBase_ValueError (mN:=X.base.nsMap N) (oI:=oI)
  (T.hasType (show bmVE.contains (.type "BaseException")=true by decide +kernel)) (I.ok.hd hc) (by rw [he]; show (false || (backTo cpos (starEach es X.env)).any (·.1))=false; rw [hpl]; rfl) hi hfc (ld_glob I hg O.mg ⟨rfl,?_⟩ hdb)
 have a:=ha cpos pins s σ H _ I h
 rw [he] at a ⊢
 refine Calls.evalArgs_plain (wpAny_mono a (fun us s2 ⟨vs,H2,I2,r,hz,q2⟩=>?_) fun _ _ y=>y)
 refine ⟨rfl,by rw [← r.length]; exact hz,I2.kIn _ _ lk,hN.keeps I2.bk,PySem.W.tail_of_in I2.kIn tl,I2.kIn _ _ lf,fun h' e hm le=>?_⟩
 obtain ⟨t0,ht0,_,_⟩:=hm.there
 have hfree:H2 e=none:=I2.hok.fresh le
 have I3:Inv X pins σ (upd H2 e (exN e C none)) { s2 with heap:=h',toks:=s2.toks }:=I2.laid hm.keeps le (exN_ok ht0 rfl ⟨rfl,rfl,show 4<6 by decide⟩)
 have hq:=q2 e hfree
 have r2:Vals (V.ref e::vs) (Value.ref e::us):=.cons rfl r
 have hl:(Value.ref e::us++[]).length=ps.length:=by
  have e1:=r2.length
  rw [G.len _ _ _ _ hq] at e1
  rw [List.append_nil]
  exact e1.symm
 have bd:=hb { s2 with heap:=h',toks:=s2.toks } (Value.ref e::us) I3.kIn hl
 rw [List.append_nil] at bd
 refine wpAny_call (codeAny_mono (G.run _ X.stack _ _ ⟨Value.ref e::us,[]⟩ (Value.ref e::us) _ _ E0 (hr.make C us []) (I3.env0.make C us []) bd r2 hq) fun r' s' hq'=>?_)
 cases r' with
 | error y=>exact False.elim hq'
 | ok fl =>
  cases fl with
  | ret u =>
   obtain ⟨v,H4,I4,rv,ev,dd,h4,hd,hE⟩:=I3.after hq'
   subst ev
   obtain ⟨⟨vs',sl',t',hr',h0',h1'⟩,_,_⟩:=(show ObjOk X.prog X.w H4 s'.heap e (exN e C dd) from I4.hok e _ h4)
   refine ⟨rv,I4.kIn _ _ lk,⟨dd,vs',sl',hr',h1'.1⟩,?_⟩
   refine hX.up _ _ (up_made hX.toDefCx (I4.del h4) ⟨sl',vs',hr',h1'.1,.no h1'.2.1⟩ ?_ del_same (fun d z=>?_) hE)
   ·cases q:X.s₀.heap.get? e with
    | none=>rfl
    | some u =>
     obtain ⟨ob,ho⟩:=I2.base.there e u q (by rw [hX.ex]; simp)
     rw [hm.new] at ho
     cases ho
   ·obtain ⟨ne,fs,hf⟩:=hd d z
    exact ⟨fs,by rw [del_ne ne]; exact hf⟩
  | next=>exact False.elim hq'
  | brk=>exact False.elim hq'
  | cont=>exact False.elim hq'
end
theorem pi_listK {X:Cx}{tg l:Expr}{tl:TE}{K:PySem.W.Frag}(hK:X.K=K)(hl:PE X l tl):PI X tg l (iList K tl):=hK▸pi_list hl
structure FnIX (P:Program)(w:World)(K:PySem.W.Frag)(mg:Str→Option Value)(base:Heap)(C:Addr)(k:Nat)(ps:List Str)(sp:Sp):Prop where
 ex:∃ (f:Addr) (fd:FuncData),FnOk P w K mg base (CXe P w) k f fd ps sp∧Mk K C f∧Binds K fd ps []
section
variable {X:Cx}{k j:Nat}{C:Addr}{ps:List Str}{sp:Sp}{x:Str}{p pos:Pos}{e:Expr}{es:List Expr}{t:TA}
def MakeT (Rr:RX)(C:Addr)(sp:Sp)(vs:List V)(σ:L2.St)(H:Hp)(Q:VK):Prop:=∀ x dx,H x=none→H dx=none→dx≠x→sp (.ref x::vs) (upd (upd H dx (.own x)) x (.ins C dx [])) (fun v H2=>v=.non∧Q (.ref x) H2) fun cls dd H'=>Rr cls dd σ H'
def tMakeT (Rr:RX)(C:Addr)(sp:Sp)(t:TA):TE:=fun σ H Q=>t σ H fun vs H1=>MakeT Rr C sp vs σ H1 Q
theorem makeT_ {Rr:RX}{σ:L2.St}{H:Hp}{Q:VK}:tMakeT Rr C sp t σ H Q=t σ H fun vs H1=>MakeT Rr C sp vs σ H1 Q:=rfl
theorem pe_newT {Rr:RX}{pn:List (Addr×Obj)}(F:FnIX X.prog X.w X.K X.mg X.base C k ps sp)(hD:DefCx X)(hr:Room j X.A)(hk:k+1≤j)(hg:Gl X x)(hm:X.mg x=some (.ref C))(ha:PA ((cxP X pn).wish (xeT (cxP X pn) Rr)) (e::es) t)(hdb:(x == ("__debug__":Str))=false:=by decide)
  (he:starEach (e::es) X.env=(false,eval e X.env)::starEach es X.env:=by rfl) (hpl:(backTo pos (starEach es X.env)).any (·.1)=false:=by rfl) :
  PE ((cxP X pn).wish (xeT (cxP X pn) Rr)) (.Call (.Name x p) (e::es) [] pos) (tMakeT Rr C sp t):=by
 obtain ⟨f,fd,G,M,b⟩:=F.ex
 intro pins s σ H Q I h
 refine wpAny_Call_Name_kw (ld_glob I hg hm ?_ hdb)
 refine PySem.W.callWith_K (h₀:=X.base) I.ok.mod.kin M.kp (thn (ha pos pins s σ H _ I h) fun us s1 ⟨vs,H1,I1,r,q⟩=>⟨I1.kIn,?_⟩) he hpl
 have hq:=q (s1.heap.objs.size+1) s1.heap.objs.size (I1.hok.fresh (Nat.le_succ _)) (I1.hok.fresh (Nat.le_refl _)) (Nat.ne_of_lt (Nat.lt_succ_self _))
 have I2:=Inv.made (C:=C) I1
 have r2:Vals (V.ref (s1.heap.objs.size+1)::vs) (Value.ref (s1.heap.objs.size+1)::us):=.cons rfl r
 have hl:(Value.ref (s1.heap.objs.size+1)::us++[]).length=ps.length:=by
  have e:=r2.length
  rw [G.len _ _ _ _ hq] at e
  rw [List.append_nil]
  exact e.symm
 have bb:=b _ (Value.ref (s1.heap.objs.size+1)::us) I2.kIn hl
 rw [List.append_nil] at bb
 refine wpAny_call (make_map (f:=f) I1.kIn M.makes M.init (beq_iff_eq.mp M.fn) (codeAny_mono (G.run _ X.stack _ _ ⟨Value.ref (s1.heap.objs.size+1)::us,[]⟩ (Value.ref (s1.heap.objs.size+1)::us) _ _ _ ((hr.mono hk).make C us [])
  (I2.env0.make C us []) bb r2 hq) fun r' s' hq'=>?_))
 cases r' with
 | error y=>exact catch_on hD I2 hq'
 | ok fl =>
  cases fl with
  | ret u =>
   obtain ⟨v,H',I3,rv,ev,q3⟩:=I2.after hq'
   subst ev
   exact ⟨rv,⟨V.ref (s1.heap.objs.size+1),H',I3,rfl,q3⟩⟩
  | next=>exact False.elim hq'
  | brk=>exact False.elim hq'
  | cont=>exact False.elim hq'
end
theorem _root_.Sv.MDef.fnIX {P:Program}{w:World}{K:PySem.W.Frag}{mg:Str→Option Value}{base:Heap}{C:Addr}{qual:Str}{st:Stmt}{k:Nat}{ps:List Str}{sp:Sp}(D:MDef K C "__init__" qual st)(mk:PySem.W.makesIn K C=true)(kp:PySem.W.keepIn K (.ref C)=true)(b:∀ (kV doc pm:Value) (an:Option Addr) (cdv ct:Value) (us:List Value),us.length=ps.length→bindArgs (PySem.W.fnOf "__init__" qual (defArgs st) (defBody st) (defScope st) .none kV doc pm an cdv ct) ⟨us,[]⟩=pure (ps.zip us))
  (ok:∀ (f:Addr) (fd:FuncData),Fun K "__init__" qual st f fd→FnOk P w K mg base (CXe P w) k f fd ps sp):FnIX P w K mg base C k ps sp:=by
 obtain ⟨f,fd,F,a,n⟩:=D.ex
 exact ⟨⟨f,fd,ok f fd F,⟨mk,a,n,kp⟩,F.binds b⟩⟩
structure Txt (K:PySem.W.Frag)(C_Rule C_Word C_Back C_Call:Addr):Prop where
 pg_Rule:PySem.W.plainGet K C_Rule Str.empty=true
 hd_Rule:PySem.W.hasDictIn K C_Rule=true
 po_Rule:PySem.W.plainOver K C_Rule=true
 sa_Rule:PySem.W.findIn K (.ref C_Rule) "__setattr__"=some (some (.builtin "object.__setattr__"))
 cl_Rule:PySem.W.findIn K (.ref C_Rule) "__class__"=some (some (.builtin "object.__class__"))
 ob_Rule:PySem.W.mroIn K C_Rule (.type "object")=some true
 nb_Rule:PySem.W.findIn K (.ref C_Rule) "box"=some none
 mk_Rule:PySem.W.makesIn K C_Rule=true
 kp_Rule:PySem.W.keepIn K (.ref C_Rule)=true
 pg_Word:PySem.W.plainGet K C_Word Str.empty=true
 hd_Word:PySem.W.hasDictIn K C_Word=true
 po_Word:PySem.W.plainOver K C_Word=true
 sa_Word:PySem.W.findIn K (.ref C_Word) "__setattr__"=some (some (.builtin "object.__setattr__"))
 cl_Word:PySem.W.findIn K (.ref C_Word) "__class__"=some (some (.builtin "object.__class__"))
 ob_Word:PySem.W.mroIn K C_Word (.type "object")=some true
 nb_Word:PySem.W.findIn K (.ref C_Word) "box"=some none
 mk_Word:PySem.W.makesIn K C_Word=true
 kp_Word:PySem.W.keepIn K (.ref C_Word)=true
 pg_Back:PySem.W.plainGet K C_Back Str.empty=true
 hd_Back:PySem.W.hasDictIn K C_Back=true
 po_Back:PySem.W.plainOver K C_Back=true
 sa_Back:PySem.W.findIn K (.ref C_Back) "__setattr__"=some (some (.builtin "object.__setattr__"))
 cl_Back:PySem.W.findIn K (.ref C_Back) "__class__"=some (some (.builtin "object.__class__"))
 ob_Back:PySem.W.mroIn K C_Back (.type "object")=some true
 nb_Back:PySem.W.findIn K (.ref C_Back) "box"=some none
 mk_Back:PySem.W.makesIn K C_Back=true
 kp_Back:PySem.W.keepIn K (.ref C_Back)=true
 pg_Call:PySem.W.plainGet K C_Call Str.empty=true
 hd_Call:PySem.W.hasDictIn K C_Call=true
 po_Call:PySem.W.plainOver K C_Call=true
 sa_Call:PySem.W.findIn K (.ref C_Call) "__setattr__"=some (some (.builtin "object.__setattr__"))
 cl_Call:PySem.W.findIn K (.ref C_Call) "__class__"=some (some (.builtin "object.__class__"))
 ob_Call:PySem.W.mroIn K C_Call (.type "object")=some true
 nb_Call:PySem.W.findIn K (.ref C_Call) "box"=some none
 mk_Call:PySem.W.makesIn K C_Call=true
 kp_Call:PySem.W.keepIn K (.ref C_Call)=true
 nw:PySem.W.findIn K (.ref C_Word) "word"=some none
 nn:PySem.W.findIn K (.ref C_Call) "name"=some none
 gs:PySem.W.specialIn K (.builtin "object.__class__") "__get__"=some (some (.builtin "getset_descriptor.__get__"))
 tk:PySem.W.takesIn K (.builtin "object.__class__")=some true
 i_Word_Rule:PySem.W.kitOne K (.ref C_Word) (.ref C_Rule)=some true
 i_Word_Word:PySem.W.kitOne K (.ref C_Word) (.ref C_Word)=some true
 i_Word_Back:PySem.W.kitOne K (.ref C_Word) (.ref C_Back)=some false
 i_Word_Call:PySem.W.kitOne K (.ref C_Word) (.ref C_Call)=some false
 i_Back_Rule:PySem.W.kitOne K (.ref C_Back) (.ref C_Rule)=some true
 i_Back_Word:PySem.W.kitOne K (.ref C_Back) (.ref C_Word)=some false
 i_Back_Back:PySem.W.kitOne K (.ref C_Back) (.ref C_Back)=some true
 i_Back_Call:PySem.W.kitOne K (.ref C_Back) (.ref C_Call)=some false
 i_Call_Rule:PySem.W.kitOne K (.ref C_Call) (.ref C_Rule)=some true
 i_Call_Word:PySem.W.kitOne K (.ref C_Call) (.ref C_Word)=some false
 i_Call_Back:PySem.W.kitOne K (.ref C_Call) (.ref C_Back)=some false
 i_Call_Call:PySem.W.kitOne K (.ref C_Call) (.ref C_Call)=some true
section
variable {C_Rule C_Word C_Back C_Call:Addr}
theorem Txt.cls_Word (T:Txt K C_Rule C_Word C_Back C_Call):Cls K C_Word:=⟨T.pg_Word,T.hd_Word,T.po_Word,T.sa_Word⟩
theorem Txt.cls_Back (T:Txt K C_Rule C_Word C_Back C_Call):Cls K C_Back:=⟨T.pg_Back,T.hd_Back,T.po_Back,T.sa_Back⟩
theorem Txt.cls_Call (T:Txt K C_Rule C_Word C_Back C_Call):Cls K C_Call:=⟨T.pg_Call,T.hd_Call,T.po_Call,T.sa_Call⟩
end
inductive Rl where
 | word (w:Str)
 | back
 | call (n:Str)
def Rl.fs (p:Addr):Rl→List (Str×V)
 | .word w=>[("box",.ref p),("word",.str w)]
 | .back=>[("box",.ref p)]
 | .call n=>[("box",.ref p),("name",.str n)]
def Rl.told (p:Addr):Rl→List V
 | .word w=>[.str w,.ref p]
 | .back=>[.str "back",.ref p]
 | .call n=>[.str "call",.ref p,.str n]
def Rl.cls (C_Word C_Back C_Call:Addr):Rl→Addr
 | .word _=>C_Word
 | .back=>C_Back
 | .call _=>C_Call
def Rl.ok:Rl→Prop
 | .word w=>w≠"back"∧w≠"call"∧w.length≤1000∧PyData.strOk w=true
 | .back=>True
 | .call n=>n.length≤1000∧PyData.strOk n=true
theorem s_box_word:("box":Str)≠"word":=by decide
theorem s_box_name:("box":Str)≠"name":=by decide
theorem put_new (f:Str)(v:V):putF f v []=[(f,v)]:=rfl
theorem put_two {f g:Str}(h:g≠f)(v x:V):putF f v [(g,x)]=[(g,x),(f,v)]:=by
 simp only [putF,if_neg h]
theorem look_one (f:Str)(v:V)(r:List (Str×V)):((f,v)::r).lookup f=some v:=by
 rw [List.lookup_cons,beq_self_eq_true]
theorem look_two {f g:Str}(h:f≠g)(v x:V):[(g,x),(f,v)].lookup f=some v:=by
 rw [List.lookup_cons,beq_eq_false_iff_ne.mpr h]
 exact look_one f v []
theorem Rl.box (p:Addr):∀ r:Rl,(r.fs p).lookup ("box":Str)=some (.ref p)
 | .word _=>look_one _ _ _
 | .back=>look_one _ _ _
 | .call _=>look_one _ _ _
theorem Rl.none {m:Str}(h1:m≠"box")(h2:m≠"word")(h3:m≠"name")(p:Addr):∀ r:Rl,(r.fs p).lookup m=none:=fun r=>by
 have e:∀ (g:Str) (v:V) (l:List (Str×V)),m≠g→((g,v)::l).lookup m=l.lookup m:=fun g v l h=>by rw [List.lookup_cons,beq_eq_false_iff_ne.mpr h]
 cases r with
 | word w=>rw [Rl.fs,e _ _ _ h1,e _ _ _ h2]; rfl
 | back=>rw [Rl.fs,e _ _ _ h1]; rfl
 | call n=>rw [Rl.fs,e _ _ _ h1,e _ _ _ h3]; rfl
def IsRule (C_Word C_Back C_Call:Addr)(H:Hp)(a:Addr)(r:Rl)(p:Addr):Prop:=∃ dx,H a=some (.ins (r.cls C_Word C_Back C_Call) dx (r.fs p))
theorem IsRule.same {C_Word C_Back C_Call a p:Addr}{r:Rl}{H H':Hp}(h:IsRule C_Word C_Back C_Call H a r p)(s:Same H H'):IsRule C_Word C_Back C_Call H' a r p:=by
 obtain ⟨dx,h⟩:=h
 exact ⟨dx,s _ _ h⟩
def spInit (K:PySem.W.Frag):Sp:=fun vs H Q _=>∃ (a p C dx:Addr),vs=[.ref a,.ref p]∧H a=some (.ins C dx [])∧Cls K C∧NoAttr K C "box"∧Q .non (upd H a (.ins C dx [("box",.ref p)]))
theorem ok_Rule_init (F:Fun K "__init__" "Rule.__init__" s_Rule___init__ f fd):FnOk P w K mg base CX0 1 f fd ["self","box"] (spInit K):=by
 refine F.ok sc_Rule___init__ (fun vs H Q E h=>?_) (fun cdv A outer s H vs Q E hr h=>?_)
 ·obtain ⟨_,_,_,_,rfl,_⟩:=h
  rfl
 obtain ⟨a,p,C,dx,rfl,ha,cl,na,q⟩:=h
 refine ⟨_,(@pss_one _ _ _ (@ps_fld _ _ _ _ _ _ _ _ (pv 0) (pv 1) rfl)),?_⟩
 rw [st_Rule___init__]
 walk_at "sv"
 exact SFldR.go ha cl na (by simp) q
def spInitW (K:PySem.W.Frag)(C:Addr)(f:Str):Sp:=fun vs H Q _=>∃ (a p dx:Addr) (w:Str),vs=[.ref a,.ref p,.str w]∧H a=some (.ins C dx [])∧Q .non (upd H a (.ins C dx [("box",.ref p),(f,.str w)]))
section
variable {C_Rule C_Word C_Back C_Call:Addr}
theorem ok_Word_init (F:Fun K "__init__" "Word.__init__" s_Word___init__ f fd)(gc_Rule___init__:FnC P w K mg base C_Rule "__init__" 1 ["self","box"] (spInit K))(m_Rule:mg "Rule"=some (.ref C_Rule))(T:Txt K C_Rule C_Word C_Back C_Call):FnOk P w K mg base CX0 2 f fd ["self","box","word"] (spInitW K C_Word "word"):=by
 refine F.ok sc_Word___init__ (fun vs H Q E h=>?_) (fun cdv A outer s H vs Q E hr h=>?_)
 ·obtain ⟨_,_,_,_,rfl,_⟩:=h
  rfl
 obtain ⟨a,p,dx,w,rfl,ha,q⟩:=h
 refine ⟨_,(@pss_cons _ _ _ _ _ (@ps_expr _ _ _ _ (@pe_cm _ _ _ _ _ _ _ _ _ _ _ _ _ _ (@pe_glob _ _ (.ref C_Rule) _ _ rfl m_Rule rfl (by decide)) gc_Rule___init__ hr (by decide) (@pa_cons _ _ _ _ _ (pv 0) (@pa_cons _ _ _ _ _ (pv 1) pa_nil (by rfl)) (by rfl)) (by rfl) (by rfl) (by rfl)) (by rfl)) (@pss_one _ _ _ (@ps_fld _ _ _ _ _ _ _ _ (pv 0) (pv 2) rfl))),?_⟩
 rw [st_Word___init__]
 walk_at "sv"
 refine ⟨a,p,C_Word,dx,rfl,ha,T.cls_Word,T.nb_Word,?_⟩
 walk_at "sv"
 refine SFldR.go upd_same T.cls_Word T.nw (by simp) ?_
 rw [upd_upd,put_two s_box_word]
 exact q
theorem ok_Call_init (F:Fun K "__init__" "Call.__init__" s_Call___init__ f fd)(gc_Rule___init__:FnC P w K mg base C_Rule "__init__" 1 ["self","box"] (spInit K))(m_Rule:mg "Rule"=some (.ref C_Rule))(T:Txt K C_Rule C_Word C_Back C_Call):FnOk P w K mg base CX0 2 f fd ["self","box","name"] (spInitW K C_Call "name"):=by
 refine F.ok sc_Call___init__ (fun vs H Q E h=>?_) (fun cdv A outer s H vs Q E hr h=>?_)
 ·obtain ⟨_,_,_,_,rfl,_⟩:=h
  rfl
 obtain ⟨a,p,dx,w,rfl,ha,q⟩:=h
 refine ⟨_,(@pss_cons _ _ _ _ _ (@ps_expr _ _ _ _ (@pe_cm _ _ _ _ _ _ _ _ _ _ _ _ _ _ (@pe_glob _ _ (.ref C_Rule) _ _ rfl m_Rule rfl (by decide)) gc_Rule___init__ hr (by decide) (@pa_cons _ _ _ _ _ (pv 0) (@pa_cons _ _ _ _ _ (pv 1) pa_nil (by rfl)) (by rfl)) (by rfl) (by rfl) (by rfl)) (by rfl)) (@pss_one _ _ _ (@ps_fld _ _ _ _ _ _ _ _ (pv 0) (pv 2) rfl))),?_⟩
 rw [st_Call___init__]
 walk_at "sv"
 refine ⟨a,p,C_Call,dx,rfl,ha,T.cls_Call,T.nb_Call,?_⟩
 walk_at "sv"
 refine SFldR.go upd_same T.cls_Call T.nn (by simp) ?_
 rw [upd_upd,put_two s_box_name]
 exact q
theorem same_ins {H:Hp}{x dx:Addr}{o o':HO}(nx:H x=none)(nd:H dx=none)(ne:dx≠x):Same H (upd (upd H dx o) x o'):=(same_new nd o).trans (same_new (by rw [upd_ne ne.symm]; exact nx) o')
def spRuleOf (C_Word C_Back C_Call:Addr):Sp:=fun vs H Q _=>∃ (t p:Addr) (r:Rl),vs=[.ref t]∧H t=some (.tup (r.told p))∧r.ok∧∀ a H',H a=none→Same H H'→IsRule C_Word C_Back C_Call H' a r p→Q (.ref a) H'
theorem ok_rule_of (F:Fun K "rule_of" "rule_of" s_rule_of f fd)(gi_Back:FnI P w K mg base C_Back 1 ["self","box"] (spInit K))(gi_Word:FnI P w K mg base C_Word 2 ["self","box","word"] (spInitW K C_Word "word"))(gi_Call:FnI P w K mg base C_Call 2 ["self","box","name"] (spInitW K C_Call "name"))
  (m_Back:mg "Back"=some (.ref C_Back)) (m_Word:mg "Word"=some (.ref C_Word)) (m_Call:mg "Call"=some (.ref C_Call)) (T:Txt K C_Rule C_Word C_Back C_Call):FnOk P w K mg base CX0 4 f fd ["told"] (spRuleOf C_Word C_Back C_Call):=by
 refine F.ok sc_rule_of (fun vs H Q E h=>?_) (fun cdv A outer s H vs Q E hr h=>?_)
 ·obtain ⟨_,_,_,rfl,_⟩:=h
  rfl
 obtain ⟨t,p,r,rfl,ht,ok,q⟩:=h
 refine ⟨_,(@pss_cons _ _ _ _ _ (@ps_if _ _ _ _ _ _ _ _ (@pt_cmpR _ _ _ _ _ _ _ _ op_eq (@pe_ix _ _ _ _ _ _ _ ix_tup (pv 0) pe_int (fun _ _=>rfl)) pe_str (nomark _)) (@pss_one _ _ _ (@ps_ret _ _ _ _ (@pe_new _ _ _ _ _ _ _ _ _ _ _ _ gi_Back hr (by decide) rfl m_Back (@pa_cons _ _ _ _ _ (@pe_ix _ _ _ _ _ _ _ ix_tup (pv 0) pe_int (fun _ _=>rfl)) pa_nil (by rfl)) (by decide) (by rfl) (by rfl)))) pss_nil) (@pss_cons _ _ _ _ _ (@ps_if _ _ _ _ _ _ _ _ (@pt_cmpR _ _ _ _ _ _ _ _ op_eq (@pe_ix _ _ _ _ _ _ _ ix_tup (pv 0) pe_int (fun _ _=>rfl)) pe_str (nomark _)) (@pss_one _ _ _ (@ps_ret _ _ _ _ (@pe_new _ _ _ _ _ _ _ _ _ _ _ _ gi_Call hr (by decide) rfl m_Call (@pa_cons _ _ _ _ _ (@pe_ix _ _ _ _ _ _ _ ix_tup (pv 0) pe_int (fun _ _=>rfl)) (@pa_cons _ _ _ _ _ (@pe_ix _ _ _ _ _ _ _ ix_tup (pv 0) pe_int (fun _ _=>rfl)) pa_nil (by rfl)) (by rfl)) (by decide) (by rfl) (by rfl)))) pss_nil) (@pss_one _ _ _ (@ps_ret _ _ _ _ (@pe_new _ _ _ _ _ _ _ _ _ _ _ _ gi_Word hr (by decide) rfl m_Word (@pa_cons _ _ _ _ _ (@pe_ix _ _ _ _ _ _ _ ix_tup (pv 0) pe_int (fun _ _=>rfl)) (@pa_cons _ _ _ _ _ (@pe_ix _ _ _ _ _ _ _ ix_tup (pv 0) pe_int (fun _ _=>rfl)) pa_nil (by rfl)) (by rfl)) (by decide) (by rfl) (by rfl)))))),?_⟩
 rw [st_rule_of]
 cases r with
 | word w =>
  obtain ⟨n1,n2,_⟩:=ok
  simp only [Rl.told] at ht
  walk_at "ix"
  rw [decide_eq_false n1]
  walk_at "ix"
  rw [decide_eq_false n2]
  walk_at "ix"
  intro x dx nx nd ne
  refine ⟨x,p,dx,w,rfl,upd_same,rfl,?_⟩
  rw [upd_upd]
  exact q x _ nx (same_ins nx nd ne) ⟨dx,upd_same⟩
 | back =>
  simp only [Rl.told] at ht
  walk_at "ix"
  intro x dx nx nd ne
  refine ⟨x,p,C_Back,dx,rfl,upd_same,T.cls_Back,T.nb_Back,rfl,?_⟩
  rw [upd_upd]
  exact q x _ nx (same_ins nx nd ne) ⟨dx,upd_same⟩
 | call n =>
  simp only [Rl.told] at ht
  walk_at "ix"
  rw [decide_eq_false (show ¬ ("call":Str)="back" by decide)]
  walk_at "ix"
  refine ixT_go (i:=2) (SqT.of ht) rfl ?_
  intro x dx nx nd ne
  refine ⟨x,p,dx,n,rfl,upd_same,rfl,?_⟩
  rw [upd_upd]
  exact q x _ nx (same_ins nx nd ne) ⟨dx,upd_same⟩
end
abbrev Ru:=Rl×Addr
def callOf:Ru→Option Str
 | (.call n,_)=>some n
 | _=>none
def callsOf (us:List Ru):List Str:=us.filterMap callOf
section
variable {C_Rule C_Word C_Back C_Call:Addr}
def RuAt (C_Word C_Back C_Call:Addr)(H:Hp)(v:V)(u:Ru):Prop:=∃ a,v=.ref a∧IsRule C_Word C_Back C_Call H a u.1 u.2
theorem RuAt.same {H H':Hp}{v:V}{u:Ru}(h:RuAt C_Word C_Back C_Call H v u)(s:Same H H'):RuAt C_Word C_Back C_Call H' v u:=by
 obtain ⟨a,e,h⟩:=h
 exact ⟨a,e,h.same s⟩
def RusAt (C_Word C_Back C_Call:Addr)(H:Hp)(vs:List V)(us:List Ru):Prop:=All2 (RuAt C_Word C_Back C_Call H) vs us
theorem RusAt.same {H H':Hp}{vs:List V}{us:List Ru}(h:RusAt C_Word C_Back C_Call H vs us)(s:Same H H'):RusAt C_Word C_Back C_Call H' vs us:=All2.imp h fun _ _ r=>r.same s
def nameV (H:Hp):V→Option V
 | .ref a=>match H a with
  | some (.ins _ _ fs)=>fs.lookup ("name":Str)
  | _=>none
 | _=>none
theorem nameV_at {H:Hp}{v:V}{u:Ru}(h:RuAt C_Word C_Back C_Call H v u):nameV H v=(callOf u).map V.str:=by
 obtain ⟨a,rfl,dx,h⟩:=h
 obtain ⟨r,p⟩:=u
 simp only [nameV,h]
 cases r with
 | word w=>rfl
 | back=>rfl
 | call n=>exact look_two s_box_name.symm _ _
theorem names_calls {H:Hp}{vs:List V}{us:List Ru}(h:RusAt C_Word C_Back C_Call H vs us):(vs.filter fun v=>(nameV H v).isSome).map (fun v=>(nameV H v).getD .non)=(callsOf us).map V.str:=by
 induction h with
 | nil=>rfl
 | @cons v u vs us h _ ih =>
  have e:=nameV_at h
  unfold callsOf at ih ⊢
  rw [List.filter_cons,List.filterMap_cons]
  cases c:callOf u with
  | none =>
   rw [c] at e
   rw [e]
   exact ih
  | some n =>
   rw [c] at e
   rw [e]
   show (nameV H v).getD .non::_=V.str n::_
   rw [e,ih]
   rfl
theorem Txt.tyOf (T:Txt K C_Rule C_Word C_Back C_Call){H:Hp}{a p:Addr}{r:Rl}(h:IsRule C_Word C_Back C_Call H a r p):∃ t,TyOf K H (.ref a) t∧PySem.W.kitOne K t (.ref C_Call)=some (callOf (r,p)).isSome:=by
 obtain ⟨dx,h⟩:=h
 cases r with
 | word w=>exact ⟨_,.ins h T.cls_Word T.cl_Word T.gs T.tk T.ob_Word,T.i_Word_Call⟩
 | back=>exact ⟨_,.ins h T.cls_Back T.cl_Back T.gs T.tk T.ob_Back,T.i_Back_Call⟩
 | call n=>exact ⟨_,.ins h T.cls_Call T.cl_Call T.gs T.tk T.ob_Call,T.i_Call_Call⟩
def spCalled (C_Word C_Back C_Call:Addr):Sp:=fun vs H Q _=>∃ (l:Addr) (rs:List V) (us:List Ru),vs=[.ref l]∧H l=some (.lst rs)∧RusAt C_Word C_Back C_Call H rs us∧us.length≤1000∧∀ D H',H D=none→Same H H'→H' D=some (.lst ((callsOf us).map V.str))→Q (.ref D) H'
theorem ok_called_names (F:Fun K "called_names" "called_names" s_called_names f fd)(b_isinstance:mg "isinstance"=none)(m_Call:mg "Call"=some (.ref C_Call))(T:Txt K C_Rule C_Word C_Back C_Call):FnOk P w K mg base CX0 1 f fd ["rules"] (spCalled C_Word C_Back C_Call):=by
 refine F.ok sc_called_names (fun vs H Q E h=>?_) (fun cdv A outer s H vs Q E hr h=>?_)
 ·obtain ⟨_,_,_,rfl,_⟩:=h
  rfl
 obtain ⟨l,rs,us,rfl,hl,ru,len,q⟩:=h
 refine ⟨_,(@pss_one _ _ _ (@ps_ret _ _ _ _ (@pe_comp _ _ (["rule"]) ([]) _ _ _ _ _ _ _ _ _ rfl (COk.of (out:=defScope s_called_names) (N:=["rules"]) rfl rfl (by decide +kernel)) (@pi_list _ _ _ _ (pv 0)) (fun _ _ _=>(@pg_name _ _ (0) _ (show List.Nodup (["rule"]:List Str) by decide +kernel) rfl (Or.inl rfl) (by first | exact .inl rfl | exact .inr rfl | assumption))) (fun _ _ _=>(@pifs_one _ _ _ (@pt_val _ _ _ (@pe_callB _ _ _ _ _ _ _ _ _ (call_isiCK (K:=K) rfl) rfl b_isinstance bo_isinstance (@pa_cons _ _ _ _ _ (pv 0) (@pa_cons _ _ _ _ _ (@pe_glob _ _ (.ref C_Call) _ _ rfl m_Call rfl (by decide)) pa_nil (by rfl)) (by rfl)) (by decide) (by decide) (by rfl) (by rfl)) (by intro _; rfl)))) (fun _ _ _=>(@pe_fldK _ (K) _ _ _ _ rfl (pv 0) rfl)) (by intro _; rfl)))),?_⟩
 rw [st_called_names]
 walk_at "sv"
 refine IlR.go (SqL.of hl) ?_
 refine CmpR.filt (fun v=>(nameV H v).isSome) (fun v=>(nameV H v).getD .non) itl (by rw [ru.len]; exact len) (fun H' s=>SqL.of (s _ _ hl)) (fun x H' Q' hx sm k=>?_) (fun x H' Q' hx hp sm k=>?_) fun D H' nD sm hD=>?_
 ·obtain ⟨i,hi⟩:=List.getElem?_of_mem hx
  obtain ⟨u,_,r⟩:=All2.at ru hi
  have e:=nameV_at r
  obtain ⟨a,rfl,r⟩:=r
  obtain ⟨t,ty,kt⟩:=T.tyOf (r.same sm)
  walk_at "sv"
  refine ⟨_,_,t,_,rfl,ty,kt,?_⟩
  have e2:(callOf (u.1,u.2)).isSome=(nameV H (.ref a)).isSome:=by rw [e,Option.isSome_map]
  rw [e2]
  exact ⟨_,rfl,k H' (Same.refl _)⟩
 ·obtain ⟨i,hi⟩:=List.getElem?_of_mem hx
  obtain ⟨u,_,r⟩:=All2.at ru hi
  have e:=nameV_at r
  obtain ⟨a,rfl,dx,r⟩:=r
  obtain ⟨r',p⟩:=u
  have ha:=sm _ _ r
  walk_at "sv"
  cases r' with
  | word w=>rw [e] at hp; cases hp
  | back=>rw [e] at hp; cases hp
  | call n =>
   refine FldR.go ha T.cls_Call T.nn (look_two s_box_name.symm _ _) ?_
   have:=k H' (Same.refl _)
   rw [e] at this
   exact this
 ·rw [names_calls ru] at hD
  exact q D H' nD sm hD
theorem look_in {ps:List (Str×V)}{p:Str×V}(nd:(ps.map (·.1)).Nodup)(h:p∈ps):ps.lookup p.1=some p.2:=by
 induction ps with
 | nil=>cases h
 | cons q r ih =>
  rw [List.map_cons,List.nodup_cons] at nd
  rw [List.lookup_cons]
  rcases List.mem_cons.mp h with rfl | h
  ·rw [beq_self_eq_true]
  ·have ne:p.1≠q.1:=fun e=>nd.1 (e▸List.mem_map_of_mem h)
   rw [beq_eq_false_iff_ne.mpr ne]
   exact ih nd.2 h
theorem look_no {ps:List (Str×V)}{z:Str}(h:z∉ps.map (·.1)):ps.lookup z=none:=by
 induction ps with
 | nil=>rfl
 | cons q r ih =>
  rw [List.map_cons,List.mem_cons,not_or] at h
  rw [List.lookup_cons,beq_eq_false_iff_ne.mpr h.1]
  exact ih h.2
theorem look_yes {ps:List (Str×V)}{z:Str}(nd:(ps.map (·.1)).Nodup)(h:z∈ps.map (·.1)):∃ v,(z,v)∈ps∧ps.lookup z=some v:=by
 obtain ⟨p,hp,rfl⟩:=List.mem_map.mp h
 exact ⟨p.2,hp,look_in nd hp⟩
theorem look_is {ps:List (Str×V)}(nd:(ps.map (·.1)).Nodup)(z:Str):(ps.lookup z).isSome=decide (z∈ps.map (·.1)):=by
 by_cases h:z∈ps.map (·.1)
 ·obtain ⟨v,_,e⟩:=look_yes nd h
  rw [e,decide_eq_true h]
  rfl
 ·rw [look_no h,decide_eq_false h]
  rfl
theorem nodup_take {zs:List Str}(nd:zs.Nodup){i:Nat}{z:Str}(h:zs[i]?=some z):z∉zs.take i:=fun hm=>by
 obtain ⟨j,hj⟩:=List.getElem?_of_mem hm
 rw [List.getElem?_take] at hj
 split at hj
 ·have lt:=(List.getElem?_eq_some_iff.mp h).1
  have e:=(List.getElem?_inj lt nd).mp (h.trans hj.symm)
  omega
 ·cases hj
abbrev Chs:=List (Str×List Ru)
def ChAt (C_Word C_Back C_Call:Addr)(H:Hp)(p:Str×V)(c:Str×List Ru):Prop:=p.1=c.1∧c.2.length≤1000∧∃ l rs,p.2=.ref l∧H l=some (.lst rs)∧RusAt C_Word C_Back C_Call H rs c.2
theorem ChAt.same {H H':Hp}{p:Str×V}{c:Str×List Ru}(h:ChAt C_Word C_Back C_Call H p c)(s:Same H H'):ChAt C_Word C_Back C_Call H' p c:=by
 obtain ⟨e,n,l,rs,e2,hl,r⟩:=h
 exact ⟨e,n,l,rs,e2,s _ _ hl,r.same s⟩
def ChsAt (C_Word C_Back C_Call:Addr)(H:Hp)(ps:List (Str×V))(cs:Chs):Prop:=All2 (ChAt C_Word C_Back C_Call H) ps cs
theorem ChsAt.same {H H':Hp}{ps:List (Str×V)}{cs:Chs}(h:ChsAt C_Word C_Back C_Call H ps cs)(s:Same H H'):ChsAt C_Word C_Back C_Call H' ps cs:=All2.imp h fun _ _ r=>r.same s
theorem ChsAt.keys {H:Hp}{ps:List (Str×V)}{cs:Chs}(h:ChsAt C_Word C_Back C_Call H ps cs):ps.map (·.1)=cs.map (·.1):=by
 induction h with
 | nil=>rfl
 | cons h _ ih=>rw [List.map_cons,List.map_cons,h.1,ih]
theorem ChsAt.look {H:Hp}{ps:List (Str×V)}{cs:Chs}{c:Str×List Ru}(h:ChsAt C_Word C_Back C_Call H ps cs)(nd:(cs.map (·.1)).Nodup)(hc:c∈cs):∃ l rs,ps.lookup c.1=some (.ref l)∧H l=some (.lst rs)∧RusAt C_Word C_Back C_Call H rs c.2∧c.2.length≤1000:=by
 obtain ⟨i,hi⟩:=List.getElem?_of_mem hc
 obtain ⟨p,hp,e,n,l,rs,e2,hl,r⟩:=All2.ix h hi
 refine ⟨l,rs,?_,hl,r,n⟩
 rw [← e,← e2]
 exact look_in (h.keys▸nd) (List.mem_of_getElem? hp)
def Closed (cs:Chs):Prop:=∀ c∈cs,∀ n∈callsOf c.2,n∈cs.map (·.1)
theorem ChAt.upd {H:Hp}{d:Addr}{o:HO}{kvs:List (Key×V)}{p:Str×V}{c:Str×List Ru}(h:ChAt C_Word C_Back C_Call H p c)(hd:H d=some (.dK kvs)):ChAt C_Word C_Back C_Call (L2.upd H d o) p c:=by
 obtain ⟨e,n,l,rs,e2,hl,r⟩:=h
 refine ⟨e,n,l,rs,e2,?_,All2.imp r fun v u ru=>?_⟩
 ·rw [upd_ne (ne_of hl hd (by intro z; cases z))]
  exact hl
 ·obtain ⟨a,ea,dx,ha⟩:=ru
  refine ⟨a,ea,dx,?_⟩
  rw [upd_ne (ne_of ha hd (by intro z; cases z))]
  exact ha
def rdy (ks:List Str)(c:Str×List Ru):Bool:=!decide (c.1∈ks) && decide (∀ n∈callsOf c.2,n∈ks)
def readyOf (cs:Chs)(ks:List Str):List Str:=(cs.filter (rdy ks)).map (·.1)
theorem readyOf_take {cs:Chs}{ks:List Str}{i:Nat}{c:Str×List Ru}(h:cs[i]?=some c):readyOf (cs.take (i+1)) ks=readyOf (cs.take i) ks++if rdy ks c=true then [c.1] else []:=by
 unfold readyOf
 rw [List.take_add_one,h,List.filter_append,List.map_append,Option.toList_some]
 congr 1
 cases hp:rdy ks c <;> simp [List.filter,hp]
theorem readyOf_le (cs:Chs)(ks:List Str):(readyOf cs ks).length≤cs.length:=by
 unfold readyOf
 rw [List.length_map]
 exact List.length_filter_le _ _
def NamesOk (cs:Chs):Prop:=(cs.map (·.1)).Nodup∧Closed cs∧cs.length≤900∧∀ c∈cs,PyData.strOk c.1=true
def notIn (ks:List Str):V→Bool
 | .str z=>!decide (z∈ks)
 | _=>true
theorem notIn_list (ks:List Str):∀ zs:List Str,((zs.map V.str).filter (notIn ks)).map (fun v=>v)=(zs.filter fun z=>!decide (z∈ks)).map V.str
 | []=>rfl
 | z::zs=>by
  have ih:=notIn_list ks zs
  rw [List.map_cons,List.filter_cons,List.filter_cons]
  show List.map _ (if (!decide (z∈ks))=true then _ else _)=_
  split
  ·rw [List.map_cons,List.map_cons,ih]
  ·exact ih
def spReady (C_Word C_Back C_Call:Addr):Sp:=fun vs H Q _=>∃ (d ld:Addr) (o:Obj) (ps ls:List (Str×V)) (cs:Chs),vs=[.ref d,.ref ld]∧H d=some (.frz o (.dK (Dk ps)))∧ChsAt C_Word C_Back C_Call H ps cs∧NamesOk cs∧DicS H ld ls∧(ls.map (·.1)).Nodup ∧
 ∀ D H',H D=none→Same H H'→H' D=some (.lst ((readyOf cs (ls.map (·.1))).map V.str))→Q (.ref D) H'
theorem ok_ready (F:Fun K "ready_names" "ready_names" s_ready_names f fd)(g_called_names:Fn P w K mg base "called_names" 1 ["rules"] (spCalled C_Word C_Back C_Call)):FnOk P w K mg base CX0 2 f fd ["chains","lengths"] (spReady C_Word C_Back C_Call):=by
 refine F.ok sc_ready_names (fun vs H Q E h=>?_) (fun cdv A outer s H vs Q E hr h=>?_)
 ·obtain ⟨_,_,_,_,_,_,rfl,_⟩:=h
  rfl
 obtain ⟨d,ld,o,ps,ls,cs,rfl,hd,hc,⟨nd,cl,le,oks⟩,hld,lnd,q⟩:=h
 have mem_ok:∀ c∈cs,∀ n∈callsOf c.2,PyData.strOk n=true:=fun c hc n hn=>by
  obtain ⟨c',hc',e⟩:=List.mem_map.mp (cl c hc n hn)
  exact e▸oks c' hc'
 refine ⟨_,(@pss_cons _ _ _ _ _ (@ps_set _ _ (2) _ _ _ _ sc_ready_names.nd rfl (Or.inl rfl) (@pe_lst _ _ _ _ pa_nil) (by rfl) (by first | exact .inl rfl | exact .inr rfl | assumption)) (@pss_cons _ _ _ _ _ (@ps_for _ _ _ _ _ _ _ _ PassesOwn.never rfl (@pi_dict _ _ _ _ (pv 0)) (@pg_name _ _ (3) _ sc_ready_names.nd rfl (Or.inl rfl) (by first | exact .inl rfl | exact .inr rfl | assumption)) (@pss_cons _ _ _ _ _ (@ps_setComp _ _ (["called"]) ([1]) _ _ _ _ _ _ _ _ _ (4) _ _ _ rfl (COk.of (out:=defScope s_ready_names) (N:=["chains","lengths","ready","name","lacking"]) rfl rfl (by decide +kernel)) sc_ready_names.nd rfl (Or.inl rfl) (@pi_list _ _ _ _ (@pe_fn _ _ _ _ _ _ _ _ _ _ _ g_called_names hr (by decide) rfl (@pa_cons _ _ _ _ _ (@pe_dget _ _ _ _ _ _ (hu_of hr) (pv 0) (pv 3) (fun _ _=>rfl)) pa_nil (by rfl)) (by decide) (by rfl) (by rfl))) (fun _ _ _=>(@pg_name _ _ (0) _ (show List.Nodup (["called","lengths"]:List Str) by decide +kernel) rfl (Or.inl rfl) (by first | exact .inl rfl | exact .inr rfl | assumption))) (fun _ _ _=>(@pifs_one _ _ _ (@pt_cmp _ _ _ _ _ _ (@pc_dnotin _ _ _ _ _ (hu_of hr) (pv 0) (pv 1)) (by with_unfolding_all rfl)))) (fun _ _ _=>(pv 0)) (by rfl) (by first | exact .inl rfl | exact .inr rfl | assumption) (by intro _; rfl)) (@pss_one _ _ _ (@ps_if _ _ _ _ _ _ _ _ (@PW.pt _ _ _ (@pw_and _ _ _ _ _ _ _ (@pt_cmp _ _ _ _ _ _ (@pc_dnotin _ _ _ _ _ (hu_of hr) (pv 3) (pv 1)) (by with_unfolding_all rfl)) (@pw_and1 _ _ _ _ (@pt_cmpR _ _ _ _ _ _ _ _ (op_eqD hr.units) (pv 4) (@pe_lst _ _ _ _ pa_nil) (nomark _))))) (@pss_one _ _ _ (@ps_expr _ _ _ _ (@pe_bm _ _ _ _ _ _ _ _ _ _ _ _ PySem.F.plainAttrs_list PySem.F.slot_list_append PySem.F.type_list_append mt_append (pv 2) (@pa_cons _ _ _ _ _ (pv 3) pa_nil (by rfl)) (by rfl) (by rfl) (by rfl) (by rfl) (by rfl)) (by rfl))) pss_nil))) (by intro _; rfl)) (@pss_one _ _ _ (@ps_ret _ _ _ _ (pv 2))))),?_⟩
 rw [st_ready_names]
 walk_at "sv"
 refine LstR.go (by simp) fun r nr=>?_
 have s1:=same_new nr (.lst [])
 walk_at "sv"
 refine ⟨d,_,rfl,.inl ⟨o,s1 _ _ hd,?_⟩⟩
 refine ForR.items itd (fun i σ H'=>Same H H'∧H' r=some (.lst ((readyOf (cs.take i) (ls.map (·.1))).map V.str))∧∃ y z,σ=[some (.ref d),some (.ref ld),some (.ref r),y,z]) ⟨s1,upd_same,_,_,rfl⟩ (fun i σ H' pv=>pv.1 _ _ hd) (fun i x σ H3 hx pv=>?_) (fun σ H3 pv=>?_)
 ·obtain ⟨sm,hr3,y1,z1,rfl⟩:=pv
  rw [Dk_keys,hc.keys,List.map_map,List.getElem?_map] at hx
  obtain ⟨c,ec,rfl⟩:=Option.map_eq_some_iff.mp hx
  have mem:=List.mem_of_getElem? ec
  obtain ⟨l,rs,lk,hl,ru,n⟩:=(hc.same sm).look nd mem
  show gName _ _ _ _ _
  walk_at "sv"
  refine dgetR_go (.inr ⟨o,sm _ _ hd⟩) lk ?_
  refine ⟨l,rs,c.2,rfl,hl,ru,n,fun D H4 nD s4 hD=>?_⟩
  refine IlR.go (SqL.of hD) ?_
  have cle:(callsOf c.2).length≤1000:=Nat.le_trans (List.length_filterMap_le _ _) n
  refine CmpR.filt (notIn (ls.map (·.1))) (fun v=>v) itl (by rw [List.length_map]; exact cle) (fun H' s=>SqL.of (s _ _ hD)) (fun x H' Q' hx s5 k=>?_) (fun x H' Q' hx hp s5 k=>?_) fun D2 H' nD2 s5 hD2=>?_
  ·obtain ⟨z,hz,rfl⟩:=List.mem_map.mp hx
   walk_at "sv"
   refine dinR_go (((hld.same sm).same s4).same s5) ?_
   rw [if_pos rfl,look_is lnd]
   walk_at "sv"
   exact k H' (Same.refl _)
  ·obtain ⟨z,hz,rfl⟩:=List.mem_map.mp hx
   walk_at "sv"
   exact k H' (Same.refl _)
  ·rw [notIn_list] at hD2
   have sf:=(sm.trans s4).trans s5
   have hr5:=s5 _ _ (s4 _ _ hr3)
   walk_at "sv"
   refine dinR_go (hld.same sf) ?_
   rw [if_pos rfl,look_is lnd]
   have fin:∀ (H6:Hp) (y z:Option V),Same H' H6→(rdy (ls.map (·.1)) c=false)→Same H H6∧H6 r=some (.lst ((readyOf (cs.take (i+1)) (ls.map (·.1))).map V.str))∧∃ y z,[some (V.ref d),some (.ref ld),some (.ref r),some (.str c.1),some (.ref D2)]=[some (V.ref d),some (.ref ld),some (.ref r),y,z]:=fun H6 y z s6 hf=>by
    refine ⟨sf.trans s6,?_,_,_,rfl⟩
    rw [readyOf_take ec,hf,if_neg Bool.false_ne_true,List.append_nil]
    exact s6 _ _ hr5
   by_cases hm:c.1∈ls.map (·.1)
   ·rw [decide_eq_true hm]
    walk_at "sv"
    refine fin H' none none (Same.refl _) ?_
    unfold rdy
    rw [decide_eq_true hm]
    rfl
   ·rw [decide_eq_false hm]
    walk_at "sv"
    refine LstR.go (by simp) fun e ne=>?_
    have s6:=same_new ne (.lst [])
    have oke:∀ z∈(callsOf c.2).filter fun z=>!decide (z∈ls.map (·.1)),PyData.strOk z=true:=fun z hz=>mem_ok c mem z (List.mem_filter.mp hz).1
    refine eqNil_go (s6 _ _ hD2) upd_same oke ?_
    rw [if_neg Bool.false_ne_true]
    have iff:((callsOf c.2).filter fun z=>!decide (z∈ls.map (·.1)))=[]↔∀ n∈callsOf c.2,n∈ls.map (·.1):=by
     rw [List.filter_eq_nil_iff]
     refine ⟨fun h n hn=>?_,fun h n hn=>?_⟩
     ·have:=h n hn
      simpa using this
     ·have:=h n hn
      simpa using this
    by_cases he:((callsOf c.2).filter fun z=>!decide (z∈ls.map (·.1)))=[]
    ·rw [decide_eq_true he]
     walk_at "sv"
     have hr6:=s6 _ _ hr5
     refine ⟨.inl ⟨rfl,_,SqL.of hr6⟩,?_⟩
     have lr:=readyOf_le (cs.take i) (ls.map (·.1))
     rw [List.length_take] at lr
     refine app_go hr6 (by rw [List.length_map]; omega) ?_
     walk_at "sv"
     have rd:rdy (ls.map (·.1)) c=true:=by
      unfold rdy
      rw [decide_eq_false hm,decide_eq_true (iff.mp he)]
      rfl
     refine ⟨(sf.trans s6).put nr,?_,_,_,rfl⟩
     rw [upd_same,readyOf_take ec,rd,if_pos rfl,List.map_append]
     rfl
    ·rw [decide_eq_false he]
     walk_at "sv"
     refine fin _ none none s6 ?_
     unfold rdy
     rw [decide_eq_false fun h=>he (iff.mpr h),Bool.and_false]
 ·obtain ⟨sm,hr3,y1,z1,rfl⟩:=pv
  rw [List.length_map] at hr3
  have e:(Dk ps).length=cs.length:=by
   unfold Dk
   rw [List.length_map]
   exact All2.len hc
  rw [e,List.take_length] at hr3
  walk_at "sv"
  exact q r H3 nr sm hr3
theorem all_in {cs:Chs}{rank:Str→Nat}{ks:List Str}(dn:∀ c∈cs,∀ n∈callsOf c.2,rank n<rank c.1)(cl:Closed cs)(h:readyOf cs ks=[]):∀ m,∀ c∈cs,rank c.1<m→c.1∈ks:=by
 intro m
 induction m with
 | zero=>intro c _ lt; omega
 | succ m ih =>
  intro c hc lt
  refine Classical.byContradiction fun no=>?_
  have all:∀ n∈callsOf c.2,n∈ks:=fun n hn=>by
   obtain ⟨c',hc',e⟩:=List.mem_map.mp (cl c hc n hn)
   have:=dn c hc n hn
   rw [← e]
   exact ih c' hc' (by rw [e]; omega)
  have rd:rdy ks c=true:=by
   unfold rdy
   rw [decide_eq_false no,decide_eq_true all]
   rfl
  have:c.1∈readyOf cs ks:=List.mem_map_of_mem (List.mem_filter.mpr ⟨hc,rd⟩)
  rw [h] at this
  cases this
def LsOk (cs:Chs)(len:Str→Int)(ls:List (Str×V)):Prop:=(ls.map (·.1)).Nodup∧∀ p∈ls,p.1∈cs.map (·.1)∧p.2=.int (len p.1)
theorem LsOk.le {cs:Chs}{len:Str→Int}{ls:List (Str×V)}(h:LsOk cs len ls):ls.length≤cs.length:=by
 have:=List.Nodup.length_le_of_subset h.1 (l₂:=cs.map (·.1)) fun z hz=>by
  obtain ⟨p,hp,rfl⟩:=List.mem_map.mp hz
  exact (h.2 p hp).1
 rw [List.length_map,List.length_map] at this
 exact this
theorem LsOk.look {cs:Chs}{len:Str→Int}{ls:List (Str×V)}{z:Str}(h:LsOk cs len ls)(hz:z∈ls.map (·.1)):ls.lookup z=some (.int (len z)):=by
 obtain ⟨v,hv,e⟩:=look_yes h.1 hz
 rw [e]
 exact congrArg some (h.2 _ hv).2
theorem LsOk.snoc {cs:Chs}{len:Str→Int}{ls:List (Str×V)}{z:Str}(h:LsOk cs len ls)(hz:z∈cs.map (·.1))(no:z∉ls.map (·.1)):LsOk cs len (ls++[(z,.int (len z))]):=by
 refine ⟨?_,fun p hp=>?_⟩
 ·rw [List.map_append]
  exact nd_snoc h.1 no
 ·rcases List.mem_append.mp hp with hp | hp
  ·exact h.2 p hp
  ·obtain rfl:=List.mem_singleton.mp hp
   exact ⟨hz,rfl⟩
def lenV (len:Str→Int):V→V
 | .str z=>.int (len z)
 | v=>v
theorem lenV_list (len:Str→Int)(zs:List Str):(zs.map V.str).map (lenV len)=(zs.map len).map V.int:=by
 rw [List.map_map,List.map_map]
 rfl
def dsize (H:Hp)(ld:Addr):Nat:=match H ld with
 | some (.dK kvs)=>kvs.length
 | _=>0
theorem dsize_at {H:Hp}{ld:Addr}{ls:List (Str×V)}(h:H ld=some (.dK (Dk ls))):dsize H ld=ls.length:=by
 unfold dsize
 rw [h]
 unfold Dk
 exact List.length_map _
theorem readyOf_nodup {cs:Chs}(nd:(cs.map (·.1)).Nodup)(ks:List Str):(readyOf cs ks).Nodup:=nd.sublist (List.filter_sublist.map _)
theorem readyOf_mem {cs:Chs}{ks:List Str}{z:Str}(h:z∈readyOf cs ks):∃ c∈cs,c.1=z∧z∉ks∧∀ n∈callsOf c.2,n∈ks:=by
 obtain ⟨c,hc,rfl⟩:=List.mem_map.mp h
 obtain ⟨hc,hr⟩:=List.mem_filter.mp hc
 unfold rdy at hr
 rw [Bool.and_eq_true,Bool.not_eq_true',decide_eq_false_iff_not,decide_eq_true_eq] at hr
 exact ⟨c,hc,rfl,hr.1,hr.2⟩
structure LenG (cs:Chs)(G:Str→Bool)(len:Str→Int)(rank:Str→Nat):Prop where
 up:∀ c∈cs,(∀ n∈callsOf c.2,G n=true)→G c.1=true∧len c.1=(c.2.length:Int)+((callsOf c.2).map len).sum
 dn:∀ c∈cs,G c.1=true→∀ n∈callsOf c.2,G n=true∧rank n<rank c.1
theorem all_inG {cs:Chs}{G:Str→Bool}{rank:Str→Nat}{ks:List Str}(dn:∀ c∈cs,G c.1=true→∀ n∈callsOf c.2,G n=true∧rank n<rank c.1)(cl:Closed cs)(h:readyOf cs ks=[]):∀ m,∀ c∈cs,G c.1=true→rank c.1<m→c.1∈ks:=by
 intro m
 induction m with
 | zero=>intro c _ _ lt; omega
 | succ m ih =>
  intro c hc g lt
  refine Classical.byContradiction fun no=>?_
  have all:∀ n∈callsOf c.2,n∈ks:=fun n hn=>by
   obtain ⟨c',hc',e⟩:=List.mem_map.mp (cl c hc n hn)
   obtain ⟨g',lt'⟩:=dn c hc g n hn
   rw [← e] at g' lt' ⊢
   exact ih c' hc' g' (by omega)
  have rd:rdy ks c=true:=by
   unfold rdy
   rw [decide_eq_false no,decide_eq_true all]
   rfl
  have:c.1∈readyOf cs ks:=List.mem_map_of_mem (List.mem_filter.mpr ⟨hc,rd⟩)
  rw [h] at this
  cases this
def gdOf (cs:Chs)(G:Str→Bool):Chs:=cs.filter fun c=>G c.1
theorem gd_mem {cs:Chs}{G:Str→Bool}{z:Str}(h:z∈(gdOf cs G).map (·.1)):G z=true∧z∈cs.map (·.1):=by
 obtain ⟨c,hc,rfl⟩:=List.mem_map.mp h
 obtain ⟨h1,h2⟩:=List.mem_filter.mp hc
 exact ⟨h2,List.mem_map_of_mem h1⟩
theorem gd_in {cs:Chs}{G:Str→Bool}{c:Str×List Ru}(h:c∈cs)(g:G c.1=true):c.1∈(gdOf cs G).map (·.1):=List.mem_map_of_mem (List.mem_filter.mpr ⟨h,g⟩)
theorem gd_le (cs:Chs)(G:Str→Bool):(gdOf cs G).length≤cs.length:=List.length_filter_le _ _
theorem LsOk.g {cs:Chs}{G:Str→Bool}{len:Str→Int}{ls:List (Str×V)}(h:LsOk (gdOf cs G) len ls){z:Str}(hz:z∈ls.map (·.1)):G z=true:=by
 obtain ⟨p,hp,rfl⟩:=List.mem_map.mp hz
 exact (gd_mem (h.2 p hp).1).1
def spLengthsR (C_Word C_Back C_Call:Addr):Sp:=fun vs H Q _=>∃ (d:Addr) (o:Obj) (ps:List (Str×V)) (cs:Chs) (G:Str→Bool) (len:Str→Int) (rank:Str→Nat),vs=[.ref d]∧H d=some (.frz o (.dK (Dk ps)))∧ChsAt C_Word C_Back C_Call H ps cs∧NamesOk cs∧LenG cs G len rank ∧
 ∀ ld ls H',H ld=none→Same H H'→H' ld=some (.dK (Dk ls))→LsOk (gdOf cs G) len ls→(∀ c∈cs,c.1∈ls.map (·.1)↔G c.1=true)→Q (.ref ld) H'
theorem ok_lengthsR (F:Fun K "chain_lengths" "chain_lengths" s_chain_lengths f fd)(g_called_names:Fn P w K mg base "called_names" 1 ["rules"] (spCalled C_Word C_Back C_Call))(g_ready_names:Fn P w K mg base "ready_names" 2 ["chains","lengths"] (spReady C_Word C_Back C_Call))(b_len:mg "len"=none)(b_sum:mg "sum"=none) :
  FnOk P w K mg base CX0 3 f fd ["chains"] (spLengthsR C_Word C_Back C_Call):=by
 refine F.ok sc_chain_lengths (fun vs H Q E h=>?_) (fun cdv A outer s H vs Q E hr h=>?_)
 ·obtain ⟨_,_,_,_,_,_,_,rfl,_⟩:=h
  rfl
 obtain ⟨d,o,ps,cs,G,len,rank,rfl,hd,hc,nok,lens,q⟩:=h
 obtain ⟨nd,cl,le,oks⟩:=id nok
 refine ⟨_,(@pss_cons _ _ _ _ _ (@ps_set _ _ (1) _ _ _ _ sc_chain_lengths.nd rfl (Or.inr rfl) pe_dnewK (by rfl) (by first | exact .inl rfl | exact .inr rfl | assumption)) (@pss_cons _ _ _ _ _ (@ps_set _ _ (2) _ _ _ _ sc_chain_lengths.nd rfl (Or.inl rfl) (@pe_fn _ _ _ _ _ _ _ _ _ _ _ g_ready_names hr (by decide) rfl (@pa_cons _ _ _ _ _ (pv 0) (@pa_cons _ _ _ _ _ (pv 1) pa_nil (by rfl)) (by rfl)) (by decide) (by rfl) (by rfl)) (by rfl) (by first | exact .inl rfl | exact .inr rfl | assumption)) (@pss_cons _ _ _ _ _ (@ps_while _ _ _ _ _ _ PassesOwn.never (@pt_cmpR _ _ _ _ _ _ _ _ (op_neD hr.units) (pv 2) (@pe_lst _ _ _ _ pa_nil) (nomark _)) (@pss_cons _ _ _ _ _ (@ps_for _ _ _ _ _ _ _ _ PassesOwn.never rfl (@pi_list _ _ _ _ (pv 2)) (@pg_name _ _ (3) _ sc_chain_lengths.nd rfl (Or.inl rfl) (by first | exact .inl rfl | exact .inr rfl | assumption)) (@pss_cons _ _ _ _ _ (@ps_set _ _ (4) _ _ _ _ sc_chain_lengths.nd rfl (Or.inl rfl) (@pe_dget _ _ _ _ _ _ (hu_of hr) (pv 0) (pv 3) (fun _ _=>rfl)) (by rfl) (by first | exact .inl rfl | exact .inr rfl | assumption)) (@pss_one _ _ _ (@ps_dput _ _ _ _ _ _ _ _ _ (hu_of hr) (pv 1) (pv 3) (@pe_op _ _ _ _ _ _ _ _ op_add (@pe_callB _ _ _ _ _ _ _ _ _ call_lenR rfl b_len bo_len (@pa_cons _ _ _ _ _ (pv 4) pa_nil (by rfl)) (by decide) (by decide) (by rfl) (by rfl)) (@pe_callB _ _ _ _ _ _ _ _ _ (call_sumR (K:=K) rfl rfl) rfl b_sum bo_sum (@pa_cons _ _ _ _ _ (@pe_comp _ _ (["called"]) ([1]) _ _ _ _ _ _ _ _ _ rfl (COk.of (out:=defScope s_chain_lengths) (N:=["chains","lengths","ready","name","rules"]) rfl rfl (by decide +kernel)) (@pi_list _ _ _ _ (@pe_fn _ _ _ _ _ _ _ _ _ _ _ g_called_names hr (by decide) rfl (@pa_cons _ _ _ _ _ (pv 4) pa_nil (by rfl)) (by decide) (by rfl) (by rfl))) (fun _ _ _=>(@pg_name _ _ (0) _ (show List.Nodup (["called","lengths"]:List Str) by decide +kernel) rfl (Or.inl rfl) (by first | exact .inl rfl | exact .inr rfl | assumption))) (fun _ _ _=>pifs_nil) (fun _ _ _=>(@pe_dget _ _ _ _ _ _ (hu_of hr) (pv 1) (pv 0) (fun _ _=>rfl))) (by intro _; rfl)) pa_nil (by rfl)) (by decide) (by decide) (by rfl) (by rfl))) rfl))) (by intro _; rfl)) (@pss_one _ _ _ (@ps_set _ _ (2) _ _ _ _ sc_chain_lengths.nd rfl (Or.inl rfl) (@pe_fn _ _ _ _ _ _ _ _ _ _ _ g_ready_names hr (by decide) rfl (@pa_cons _ _ _ _ _ (pv 0) (@pa_cons _ _ _ _ _ (pv 1) pa_nil (by rfl)) (by rfl)) (by decide) (by rfl) (by rfl)) (by rfl) (by first | exact .inl rfl | exact .inr rfl | assumption))))) (@pss_one _ _ _ (@ps_ret _ _ _ _ (pv 1)))))),?_⟩
 rw [st_chain_lengths]
 walk_at "sv"
 intro ld nld
 have s1:=same_new nld (.dK [])
 walk_at "sv"
 refine ⟨d,ld,o,ps,[],cs,rfl,s1 _ _ hd,hc.same s1,nok,.inl upd_same,List.nodup_nil,fun r H2 nr s2 hr2=>?_⟩
 walk_at "sv"
 refine while_go (fun σ H'=>Same H H'∧∃ (ls:List (Str×V)) (r:Addr) (y z:Option V),σ=[some (.ref d),some (.ref ld),some (.ref r),y,z]∧H' ld=some (.dK (Dk ls))∧LsOk (gdOf cs G) len ls∧H' r=some (.lst ((readyOf cs (ls.map (·.1))).map V.str))) (fun _ H'=>cs.length - dsize H' ld)
  ⟨s1.trans s2,[],r,none,none,rfl,s2 _ _ upd_same,⟨List.nodup_nil,fun _ h=>by cases h⟩,hr2⟩ fun σ H3 pv=>?_
 obtain ⟨sm,ls,r,y,z,rfl,hld,lok,hr3⟩:=pv
 have okr:∀ z∈readyOf cs (ls.map (·.1)),PyData.strOk z=true:=fun z hz=>by
  obtain ⟨c,hc,rfl,_⟩:=readyOf_mem hz
  exact oks c hc
 walk_at "sv"
 refine LstR.go (by simp) fun e ne=>?_
 have s4:=same_new ne (.lst [])
 refine eqNil_go (s4 _ _ hr3) upd_same okr ?_
 rw [if_pos rfl]
 have hld4:=s4 _ _ hld
 have sm4:=sm.trans s4
 have hr4:=s4 _ _ hr3
 have ds:dsize H3 ld=ls.length:=dsize_at hld
 rw [ds]
 generalize upd H3 e (.lst [])=H4 at *
 by_cases emp:readyOf cs (ls.map (·.1))=[]
 ·rw [decide_eq_true emp]
  refine ⟨_,rfl,WhR.on (fun c=>by cases c) fun _=>?_⟩
  walk_at "sv"
  exact q ld ls H4 nld sm4 hld4 lok fun c hc=>⟨fun h=>lok.g h,fun g=>all_inG lens.dn cl emp _ c hc g (Nat.lt_succ_self _)⟩
 ·rw [decide_eq_false emp]
  refine ⟨_,rfl,WhR.on (fun _=>?_) fun c=>by cases c⟩
  have lle:=Nat.le_trans lok.le (gd_le cs G)
  generalize hrs:readyOf cs (ls.map (·.1))=zs at *
  have znd:zs.Nodup:=hrs▸readyOf_nodup nd _
  walk_at "sv"
  refine IlR.go (SqL.of hr4) ?_
  refine ForR.items itl (fun i σ H'=>Same H H'∧∃ (ls':List (Str×V)) (y z:Option V),σ=[some (.ref d),some (.ref ld),some (.ref r),y,z]∧H' ld=some (.dK (Dk ls'))∧LsOk (gdOf cs G) len ls'∧ls'.map (·.1)=ls.map (·.1)++zs.take i∧H' r=some (.lst (zs.map V.str)))
   ⟨sm4,ls,y,z,rfl,hld4,lok,by rw [List.take_zero,List.append_nil],hr4⟩ (fun i σ H' pv=>SqL.of (by obtain ⟨_,_,_,_,_,_,_,_,h⟩:=pv; exact h)) (fun i x σ H5 hx pv=>?_) (fun σ H5 pv=>?_)
  ·obtain ⟨sm5,ls',y5,z5,rfl,hld5,lok5,keys,hr5⟩:=pv
   rw [List.getElem?_map] at hx
   obtain ⟨n,en,rfl⟩:=Option.map_eq_some_iff.mp hx
   obtain ⟨c,hcm,rfl,nin,call⟩:=readyOf_mem (show n∈readyOf cs (ls.map (·.1)) from hrs▸List.mem_of_getElem? en)
   obtain ⟨l,rs,lk,hl,ru,nl⟩:=(hc.same sm5).look nd hcm
   have sub:∀ m∈callsOf c.2,m∈ls'.map (·.1):=fun m hm=>by
    rw [keys]
    exact List.mem_append_left _ (call m hm)
   have new:c.1∉ls'.map (·.1):=by
    rw [keys,List.mem_append,not_or]
    exact ⟨nin,nodup_take znd en⟩
   show gName _ _ _ _ _
   walk_at "sv"
   refine dgetR_go (.inr ⟨o,sm5 _ _ hd⟩) lk ?_
   walk_at "sv"
   refine LenR.lst (SqL.of hl) ?_
   walk_at "sv"
   refine ⟨l,rs,c.2,rfl,hl,ru,nl,fun D H6 nD s6 hD=>?_⟩
   refine IlR.go (SqL.of hD) ?_
   have cle:(callsOf c.2).length≤1000:=Nat.le_trans (List.length_filterMap_le _ _) nl
   refine CmpR.mapS (lenV len) itl (by rw [List.length_map]; exact cle) (fun H' s=>SqL.of (s _ _ hD)) (fun x H' Q' hx s7 k=>?_) fun D2 H7 nD2 s7 hD2=>?_
   ·obtain ⟨m,hm,rfl⟩:=List.mem_map.mp hx
    walk_at "sv"
    refine dgetR_go (.inl (s7 _ _ (s6 _ _ hld5))) (lok5.look (sub m hm)) ?_
    exact k H' (Same.refl _)
   ·rw [lenV_list] at hD2
    refine sumR_go (SqL.of hD2) ?_
    walk_at "sv"
    have hld7:=s7 _ _ (s6 _ _ hld5)
    have le5:=Nat.le_trans lok5.le (gd_le cs G)
    obtain ⟨gc,el⟩:=lens.up c hcm fun n hn=>lok5.g (sub n hn)
    refine dputR_go hld7 (look_no new) (by omega) ?_
    have ev:(rs.length:Int)+((callsOf c.2).map len).sum=len c.1:=by
     rw [el,ru.len]
    rw [ev]
    have hr7:=s7 _ _ (s6 _ _ hr5)
    refine ⟨((sm5.trans s6).trans s7).put nld,_,_,_,rfl,upd_same,lok5.snoc (gd_in hcm gc) new,?_,?_⟩
    ·rw [List.map_append,keys,List.take_add_one,en,List.append_assoc]
     rfl
    ·rw [upd_ne (ne_of hr7 hld7 (by intro z; cases z))]
     exact hr7
  ·obtain ⟨sm5,ls',y5,z5,rfl,hld5,lok5,keys,hr5⟩:=pv
   rw [List.length_map,List.take_length] at keys
   walk_at "sv"
   refine ⟨d,ld,o,ps,ls',cs,rfl,sm5 _ _ hd,hc.same sm5,nok,.inl hld5,lok5.1,fun r' H6 nr' s6 hr6=>?_⟩
   walk_at "sv"
   refine ⟨⟨sm5.trans s6,ls',r',_,_,rfl,s6 _ _ hld5,lok5,hr6⟩,?_⟩
   rw [dsize_at (s6 _ _ hld5)]
   have le5:=Nat.le_trans lok5.le (gd_le cs G)
   have l1:=congrArg List.length keys
   rw [List.length_map,List.length_append,List.length_map] at l1
   have pos:0<zs.length:=List.length_pos_iff.mpr emp
   omega
def spFirst:Sp:=fun vs H Q _=>∃ (l ld:Addr) (zs:List Str) (ls:List (Str×V)),vs=[.ref l,.ref ld]∧H l=some (.lst (zs.map V.str))∧zs.length≤1000∧DicS H ld ls∧(ls.map (·.1)).Nodup∧(∃ z∈zs,z∉ls.map (·.1))∧∀ z H',Same H H'→z∈zs→z∉ls.map (·.1)→Q (.str z) H'
theorem ok_first (F:Fun K "first_unmeasured" "first_unmeasured" s_first_unmeasured f fd):FnOk P w K mg base CX0 1 f fd ["names","lengths"] spFirst:=by
 refine F.ok sc_first_unmeasured (fun vs H Q E h=>?_) (fun cdv A outer s H vs Q E hr h=>?_)
 ·obtain ⟨_,_,_,_,rfl,_⟩:=h
  rfl
 obtain ⟨l,ld,zs,ls,rfl,hl,zl,hld,lnd,⟨z,hz,nz⟩,q⟩:=h
 refine ⟨_,(@pss_one _ _ _ (@ps_ret _ _ _ _ (@pe_ix _ _ _ _ _ _ _ ix_list (@pe_comp _ _ (["name"]) ([1]) _ _ _ _ _ _ _ _ _ rfl (COk.of (out:=defScope s_first_unmeasured) (N:=["names","lengths"]) rfl rfl (by decide +kernel)) (@pi_list _ _ _ _ (pv 0)) (fun _ _ _=>(@pg_name _ _ (0) _ (show List.Nodup (["name","lengths"]:List Str) by decide +kernel) rfl (Or.inl rfl) (by first | exact .inl rfl | exact .inr rfl | assumption))) (fun _ _ _=>(@pifs_one _ _ _ (@pt_cmp _ _ _ _ _ _ (@pc_dnotin _ _ _ _ _ (hu_of hr) (pv 0) (pv 1)) (by with_unfolding_all rfl)))) (fun _ _ _=>(pv 0)) (by intro _; rfl)) pe_int (fun _ _=>rfl)))),?_⟩
 rw [st_first_unmeasured]
 walk_at "sv"
 refine IlR.go (SqL.of hl) ?_
 refine CmpR.filt (notIn (ls.map (·.1))) (fun v=>v) itl (by rw [List.length_map]; exact zl) (fun H' s=>SqL.of (s _ _ hl)) (fun x H' Q' hx s5 k=>?_) (fun x H' Q' hx hp s5 k=>?_) fun D H' nD s5 hD=>?_
 ·obtain ⟨z,hz,rfl⟩:=List.mem_map.mp hx
  walk_at "sv"
  refine dinR_go (hld.same s5) ?_
  rw [if_pos rfl,look_is lnd]
  walk_at "sv"
  exact k H' (Same.refl _)
 ·obtain ⟨z,hz,rfl⟩:=List.mem_map.mp hx
  walk_at "sv"
  exact k H' (Same.refl _)
 ·rw [notIn_list] at hD
  cases e:zs.filter fun z=>!decide (z∈ls.map (·.1)) with
  | nil =>
   have:=(List.mem_filter (p:=fun z=>!decide (z∈ls.map (·.1)))).mpr ⟨hz,show (!decide (z∈ls.map (·.1)))=true by rw [decide_eq_false nz]; rfl⟩
   rw [e] at this
   cases this
  | cons y ys =>
   rw [e] at hD
   have m:y∈zs.filter fun z=>!decide (z∈ls.map (·.1)):=by rw [e]; exact List.mem_cons_self
   obtain ⟨m1,m2⟩:=List.mem_filter.mp m
   walk_at "sv"
   refine ixL_go (i:=0) (SqL.of hD) rfl ?_
   exact q y H' s5 m1 (by simpa using m2)
def CallsTo (cs:Chs)(a b:Str):Prop:=∃ c∈cs,c.1=a∧b∈callsOf c.2
structure RingOk (cs:Chs)(rs:List Str):Prop where
 ne:rs≠[]
 nd:rs.Nodup
 mem:∀ z∈rs,z∈cs.map (·.1)
 nx:∀ (i:Nat) (a b:Str),rs[i]?=some a→rs[i+1]?=some b→CallsTo cs a b
 cl:∀ a b,rs.getLast?=some a→rs.head?=some b→CallsTo cs a b
structure Wk (cs:Chs)(ks ws:List Str)(z:Str):Prop where
 nd:ws.Nodup
 mem:∀ a∈ws,a∈cs.map (·.1)
 un:z∈cs.map (·.1)∧z∉ks
 nx:∀ (i:Nat) (a b:Str),ws[i]?=some a→ws[i+1]?=some b→CallsTo cs a b
 la:∀ a,ws.getLast?=some a→CallsTo cs a z
theorem Wk.le {cs:Chs}{ks ws:List Str}{z:Str}(h:Wk cs ks ws z):ws.length≤cs.length:=by
 have:=List.Nodup.length_le_of_subset h.nd (l₂:=cs.map (·.1)) fun a ha=>h.mem a ha
 rwa [List.length_map] at this
theorem Wk.step {cs:Chs}{ks ws:List Str}{z z':Str}(h:Wk cs ks ws z)(no:z∉ws)(un:z'∈cs.map (·.1)∧z'∉ks)(ca:CallsTo cs z z'):Wk cs ks (ws++[z]) z':=by
 refine ⟨nd_snoc h.nd no,fun a ha=>?_,un,fun i a b e1 e2=>?_,fun a e=>?_⟩
 ·rcases List.mem_append.mp ha with ha | ha
  ·exact h.mem a ha
  ·rw [List.mem_singleton.mp ha]
   exact h.un.1
 ·have l2:=(List.getElem?_eq_some_iff.mp e2).1
  rw [List.length_append,List.length_singleton] at l2
  by_cases c:i+1<ws.length
  ·rw [List.getElem?_append_left (by omega)] at e1
   rw [List.getElem?_append_left c] at e2
   exact h.nx i a b e1 e2
  ·have ei:i+1=ws.length:=by omega
   rw [List.getElem?_append_left (by omega)] at e1
   rw [List.getElem?_append_right (by omega),ei,Nat.sub_self] at e2
   cases e2
   refine h.la a ?_
   rw [List.getLast?_eq_getElem?,← ei]
   exact e1
 ·rw [List.getLast?_append,List.getLast?_singleton,Option.some_or] at e
  cases e
  exact ca
theorem Wk.ring {cs:Chs}{ks ws:List Str}{z:Str}{k:Nat}(h:Wk cs ks ws z)(e:ws[k]?=some z):RingOk cs (ws.drop k):=by
 have lk:=(List.getElem?_eq_some_iff.mp e).1
 refine ⟨fun n=>?_,h.nd.sublist (List.drop_sublist _ _),fun a ha=>h.mem a (List.mem_of_mem_drop ha),fun i a b e1 e2=>?_,fun a b e1 e2=>?_⟩
 ·have:=congrArg List.length n
  rw [List.length_drop,List.length_nil] at this
  omega
 ·rw [List.getElem?_drop] at e1 e2
  exact h.nx (k+i) a b e1 e2
 ·rw [List.getLast?_drop,if_neg (by omega)] at e1
  rw [List.head?_drop,e] at e2
  cases e2
  exact h.la a e1
def lsize (H:Hp)(l:Addr):Nat:=match H l with
 | some (.lst xs)=>xs.length
 | _=>0
theorem lsize_at {H:Hp}{l:Addr}{xs:List V}(h:H l=some (.lst xs)):lsize H l=xs.length:=by
 unfold lsize
 rw [h]
def spRing (C_Word C_Back C_Call:Addr):Sp:=fun vs H Q _=>∃ (d ld:Addr) (o:Obj) (ps ls:List (Str×V)) (cs:Chs),vs=[.ref d,.ref ld]∧H d=some (.frz o (.dK (Dk ps)))∧ChsAt C_Word C_Back C_Call H ps cs∧NamesOk cs∧DicS H ld ls∧(ls.map (·.1)).Nodup∧(∃ c∈cs,c.1∉ls.map (·.1))∧(∀ c∈cs,c.1∉ls.map (·.1)→∃ n∈callsOf c.2,n∉ls.map (·.1)) ∧
 ∀ l rs H',Same H H'→H' l=some (.lst (rs.map V.str))→RingOk cs rs→Q (.ref l) H'
theorem ok_ring (F:Fun K "ring_among" "ring_among" s_ring_among f fd)(g_first_unmeasured:Fn P w K mg base "first_unmeasured" 1 ["names","lengths"] spFirst)(g_called_names:Fn P w K mg base "called_names" 1 ["rules"] (spCalled C_Word C_Back C_Call))(b_list:mg "list"=none):FnOk P w K mg base CX0 2 f fd ["chains","lengths"] (spRing C_Word C_Back C_Call):=by
 refine F.ok sc_ring_among (fun vs H Q E h=>?_) (fun cdv A outer s H vs Q E hr h=>?_)
 ·obtain ⟨_,_,_,_,_,_,rfl,_⟩:=h
  rfl
 obtain ⟨d,ld,o,ps,ls,cs,rfl,hd,hc,⟨nd,cl,le,oks⟩,hld,lnd,⟨c0,hc0,nc0⟩,all,q⟩:=h
 refine ⟨_,(@pss_cons _ _ _ _ _ (@ps_set _ _ (2) _ _ _ _ sc_ring_among.nd rfl (Or.inl rfl) (@pe_lst _ _ _ _ pa_nil) (by rfl) (by first | exact .inl rfl | exact .inr rfl | assumption)) (@pss_cons _ _ _ _ _ (@ps_set _ _ (3) _ _ _ _ sc_ring_among.nd rfl (Or.inl rfl) (@pe_fn _ _ _ _ _ _ _ _ _ _ _ g_first_unmeasured hr (by decide) rfl (@pa_cons _ _ _ _ _ (@pe_callTy _ _ _ _ _ _ _ _ _ (call_listD rfl) rfl b_list bo_list (@pa_cons _ _ _ _ _ (pv 0) pa_nil (by rfl)) (by decide) (by decide) (by rfl) (by rfl)) (@pa_cons _ _ _ _ _ (pv 1) pa_nil (by rfl)) (by rfl)) (by decide) (by rfl) (by rfl)) (by rfl) (by first | exact .inl rfl | exact .inr rfl | assumption)) (@pss_cons _ _ _ _ _ (@ps_while _ _ _ _ _ _ PassesOwn.never (@pt_cmpR _ _ _ _ _ _ _ _ (op_notinL (K:=K) rfl) (pv 3) (pv 2) (by with_unfolding_all rfl)) (@pss_cons _ _ _ _ _ (@ps_expr _ _ _ _ (@pe_bm _ _ _ _ _ _ _ _ _ _ _ _ PySem.F.plainAttrs_list PySem.F.slot_list_append PySem.F.type_list_append mt_append (pv 2) (@pa_cons _ _ _ _ _ (pv 3) pa_nil (by rfl)) (by rfl) (by rfl) (by rfl) (by rfl) (by rfl)) (by rfl)) (@pss_one _ _ _ (@ps_set _ _ (3) _ _ _ _ sc_ring_among.nd rfl (Or.inl rfl) (@pe_fn _ _ _ _ _ _ _ _ _ _ _ g_first_unmeasured hr (by decide) rfl (@pa_cons _ _ _ _ _ (@pe_fn _ _ _ _ _ _ _ _ _ _ _ g_called_names hr (by decide) rfl (@pa_cons _ _ _ _ _ (@pe_dget _ _ _ _ _ _ (hu_of hr) (pv 0) (pv 3) (fun _ _=>rfl)) pa_nil (by rfl)) (by decide) (by rfl) (by rfl)) (@pa_cons _ _ _ _ _ (pv 1) pa_nil (by rfl)) (by rfl)) (by decide) (by rfl) (by rfl)) (by rfl) (by first | exact .inl rfl | exact .inr rfl | assumption))))) (@pss_one _ _ _ (@ps_ret _ _ _ _ (@pe_slice _ _ _ _ _ _ _ _ _ _ sl_list (pv 2) (@po_some _ _ _ (@pe_bm _ _ _ _ _ _ _ _ _ _ _ _ PySem.F.plainAttrs_list PySem.F.slot_list_index PySem.F.type_list_index mt_index (pv 2) (@pa_cons _ _ _ _ _ (pv 3) pa_nil (by rfl)) (by rfl) (by rfl) (by rfl) (by rfl) (by rfl))) po_none)))))),?_⟩
 rw [st_ring_among]
 walk_at "sv"
 refine LstR.go (by simp) fun wl nwl=>?_
 have s1:=same_new nwl (.lst [])
 have hw1:upd H wl (.lst []) wl=some (.lst []):=upd_same
 generalize upd H wl (.lst [])=H1 at *
 walk_at "sv"
 refine ⟨d,Dk ps,rfl,.inr ⟨o,s1 _ _ hd⟩,fun l nl=>?_⟩
 rw [Dk_keys,hc.keys]
 have s2:=same_new nl (.lst ((cs.map (·.1)).map V.str))
 have hl2:upd H1 l (.lst ((cs.map (·.1)).map V.str)) l=some (.lst ((cs.map (·.1)).map V.str)):=upd_same
 generalize upd H1 l (.lst ((cs.map (·.1)).map V.str))=H2 at *
 have s12:=s1.trans s2
 refine ⟨l,ld,_,ls,rfl,hl2,by rw [List.length_map]; omega,hld.same s12,lnd,⟨c0.1,List.mem_map_of_mem hc0,nc0⟩,fun z H3 s3 hz nz=>?_⟩
 walk_at "sv"
 refine while_go (fun σ H'=>Same H H'∧∃ (ws:List Str) (z:Str),σ=[some (.ref d),some (.ref ld),some (.ref wl),some (.str z)]∧H' wl=some (.lst (ws.map V.str))∧Wk cs (ls.map (·.1)) ws z) (fun _ H'=>cs.length - lsize H' wl) ⟨s12.trans s3,[],z,rfl,s3 _ _ (s2 _ _ hw1),List.nodup_nil,fun a ha=>(by cases ha),⟨hz,nz⟩,fun i a b e=>(by simp at e),fun a e=>(by cases e)⟩ fun σ H4 pv=>?_
 obtain ⟨sm,ws,z,rfl,hw4,wk⟩:=pv
 rw [lsize_at hw4,List.length_map]
 walk_at "sv"
 refine inR_go (SqL.of hw4) ?_
 rw [if_pos rfl]
 by_cases m:z∈ws
 ·rw [decide_eq_true m]
  refine ⟨_,rfl,WhR.on (fun c=>by cases c) fun _=>?_⟩
  obtain ⟨k,ek⟩:=List.getElem?_of_mem m
  walk_at "sv"
  refine ⟨ty_lst hw4,?_⟩
  refine index_go hw4 wk.nd ek (by have:=wk.le; omega) ?_
  refine PartR.go ?_
  refine slDropA_go (k:=k) (SqL.of hw4) fun l5 nl5=>?_
  exact q l5 (ws.drop k) _ (sm.trans (same_new nl5 _)) (by rw [upd_same,List.map_drop]) (wk.ring ek)
 ·rw [decide_eq_false m]
  refine ⟨_,rfl,WhR.on (fun _=>?_) fun c=>by cases c⟩
  obtain ⟨c,hcm,ec⟩:=List.mem_map.mp wk.un.1
  have wle:=wk.le
  walk_at "sv"
  refine ⟨ty_lst hw4,?_⟩
  refine app_go hw4 (by rw [List.length_map]; omega) ?_
  have sm5:Same H (upd H4 wl (.lst (ws.map V.str++[.str z]))):=sm.put nwl
  have hw5:upd H4 wl (.lst (ws.map V.str++[.str z])) wl=some (.lst ((ws++[z]).map V.str)):=by rw [upd_same,List.map_append]; rfl
  generalize upd H4 wl (.lst (ws.map V.str++[.str z]))=H5 at *
  obtain ⟨l,rs,lk,hl,ru,n⟩:=(hc.same sm5).look nd hcm
  rw [ec] at lk
  walk_at "sv"
  refine dgetR_go (.inr ⟨o,sm5 _ _ hd⟩) lk ?_
  refine ⟨l,rs,c.2,rfl,hl,ru,n,fun D H6 nD s6 hD=>?_⟩
  obtain ⟨m1,hm1,nm1⟩:=all c hcm (by rw [ec]; exact wk.un.2)
  refine ⟨D,ld,_,ls,rfl,hD,Nat.le_trans (List.length_filterMap_le _ _) n,(hld.same sm5).same s6,lnd,⟨m1,hm1,nm1⟩,fun z' H7 s7 hz' nz'=>?_⟩
  have wk':=wk.step m ⟨cl c hcm z' hz',nz'⟩ ⟨c,hcm,ec,hz'⟩
  have hw7:=s7 _ _ (s6 _ _ hw5)
  refine ⟨⟨(sm5.trans s6).trans s7,ws++[z],z',rfl,hw7,wk'⟩,?_⟩
  rw [lsize_at hw7,List.length_map]
  have le':=wk'.le
  rw [List.length_append,List.length_singleton] at le' ⊢
  omega
end
--CUT--
section
variable {C_Rule C_Word C_Back C_Call:Addr}
def fdup (seen:List Str):List Str→Option Str
 | []=>none
 | z::r=>if z∈seen then some z else fdup (seen++[z]) r
theorem fdup_from {zs:List Str}:∀ {i:Nat},i≤zs.length→(∀ (j:Nat) (z:Str),j<i→zs[j]?=some z→z∉zs.take j)→fdup [] zs=fdup (zs.take i) (zs.drop i)
 | 0,_,_=>by rw [List.take_zero,List.drop_zero]
 | i+1,le,h=>by
  rw [fdup_from (i:=i) (by omega) fun j z lt e=>h j z (by omega) e]
  have li:i<zs.length:=by omega
  rw [List.drop_eq_getElem_cons li,List.take_add_one,List.getElem?_eq_getElem li,Option.toList_some]
  show (if zs[i]∈zs.take i then _ else _)=_
  rw [if_neg (h i _ (Nat.lt_succ_self _) (List.getElem?_eq_getElem li))]
theorem fdup_at {zs:List Str}{i:Nat}{z:Str}(h:∀ (j:Nat) (z:Str),j<i→zs[j]?=some z→z∉zs.take j)(e:zs[i]?=some z)(m:z∈zs.take i):fdup [] zs=some z:=by
 obtain ⟨li,e⟩:=List.getElem?_eq_some_iff.mp e
 rw [fdup_from (by omega) h,List.drop_eq_getElem_cons li,e]
 exact if_pos m
theorem fdup_end {zs:List Str}(h:∀ (j:Nat) (z:Str),zs[j]?=some z→z∉zs.take j):fdup [] zs=none:=by
 rw [fdup_from (Nat.le_refl _) fun j z _ e=>h j z e,List.drop_length]
 rfl
theorem fdup_nd {zs:List Str}(h:fdup [] zs=none):zs.Nodup:=by
 have key:∀ (i:Nat),i≤zs.length→∀ (j:Nat) (z:Str),j<i→zs[j]?=some z→z∉zs.take j:=by
  intro i
  induction i with
  | zero=>intro _ j z lt; omega
  | succ i ih =>
   intro le j z lt e m
   have ihh:=ih (by omega)
   by_cases c:j<i
   ·exact ihh j z c e m
   ·obtain rfl:j=i:=by omega
    rw [fdup_at ihh e m] at h
    cases h
 refine List.pairwise_iff_getElem.mpr fun i j hi hj lt e=>?_
 refine key zs.length (Nat.le_refl _) j zs[j] hj (List.getElem?_eq_getElem hj) ?_
 refine List.mem_of_getElem? (i:=i) ?_
 rw [List.getElem?_take,if_pos lt,List.getElem?_eq_getElem hi,e]
def lackP (ks:List Str)(n:Str):Bool:=!decide (n∈ks)
def callsAll (cs:Chs):List Str:=cs.flatMap fun c=>callsOf c.2
def flack (ks:List Str)(cs:Chs):Option Str:=(callsAll cs).find? (lackP ks)
theorem lackP_in {ks:List Str}{n:Str}(h:n∈ks):lackP ks n=false:=by
 unfold lackP
 rw [decide_eq_true h]
 rfl
theorem lackP_no {ks:List Str}{n:Str}(h:n∉ks):lackP ks n=true:=by
 unfold lackP
 rw [decide_eq_false h]
 rfl
theorem flack_none {ks:List Str}{cs:Chs}:flack ks cs=none↔∀ c∈cs,∀ n∈callsOf c.2,n∈ks:=by
 unfold flack
 rw [List.find?_eq_none]
 refine ⟨fun h c hc n hn=>Classical.byContradiction fun no=>h n (List.mem_flatMap.mpr ⟨c,hc,hn⟩) (lackP_no no),fun h n hn=>?_⟩
 obtain ⟨c,hc,hn⟩:=List.mem_flatMap.mp hn
 rw [lackP_in (h c hc n hn)]
 exact Bool.false_ne_true
theorem find_at {p:Str→Bool}{n:Str}:∀ (A:List Str) {B:List Str},(∀ a∈A,p a=false)→p n=true→(A++n::B).find? p=some n
 | [],B,_,h=>by rw [List.nil_append,List.find?_cons_of_pos h]
 | a::A,B,hA,h=>by
  rw [List.cons_append,List.find?_cons_of_neg (by rw [hA a List.mem_cons_self]; exact Bool.false_ne_true)]
  exact find_at A (fun x hx=>hA x (List.mem_cons_of_mem _ hx)) h
theorem flack_at {ks:List Str}{cs:Chs}{i j:Nat}{c:Str×List Ru}{n:Str}(ec:cs[i]?=some c)(en:(callsOf c.2)[j]?=some n)(h1:∀ c'∈cs.take i,∀ m∈callsOf c'.2,m∈ks)(h2:∀ m∈(callsOf c.2).take j,m∈ks)(no:n∉ks):flack ks cs=some n:=by
 obtain ⟨li,ec'⟩:=List.getElem?_eq_some_iff.mp ec
 obtain ⟨lj,en'⟩:=List.getElem?_eq_some_iff.mp en
 have e1:callsAll cs=(callsAll (cs.take i)++(callsOf c.2).take j)++n::((callsOf c.2).drop (j+1)++callsAll (cs.drop (i+1))):=by
  conv=>lhs; rw [← List.take_append_drop i cs,List.drop_eq_getElem_cons li,ec']
  unfold callsAll
  rw [List.flatMap_append,List.flatMap_cons,List.append_assoc]
  congr 1
  conv=>lhs; rw [← List.take_append_drop j (callsOf c.2),List.drop_eq_getElem_cons lj,en']
  rw [List.append_assoc]
  rfl
 unfold flack
 rw [e1]
 refine find_at _ (fun a ha=>lackP_in ?_) (lackP_no no)
 rcases List.mem_append.mp ha with ha | ha
 ·obtain ⟨c',hc',hm⟩:=List.mem_flatMap.mp ha
  exact h1 c' hc' a hm
 ·exact h2 a ha
section
variable {C_TwoChains C_NoChain C_SieveError:Addr}
def spXName (C:Addr):Sp:=fun vs H Q _=>∃ (a:Addr) (n:Str),vs=[.ref a,.str n]∧H a=some (exN a C none)∧n.length≤1000∧∀ d,H d=none→Q .non (upd (upd H d (.xd [("name",.str n)])) a (exN a C (some d)))
theorem ok_NoChain_init {N:Addr}(F:Fun K "__init__" "NoChain.__init__" s_NoChain___init__ f fd)(m_SieveError:mg "SieveError"=some (.ref C_SieveError))(xb_SieveError:ExcB K C_SieveError)(k:ExcK K C_NoChain N)(xs:ExcS K C_NoChain)(na:NoAttr K C_NoChain "name"):FnOk P w K mg base CX0 1 f fd ["self","name"] (spXName C_NoChain):=by
 refine F.ok sc_NoChain___init__ (fun vs H Q E h=>?_) (fun cdv A outer s H vs Q E hr h=>?_)
 ·obtain ⟨_,_,rfl,_⟩:=h
  rfl
 obtain ⟨a,n,rfl,ha,nl,q⟩:=h
 refine ⟨_,(@pss_cons _ _ _ _ _ (@ps_expr _ _ _ _ (@pe_xinit _ _ _ _ _ _ _ _ _ (@pe_glob _ _ (.ref C_SieveError) _ _ rfl m_SieveError rfl (by decide)) xb_SieveError (@pa_cons _ _ _ _ _ (pv 0) (@pa_cons _ _ _ _ _ (@pe_fstr _ _ _ _ _ _ (@pj_cons _ _ _ _ _ pe_str (@pj_cons _ _ _ _ _ (@pe_fmt _ _ _ _ (pv 1)) pj_nil (by rfl)) (by rfl))) pa_nil (by rfl)) (by rfl)) (by rfl) (by rfl) (by rfl)) (by rfl)) (@pss_one _ _ _ (@ps_fldX _ _ _ _ _ _ _ _ (pv 0) (pv 1) rfl))),?_⟩
 rw [st_NoChain___init__]
 walk_at "sv"
 have e1:(Str.empty++("no chain is called ":Str)).length=19:=by decide
 refine JnR.go (by rw [e1]; decide) ?_
 walk_at "sv"
 refine FmtR.str nl ?_
 refine JnR.go (by rw [Str.length_append,e1]; omega) ?_
 walk_at "sv"
 refine ⟨a,C_NoChain,N,none,_,rfl,ha,k,?_⟩
 refine ⟨a,C_NoChain,rfl,ha,xs,na,q⟩
theorem ok_TwoChains_init {N:Addr}(F:Fun K "__init__" "TwoChains.__init__" s_TwoChains___init__ f fd)(m_SieveError:mg "SieveError"=some (.ref C_SieveError))(xb_SieveError:ExcB K C_SieveError)(k:ExcK K C_TwoChains N)(xs:ExcS K C_TwoChains)(na:NoAttr K C_TwoChains "name"):FnOk P w K mg base CX0 1 f fd ["self","name"] (spXName C_TwoChains):=by
 refine F.ok sc_TwoChains___init__ (fun vs H Q E h=>?_) (fun cdv A outer s H vs Q E hr h=>?_)
 ·obtain ⟨_,_,rfl,_⟩:=h
  rfl
 obtain ⟨a,n,rfl,ha,nl,q⟩:=h
 refine ⟨_,(@pss_cons _ _ _ _ _ (@ps_expr _ _ _ _ (@pe_xinit _ _ _ _ _ _ _ _ _ (@pe_glob _ _ (.ref C_SieveError) _ _ rfl m_SieveError rfl (by decide)) xb_SieveError (@pa_cons _ _ _ _ _ (pv 0) (@pa_cons _ _ _ _ _ (@pe_fstr _ _ _ _ _ _ (@pj_cons _ _ _ _ _ pe_str (@pj_cons _ _ _ _ _ (@pe_fmt _ _ _ _ (pv 1)) pj_nil (by rfl)) (by rfl))) pa_nil (by rfl)) (by rfl)) (by rfl) (by rfl) (by rfl)) (by rfl)) (@pss_one _ _ _ (@ps_fldX _ _ _ _ _ _ _ _ (pv 0) (pv 1) rfl))),?_⟩
 rw [st_TwoChains___init__]
 walk_at "sv"
 have e1:(Str.empty++("two chains are called ":Str)).length=22:=by decide
 refine JnR.go (by rw [e1]; decide) ?_
 walk_at "sv"
 refine FmtR.str nl ?_
 refine JnR.go (by rw [Str.length_append,e1]; omega) ?_
 walk_at "sv"
 refine ⟨a,C_TwoChains,N,none,_,rfl,ha,k,?_⟩
 refine ⟨a,C_TwoChains,rfl,ha,xs,na,q⟩
theorem raiseName {E:XK}{C:Addr}{H:Hp}{n:Str}(nl:n.length≤1000)(q:∀ d H',Same H H'→H' d=some (.xd [("name",.str n)])→E (.ref C) (some d) H'):RaiseI C (spXName C) E [.str n] H:=by
 refine ⟨show 1≤sizeLine by decide,fun a na=>⟨a,n,rfl,upd_same,nl,fun d nd'=>?_⟩⟩
 have nda:d≠a:=fun e=>by
  rw [e,upd_same] at nd'
  cases nd'
 have nd0:H d=none:=by
  rw [upd_ne nda] at nd'
  exact nd'
 refine ⟨rfl,some d,upd_same,fun d' e=>?_,?_⟩
 ·cases e
  exact ⟨nda,_,by rw [upd_ne nda,upd_same]⟩
 ·refine q d _ (fun x o' ex=>?_) ?_
  ·have n1:x≠a:=ne_of_none ex na
   have n2:x≠d:=ne_of_none ex nd0
   unfold del
   rw [if_neg n1,upd_ne n1,upd_ne n2,upd_ne n1]
   exact ex
  ·unfold del
   rw [if_neg nda,upd_ne nda,upd_same]
def spTwoX (C_TwoChains:Addr):Sp:=fun vs H Q E=>∃ (l:Addr) (zs:List Str),vs=[.ref l]∧H l=some (.lst (zs.map V.str))∧(∀ z∈zs,z.length≤1000)∧(fdup [] zs=none→∀ H',Same H H'→Q .non H')∧∀ z,fdup [] zs=some z→∀ d H',Same H H'→H' d=some (.xd [("name",.str z)])→E (.ref C_TwoChains) (some d) H'
theorem ok_twoX (F:Fun K "refuse_two_chains" "refuse_two_chains" s_refuse_two_chains f fd)(X_TwoChains:XcI P w K mg base "TwoChains" C_TwoChains 1 ["self","name"] (spXName C_TwoChains))(b_enumerate:mg "enumerate"=none):FnOk P w K mg base (CXe P w) 3 f fd ["names"] (spTwoX C_TwoChains):=by
 obtain ⟨N_TwoChains,i_TwoChains,fd_TwoChains,O_TwoChains,G_TwoChains,B_TwoChains⟩:=X_TwoChains.ex
 refine fun_okU F sc_refuse_two_chains (fun vs H Q E h=>?_) (fun cdv A outer s H vs Q E hr h=>?_)
 ·obtain ⟨_,_,rfl,_⟩:=h
  rfl
 obtain ⟨l,zs,rfl,hl,zl,q,qe⟩:=h
 refine ⟨_,(@pss_one _ _ _ (@ps_for _ _ _ _ _ _ _ _ (pass_up ⟨rfl,rfl,rfl⟩ rfl) rfl (@pi_enum _ _ _ _ false _ _ _ _ rfl b_enumerate (@pa_cons _ _ _ _ _ (pv 0) pa_nil (by rfl)) (by rfl)) (@pg_tup _ _ _ _ _ _ rfl (@pgs_cons _ _ _ _ _ (@pg_name _ _ (1) _ sc_refuse_two_chains.nd rfl (Or.inl rfl) (by first | exact .inl rfl | exact .inr rfl | assumption)) (@pgs_cons _ _ _ _ _ (@pg_name _ _ (2) _ sc_refuse_two_chains.nd rfl (Or.inl rfl) (by first | exact .inl rfl | exact .inr rfl | assumption)) pgs_nil (by rfl)) (by rfl)) (by rfl) (by rfl)) (@pss_one _ _ _ (@ps_if _ _ _ _ _ _ _ _ (@pt_cmpR _ _ _ _ _ _ _ _ (op_inL (K:=K) rfl) (pv 2) (@pe_slice _ _ _ _ _ _ _ _ _ _ sl_list (pv 0) po_none (@po_some _ _ _ (pv 1))) (by with_unfolding_all rfl)) (@pss_one _ _ _ (@ps_raiseIU _ _ _ _ _ _ _ _ _ _ _ _ _ _ _ _ (xeU_up ⟨rfl,rfl,rfl⟩ rfl) O_TwoChains G_TwoChains (hr.mono (by decide)) B_TwoChains rfl rfl (@pa_cons _ _ _ _ _ (pv 2) pa_nil (by rfl)) (by decide) (by rfl) (by rfl))) pss_nil)) (by intro _; rfl))),?_⟩
 rw [st_refuse_two_chains]
 walk_at "sv"
 refine EnuR.go (t:=false) (SqL.of hl) ?_
 refine ForR.pairs ite (fun i σ H'=>Same H H'∧(∀ (j:Nat) (z:Str),j<i→zs[j]?=some z→z∉zs.take j)∧∃ y z,σ=[some (.ref l),y,z]) ⟨Same.refl _,fun j z lt=>absurd lt (Nat.not_lt_zero _),_,_,rfl⟩ (fun i σ H' pv=>SqL.of (pv.1 _ _ hl)) (fun i y t σ H3 hy pv nt=>?_) (fun σ H3 pv=>?_)
 ·obtain ⟨sm,al,y1,z1,rfl⟩:=pv
  obtain ⟨v,ev,rfl⟩:=enumV_get hy
  rw [List.getElem?_map] at ev
  obtain ⟨z,ez,rfl⟩:=Option.map_eq_some_iff.mp ev
  have st:=same_new nt (.tup [.int (i:Int),.str z])
  have lt:=(List.getElem?_eq_some_iff.mp ez).1
  walk_at "sv"
  refine PartR.go ?_
  refine slTake_go (SqL.of (st _ _ (sm _ _ hl))) (by rw [List.length_map]; omega) fun m nm=>?_
  rw [← List.map_take]
  have s5:=same_new nm (.lst ((zs.take i).map V.str))
  have sm5:=(sm.trans st).trans s5
  refine inR_go (SqL.of upd_same) ?_
  rw [if_neg Bool.false_ne_true]
  by_cases c:z∈zs.take i
  ·rw [decide_eq_true c]
   walk_at "sv"
   exact raiseName (zl z (List.mem_of_getElem? ez)) fun d H' s' hd=>qe z (fdup_at al ez c) d H' (sm5.trans s') hd
  rw [decide_eq_false c]
  walk_at "sv"
  refine ⟨sm5,fun j z' lj e=>?_,_,_,rfl⟩
  by_cases c2:j<i
  ·exact al j z' c2 e
  ·obtain rfl:j=i:=by omega
   rw [ez] at e
   cases e
   exact c
 ·obtain ⟨sm,al,y1,z1,rfl⟩:=pv
  refine q (fdup_end fun j z e=>al j z ?_ e) H3 sm
  have:=(List.getElem?_eq_some_iff.mp e).1
  simp only [enumV,List.length_map,List.length_zipIdx] at *
  first | omega | exact this
def spMissX (C_Word C_Back C_Call C_NoChain:Addr):Sp:=fun vs H Q E=>∃ (d:Addr) (ps:List (Str×V)) (cs:Chs),vs=[.ref d]∧H d=some (.dK (Dk ps))∧ChsAt C_Word C_Back C_Call H ps cs∧(cs.map (·.1)).Nodup∧(∀ c∈cs,∀ n∈callsOf c.2,n.length≤1000)∧(flack (cs.map (·.1)) cs=none→∀ o H',Same (upd H d (.frz o (.dK (Dk ps)))) H'→Q .non H')∧∀ n,flack (cs.map (·.1)) cs=some n→∀ o x H',Same (upd H d (.frz o (.dK (Dk ps)))) H'→H' x=some (.xd [("name",.str n)])→E (.ref C_NoChain) (some x) H'
theorem ok_missX (F:Fun K "refuse_missing_chains" "refuse_missing_chains" s_refuse_missing_chains f fd)(g_called_names:Fn P w K mg base "called_names" 1 ["rules"] (spCalled C_Word C_Back C_Call))(X_NoChain:XcI P w K mg base "NoChain" C_NoChain 1 ["self","name"] (spXName C_NoChain)):FnOk P w K mg base (CXe P w) 3 f fd ["chains"] (spMissX C_Word C_Back C_Call C_NoChain):=by
 obtain ⟨N_NoChain,i_NoChain,fd_NoChain,O_NoChain,G_NoChain,B_NoChain⟩:=X_NoChain.ex
 refine fun_okU F sc_refuse_missing_chains (fun vs H Q E h=>?_) (fun cdv A outer s H vs Q E hr h=>?_)
 ·obtain ⟨_,_,_,rfl,_⟩:=h
  rfl
 obtain ⟨d,ps,cs,rfl,hd,hc,nd,nlen,q,qe⟩:=h
 refine ⟨_,(@pss_one _ _ _ (@ps_for _ _ _ _ _ _ _ _ (pass_up ⟨rfl,rfl,rfl⟩ rfl) rfl (@pi_dict _ _ _ _ (pv 0)) (@pg_name _ _ (1) _ sc_refuse_missing_chains.nd rfl (Or.inl rfl) (by first | exact .inl rfl | exact .inr rfl | assumption)) (@pss_one _ _ _ (@ps_for _ _ _ _ _ _ _ _ (pass_up ⟨rfl,rfl,rfl⟩ rfl) rfl (@pi_list _ _ _ _ (@pe_fn _ _ _ _ _ _ _ _ _ _ _ g_called_names hr (by decide) rfl (@pa_cons _ _ _ _ _ (@pe_dget _ _ _ _ _ _ (hu_of hr) (pv 0) (pv 1) (fun _ _=>rfl)) pa_nil (by rfl)) (by decide) (by rfl) (by rfl))) (@pg_name _ _ (2) _ sc_refuse_missing_chains.nd rfl (Or.inl rfl) (by first | exact .inl rfl | exact .inr rfl | assumption)) (@pss_one _ _ _ (@ps_if _ _ _ _ _ _ _ _ (@pt_cmp _ _ _ _ _ _ (@pc_dnotin _ _ _ _ _ (hu_of hr) (pv 2) (pv 0)) (by with_unfolding_all rfl)) (@pss_one _ _ _ (@ps_raiseIU _ _ _ _ _ _ _ _ _ _ _ _ _ _ _ _ (xeU_up ⟨rfl,rfl,rfl⟩ rfl) O_NoChain G_NoChain (hr.mono (by decide)) B_NoChain rfl rfl (@pa_cons _ _ _ _ _ (pv 2) pa_nil (by rfl)) (by decide) (by rfl) (by rfl))) pss_nil)) (by intro _; rfl))) (by intro _; rfl))),?_⟩
 rw [st_refuse_missing_chains]
 walk_at "sv"
 refine ⟨d,_,rfl,.inr ⟨hd,fun o=>?_⟩⟩
 have hc0:ChsAt C_Word C_Back C_Call (upd H d (.frz o (.dK (Dk ps)))) ps cs:=All2.imp hc fun _ _ r=>r.upd hd
 have hd0:upd H d (.frz o (.dK (Dk ps))) d=some (.frz o (.dK (Dk ps))):=upd_same
 have q0:=fun e=>q e o
 have qe0:=fun n e=>qe n e o
 generalize upd H d (.frz o (.dK (Dk ps)))=H0 at *
 refine ForR.items itd (fun i σ H'=>Same H0 H'∧(∀ c'∈cs.take i,∀ m∈callsOf c'.2,m∈cs.map (·.1))∧∃ y z,σ=[some (.ref d),y,z]) ⟨Same.refl _,fun c' h=>(by rw [List.take_zero] at h; cases h),_,_,rfl⟩ (fun i σ H' pv=>pv.1 _ _ hd0) (fun i x σ H3 hx pv=>?_) (fun σ H3 pv=>?_)
 ·obtain ⟨sm,h1,y1,z1,rfl⟩:=pv
  rw [Dk_keys,hc0.keys,List.map_map,List.getElem?_map] at hx
  obtain ⟨c,ec,rfl⟩:=Option.map_eq_some_iff.mp hx
  have mem:=List.mem_of_getElem? ec
  have hc3:=hc0.same sm
  have hd3:DicS H3 d ps:=.inr ⟨o,sm _ _ hd0⟩
  obtain ⟨l,rs,lk,hl,ru,n⟩:=hc3.look nd mem
  show gName _ _ _ _ _
  walk_at "sv"
  refine dgetR_go hd3 lk ?_
  refine ⟨l,rs,c.2,rfl,hl,ru,n,fun D H4 nD s4 hD=>?_⟩
  refine IlR.go (SqL.of hD) ?_
  refine ForR.items itl (fun j σ H'=>Same H4 H'∧(∀ m∈(callsOf c.2).take j,m∈cs.map (·.1))∧∃ y,σ=[some (.ref d),some (.str c.1),y]) ⟨Same.refl _,fun m h=>(by rw [List.take_zero] at h; cases h),_,rfl⟩ (fun j σ H' pv=>SqL.of (pv.1 _ _ hD)) (fun j x σ H5 hx pv=>?_) (fun σ H5 pv=>?_)
  ·obtain ⟨s5,h2,y2,rfl⟩:=pv
   rw [List.getElem?_map] at hx
   obtain ⟨m,em,rfl⟩:=Option.map_eq_some_iff.mp hx
   show gName _ _ _ _ _
   walk_at "sv"
   refine dinR_go ((hd3.same s4).same s5) ?_
   rw [if_pos rfl,look_is (hc0.keys▸nd),hc0.keys]
   by_cases hm:m∈cs.map (·.1)
   rotate_left
   ·rw [decide_eq_false hm]
    walk_at "sv"
    exact raiseName (nlen c mem m (List.mem_of_getElem? em)) fun x H' s' hx=>qe0 m (flack_at ec em h1 h2 hm) x H' (((sm.trans s4).trans s5).trans s') hx
   rw [decide_eq_true hm]
   walk_at "sv"
   refine ⟨s5,fun m' h'=>?_,_,rfl⟩
   rw [List.take_add_one,em,Option.toList_some] at h'
   rcases List.mem_append.mp h' with h' | h'
   ·exact h2 m' h'
   ·rw [List.mem_singleton.mp h']
    exact hm
  ·obtain ⟨s5,h2,y2,rfl⟩:=pv
   rw [List.length_map,List.take_length] at h2
   refine ⟨(sm.trans s4).trans s5,fun c' hc'=>?_,_,_,rfl⟩
   rw [List.take_add_one,ec,Option.toList_some] at hc'
   rcases List.mem_append.mp hc' with hc' | hc'
   ·exact h1 c' hc'
   ·rw [List.mem_singleton.mp hc']
    exact h2
 ·obtain ⟨sm,h1,y1,z1,rfl⟩:=pv
  refine q0 (flack_none.mpr fun c hc=>h1 c ?_) _ sm
  have e:(Dk ps).length=cs.length:=by
   unfold Dk
   rw [List.length_map]
   exact All2.len hc0
  rw [List.length_map,e,List.take_length]
  exact hc
end
end
--CUT--
section
variable {C_Rule C_Word C_Back C_Call C_Book:Addr}
theorem put_three {f g h:Str}(n1:g≠f)(n2:h≠f)(v x y:V):putF f v [(g,x),(h,y)]=[(g,x),(h,y),(f,v)]:=by
 simp only [putF,if_neg n1,if_neg n2]
theorem Rl.fs_ne (p:Addr):∀ r:Rl,r.fs p≠[]
 | .word _=>by intro c; cases c
 | .back=>by intro c; cases c
 | .call _=>by intro c; cases c
theorem told_inj {r r':Rl}{p p':Addr}(h:r.told p=r'.told p')(o:r.ok)(o':r'.ok):r=r'∧p=p':=by
 cases r with
 | word w =>
  cases r' with
  | word w' =>
   simp only [Rl.told,List.cons.injEq,V.str.injEq,V.ref.injEq,and_true] at h
   exact ⟨by rw [h.1],h.2⟩
  | back =>
   simp only [Rl.told,List.cons.injEq,V.str.injEq,V.ref.injEq,and_true] at h
   exact absurd h.1 o.1
  | call n=>simp [Rl.told] at h
 | back =>
  cases r' with
  | word w' =>
   simp only [Rl.told,List.cons.injEq,V.str.injEq,V.ref.injEq,and_true] at h
   exact absurd h.1.symm o'.1
  | back =>
   simp only [Rl.told,List.cons.injEq,V.ref.injEq,and_true,true_and] at h
   exact ⟨rfl,h⟩
  | call n=>simp [Rl.told] at h
 | call n =>
  cases r' with
  | word w'=>simp [Rl.told] at h
  | back=>simp [Rl.told] at h
  | call n' =>
   simp only [Rl.told,List.cons.injEq,V.str.injEq,V.ref.injEq,and_true,true_and] at h
   exact ⟨by rw [h.2],h.1⟩
def RtAt (H:Hp)(v:V)(u:Ru):Prop:=∃ t,v=.ref t∧H t=some (.tup (u.1.told u.2))∧u.1.ok
theorem RtAt.same {H H':Hp}{v:V}{u:Ru}(h:RtAt H v u)(s:Same H H'):RtAt H' v u:=by
 obtain ⟨t,e,h,o⟩:=h
 exact ⟨t,e,s _ _ h,o⟩
def HaAt (H:Hp)(v:V)(c:Str×List Ru):Prop:=∃ t l ts,v=.ref t∧H t=some (.tup [.str c.1,.ref l])∧H l=some (.lst ts)∧All2 (RtAt H) ts c.2∧c.2.length≤1000
theorem HaAt.same {H H':Hp}{v:V}{c:Str×List Ru}(h:HaAt H v c)(s:Same H H'):HaAt H' v c:=by
 obtain ⟨t,l,ts,e,h1,h2,h3,n⟩:=h
 exact ⟨t,l,ts,e,s _ _ h1,s _ _ h2,All2.imp h3 fun _ _ r=>r.same s,n⟩
theorem han_pairs {H:Hp}{hs:List V}{cs:Chs}(h:All2 (HaAt H) hs cs):∃ ps:List (V×V),All2 (fun x (p:V×V)=>∃ t,x=.ref t∧H t=some (.tup [p.1,p.2])) hs ps∧ps.map (·.1)=(cs.map (·.1)).map V.str:=by
 induction h with
 | nil=>exact ⟨[],.nil,rfl⟩
 | @cons v c vs cs h _ ih =>
  obtain ⟨ps,a,e⟩:=ih
  obtain ⟨t,l,ts,e1,h1,_⟩:=h
  exact ⟨(.str c.1,.ref l)::ps,.cons ⟨t,e1,h1⟩ a,by rw [List.map_cons,List.map_cons,List.map_cons,e]⟩
theorem rules_made {H H':Hp}{D:Addr}{ts vs:List V}{us:List Ru}(h:All2 (RtAt H) ts us)(k:All2 (fun x v=>∃ a u,v=.ref a∧a≠D∧RtAt H x u∧IsRule C_Word C_Back C_Call H' a u.1 u.2) ts vs):RusAt C_Word C_Back C_Call H' vs us:=by
 induction h generalizing vs with
 | nil =>
  cases k
  exact .nil
 | cons h _ ih =>
  cases k with
  | cons k1 k2 =>
   obtain ⟨a,u',rfl,_,⟨t,e1,h1,o1⟩,r⟩:=k1
   obtain ⟨t',e2,h2,o2⟩:=h
   rw [e1] at e2
   cases e2
   rw [h1] at h2
   injection h2 with h2
   injection h2 with h2
   obtain ⟨e3,e4⟩:=told_inj h2 o1 o2
   exact .cons ⟨a,rfl,e3▸e4▸r⟩ (ih k2)
variable {C_Book:Addr}
def fresh (H H':Hp):Hp:=fun a=>if (H a).isNone=true then H' a else none
theorem fr_at {H H':Hp}{a:Addr}(n:H a=none):fresh H H' a=H' a:=by
 unfold fresh
 rw [n]
 rfl
theorem fr_same {H H':Hp}:Same (fresh H H') H':=fun a o e=>by
 unfold fresh at e
 split at e
 ·exact e
 ·cases e
theorem fr_kp {H H1 H2:Hp}{D:Addr}(kp:∀ a o,a≠D→H1 a=some o→H2 a=some o):∀ a o,a≠D→fresh H H1 a=some o→fresh H H2 a=some o:=fun a o ne e=>by
 unfold fresh at e ⊢
 split at e
 ·rename_i c
  rw [if_pos c]
  exact kp a o ne e
 ·cases e
theorem fr_mono {H H1 H2:Hp}(s:Same H1 H2):Same (fresh H H1) (fresh H H2):=fun a o e=>by
 unfold fresh at e ⊢
 split at e
 ·rename_i c
  rw [if_pos c]
  exact s a o e
 ·cases e
theorem fr_upd {H H':Hp}{a:Addr}{o:HO}(n:H a=none):fresh H (upd H' a o)=upd (fresh H H') a o:=by
 funext x
 by_cases c:x=a
 ·subst c
  rw [fr_at n,upd_same,upd_same]
 ·rw [upd_ne c]
  unfold fresh
  rw [upd_ne c]
theorem del_none {H:Hp}{a b:Addr}(n:H a=none):del H b a=none:=by
 by_cases c:a=b
 ·rw [c]
  exact del_same
 ·rw [del_ne c]
  exact n
def IsBook (C_Word C_Back C_Call C_Book:Addr)(H:Hp)(b:Addr)(df:Str)(cs:Chs)(len:Str→Int):Prop:=∃ dx kd o ps ld ls,H b=some (.ins C_Book dx [("default",.str df),("chains",.ref kd),("lengths",.ref ld)])∧H kd=some (.frz o (.dK (Dk ps)))∧ChsAt C_Word C_Back C_Call H ps cs∧H ld=some (.dK (Dk ls))∧∀ c∈cs,ls.lookup c.1=some (.int (len c.1))
theorem IsBook.same {H H':Hp}{b:Addr}{df:Str}{cs:Chs}{len:Str→Int}(h:IsBook C_Word C_Back C_Call C_Book H b df cs len)(s:Same H H'):IsBook C_Word C_Back C_Call C_Book H' b df cs len:=by
 obtain ⟨dx,kd,o,ps,ld,ls,h1,h2,h3,h4,h5⟩:=h
 exact ⟨dx,kd,o,ps,ld,ls,s _ _ h1,s _ _ h2,h3.same s,s _ _ h4,h5⟩
structure TxB (K:PySem.W.Frag)(C_Rule C_Word C_Back C_Call C_Book:Addr):Prop extends Txt K C_Rule C_Word C_Back C_Call where
 pg_Book:PySem.W.plainGet K C_Book Str.empty=true
 hd_Book:PySem.W.hasDictIn K C_Book=true
 po_Book:PySem.W.plainOver K C_Book=true
 sa_Book:PySem.W.findIn K (.ref C_Book) "__setattr__"=some (some (.builtin "object.__setattr__"))
 mk_Book:PySem.W.makesIn K C_Book=true
 kp_Book:PySem.W.keepIn K (.ref C_Book)=true
 n_default:PySem.W.findIn K (.ref C_Book) "default"=some none
 n_chains:PySem.W.findIn K (.ref C_Book) "chains"=some none
 n_lengths:PySem.W.findIn K (.ref C_Book) "lengths"=some none
theorem TxB.cls (T:TxB K C_Rule C_Word C_Back C_Call C_Book):Cls K C_Book:=⟨T.pg_Book,T.hd_Book,T.po_Book,T.sa_Book⟩
variable {C_Ring C_TooLong C_SieveError C_TwoChains C_NoChain:Addr}
def spXTot (C:Addr):Sp:=fun vs H Q _=>∃ (a:Addr) (n:Int),vs=[.ref a,.int n]∧H a=some (exN a C none)∧0≤n∧n<10 ^ 60∧∀ d,H d=none→Q .non (upd (upd H d (.xd [("total",.int n)])) a (exN a C (some d)))
theorem num_len60 {n:Int}(h0:0≤n)(h1:n<10 ^ 60):(Str.ofString (toString n)).length≤61:=by
 have a:=int_text_length_le10 (a:=n) (k:=60) (by decide) (by omega)
 have b:(Str.ofString (toString n)).length=(toString n).length:=by
  rw [show (Str.ofString (toString n)).length=(Str.ofString (toString n)).cps.toList.length from (Array.length_toList).symm,Str.ofString_eq_toList]
  simp [String.length_toList]
 rw [b]
 exact a
theorem ok_TooLong_init {N:Addr}(F:Fun K "__init__" "TooLong.__init__" s_TooLong___init__ f fd)(m_SieveError:mg "SieveError"=some (.ref C_SieveError))(xb_SieveError:ExcB K C_SieveError)(k:ExcK K C_TooLong N)(xs:ExcS K C_TooLong)(na:NoAttr K C_TooLong "total"):FnOk P w K mg base CX0 1 f fd ["self","total"] (spXTot C_TooLong):=by
 refine F.ok sc_TooLong___init__ (fun vs H Q E h=>?_) (fun cdv A outer s H vs Q E hr h=>?_)
 ·obtain ⟨_,_,rfl,_⟩:=h
  rfl
 obtain ⟨a,n,rfl,ha,n0,n1,q⟩:=h
 refine ⟨_,(@pss_cons _ _ _ _ _ (@ps_expr _ _ _ _ (@pe_xinit _ _ _ _ _ _ _ _ _ (@pe_glob _ _ (.ref C_SieveError) _ _ rfl m_SieveError rfl (by decide)) xb_SieveError (@pa_cons _ _ _ _ _ (pv 0) (@pa_cons _ _ _ _ _ (@pe_fstr _ _ _ _ _ _ (@pj_cons _ _ _ _ _ pe_str (@pj_cons _ _ _ _ _ (@pe_fmt _ _ _ _ (pv 1)) pj_nil (by rfl)) (by rfl))) pa_nil (by rfl)) (by rfl)) (by rfl) (by rfl) (by rfl)) (by rfl)) (@pss_one _ _ _ (@ps_fldX _ _ _ _ _ _ _ _ (pv 0) (pv 1) rfl))),?_⟩
 rw [st_TooLong___init__]
 walk_at "sv"
 have e1:(Str.empty++("the length of main is ":Str)).length=22:=by decide
 have nl:=num_len60 n0 n1
 refine JnR.go (by rw [e1]; decide) ?_
 walk_at "sv"
 refine .inr ⟨n,rfl,log_small n0 (by omega),?_⟩
 refine JnR.go (by rw [Str.length_append,e1]; omega) ?_
 walk_at "sv"
 refine ⟨a,C_TooLong,N,none,_,rfl,ha,k,?_⟩
 refine ⟨a,C_TooLong,rfl,ha,xs,na,q⟩
theorem raiseTot {E:XK}{C:Addr}{H:Hp}{n:Int}(n0:0≤n)(n1:n<10 ^ 60)(q:∀ d H',Same H H'→H' d=some (.xd [("total",.int n)])→E (.ref C) (some d) H'):RaiseI C (spXTot C) E [.int n] H:=by
 refine ⟨show 1≤sizeLine by decide,fun a na=>⟨a,n,rfl,upd_same,n0,n1,fun d nd'=>?_⟩⟩
 have nda:d≠a:=fun e=>by
  rw [e,upd_same] at nd'
  cases nd'
 have nd0:H d=none:=by
  rw [upd_ne nda] at nd'
  exact nd'
 refine ⟨rfl,some d,upd_same,fun d' e=>?_,?_⟩
 ·cases e
  exact ⟨nda,_,by rw [upd_ne nda,upd_same]⟩
 ·refine q d _ (fun x o' ex=>?_) ?_
  ·have n1:x≠a:=ne_of_none ex na
   have n2:x≠d:=ne_of_none ex nd0
   unfold del
   rw [if_neg n1,upd_ne n1,upd_ne n2,upd_ne n1]
   exact ex
  ·unfold del
   rw [if_neg nda,upd_ne nda,upd_same]
def spXRing (C:Addr):Sp:=fun vs H Q _=>∃ (a l:Addr) (rs:List Str),vs=[.ref a,.ref l]∧H a=some (exN a C none)∧H l=some (.lst (rs.map V.str))∧rs.length≤900∧(∀ z∈rs,z.length≤40)∧∀ l2 d,H l2=none→upd H l2 (.lst (rs.map V.str)) d=none→Q .non (upd (upd (upd H l2 (.lst (rs.map V.str))) d (.xd [("names",.ref l2)])) a (exN a C (some d)))
theorem ok_Ring_init {N:Addr}(F:Fun K "__init__" "Ring.__init__" s_Ring___init__ f fd)(m_SieveError:mg "SieveError"=some (.ref C_SieveError))(xb_SieveError:ExcB K C_SieveError)(k:ExcK K C_Ring N)(xs:ExcS K C_Ring)(Z:ExcI K C_Ring)(na:NoAttr K C_Ring "names")(b_list:mg "list"=none):FnOk P w K mg base CX0 1 f fd ["self","names"] (spXRing C_Ring):=by
 refine F.ok sc_Ring___init__ (fun vs H Q E h=>?_) (fun cdv A outer s H vs Q E hr h=>?_)
 ·obtain ⟨_,_,_,rfl,_⟩:=h
  rfl
 obtain ⟨a,l,rs,rfl,ha,hl,rl,rz,q⟩:=h
 refine ⟨_,(@pss_cons _ _ _ _ _ (@ps_fldX _ _ _ _ _ _ _ _ (pv 0) (@pe_callTy _ _ _ _ _ _ _ _ _ call_listR rfl b_list bo_list (@pa_cons _ _ _ _ _ (pv 1) pa_nil (by rfl)) (by decide) (by decide) (by rfl) (by rfl)) rfl) (@pss_cons _ _ _ _ _ (@ps_set _ _ (2) _ _ _ _ sc_Ring___init__.nd rfl (Or.inl rfl) (@pe_bm _ _ _ _ _ _ _ _ _ _ _ _ PySem.F.plainAttrs_str PySem.F.slot_str_join PySem.F.type_str_join mt_join pe_str (@pa_cons _ _ _ _ _ (@pe_fldE _ _ _ _ _ (pv 0) rfl) pa_nil (by rfl)) (by rfl) (by rfl) (by rfl) (by rfl) (by rfl)) (by rfl) (by first | exact .inl rfl | exact .inr rfl | assumption)) (@pss_one _ _ _ (@ps_expr _ _ _ _ (@pe_xinit _ _ _ _ _ _ _ _ _ (@pe_glob _ _ (.ref C_SieveError) _ _ rfl m_SieveError rfl (by decide)) xb_SieveError (@pa_cons _ _ _ _ _ (pv 0) (@pa_cons _ _ _ _ _ (@pe_fstr _ _ _ _ _ _ (@pj_cons _ _ _ _ _ pe_str (@pj_cons _ _ _ _ _ (@pe_fmt _ _ _ _ (pv 2)) pj_nil (by rfl)) (by rfl))) pa_nil (by rfl)) (by rfl)) (by rfl) (by rfl) (by rfl)) (by rfl))))),?_⟩
 rw [st_Ring___init__]
 walk_at "sv"
 refine LstOf.lst (SqL.of hl) fun l2 nl2=>?_
 have q:=q l2
 have ne2:a≠l2:=ne_of_none ha nl2
 refine ⟨a,C_Ring,rfl,(upd_ne ne2).trans ha,xs,na,fun d nd=>?_⟩
 have q:=q d nl2 nd
 have nda:d≠a:=fun e=>by
  rw [e,upd_ne ne2,ha] at nd
  cases nd
 have ndl:d≠l2:=fun e=>by
  rw [e,upd_same] at nd
  cases nd
 have hl2:upd (upd (upd H l2 (.lst (rs.map V.str))) d (.xd [("names",.ref l2)])) a (exN a C_Ring (some d)) l2=some (.lst (rs.map V.str)):=by rw [upd_ne ne2.symm,upd_ne ndl.symm,upd_same]
 have hd2:upd (upd (upd H l2 (.lst (rs.map V.str))) d (.xd [("names",.ref l2)])) a (exN a C_Ring (some d)) d=some (.xd [("names",.ref l2)]):=by rw [upd_ne nda,upd_same]
 have ha2:upd (upd (upd H l2 (.lst (rs.map V.str))) d (.xd [("names",.ref l2)])) a (exN a C_Ring (some d)) a=some (exN a C_Ring (some d)):=upd_same
 generalize upd (upd (upd H l2 (.lst (rs.map V.str))) d (.xd [("names",.ref l2)])) a (exN a C_Ring (some d))=H1 at *
 walk_at "sv"
 refine ⟨a,C_Ring,d,_,.ref l2,rfl,IsExc.new ha2,hd2,Z,na,look_one _ _ _,?_⟩
 have sl:∀ zs:List Str,(∀ z∈zs,z.length≤40)→(zs.map Str.length).sum≤40 * zs.length:=fun zs=>by
  induction zs with
  | nil=>exact fun _=>Nat.le_refl _
  | cons y r ih =>
   intro h
   have h1:=ih fun z hz=>h z (List.mem_cons_of_mem _ hz)
   have h2:=h y List.mem_cons_self
   rw [List.map_cons,List.sum_cons,List.length_cons]
   omega
 have s1:=sl rs rz
 have sep:(", ":Str).length=2:=by decide
 refine join_go (SqL.of hl2) (joinOk_small (by rw [sep]; show (rs.map Str.length).sum+_≤_; omega)) ?_
 have jl:∀ zs:List Str,(Str.join (", ":Str) zs).length≤(zs.map Str.length).sum+2 * zs.length:=fun zs=>by
  induction zs with
  | nil=>exact Nat.zero_le _
  | cons y r ih =>
   cases r with
   | nil=>show y.length≤_; simp
   | cons y2 r2 =>
    show (y++(", ":Str)++Str.join (", ":Str) (y2::r2)).length≤_
    rw [Str.length_append,Str.length_append,sep,List.map_cons,List.sum_cons,List.length_cons (a:=y)]
    omega
 have j1:=jl rs
 generalize Str.join (", ":Str) rs=z at *
 have e1:(Str.empty++("calls come round: ":Str)).length=18:=by decide
 walk_at "sv"
 refine JnR.go (by rw [e1]; decide) ?_
 walk_at "sv"
 refine .inl ⟨z,rfl,Nat.le_trans (show z.length≤100000 by omega) (by decide),?_⟩
 refine JnR.go (by rw [Str.length_append,e1]; exact Nat.le_trans (show 18+z.length≤200000 by omega) (by decide)) ?_
 walk_at "sv"
 refine ⟨a,C_Ring,N,some d,_,rfl,ha2,k,q⟩
theorem raiseRing {E:XK}{C:Addr}{H:Hp}{l:Addr}{rs:List Str}(hl:H l=some (.lst (rs.map V.str)))(rl:rs.length≤900)(rz:∀ z∈rs,z.length≤40)(q:∀ l2 d H',Same H H'→H' d=some (.xd [("names",.ref l2)])→H' l2=some (.lst (rs.map V.str))→E (.ref C) (some d) H'):RaiseI C (spXRing C) E [.ref l] H:=by
 refine ⟨show 1≤sizeLine by decide,fun a na=>⟨a,l,rs,rfl,upd_same,(upd_ne (ne_of_none hl na)).trans hl,rl,rz,fun l2 d nl2 nd'=>?_⟩⟩
 have nla:l2≠a:=fun e=>by
  rw [e,upd_same] at nl2
  cases nl2
 have ndl:d≠l2:=fun e=>by
  rw [e,upd_same] at nd'
  cases nd'
 have nda:d≠a:=fun e=>by
  rw [e,upd_ne nla.symm,upd_same] at nd'
  cases nd'
 have nl0:H l2=none:=by
  rw [upd_ne nla] at nl2
  exact nl2
 have nd0:H d=none:=by
  rw [upd_ne ndl,upd_ne nda] at nd'
  exact nd'
 refine ⟨rfl,some d,upd_same,fun d' e=>?_,?_⟩
 ·cases e
  exact ⟨nda,_,by rw [upd_ne nda,upd_same]⟩
 ·refine q l2 d _ (fun x o' ex=>?_) ?_ ?_
  ·have n1:x≠a:=ne_of_none ex na
   have n2:x≠d:=ne_of_none ex nd0
   have n3:x≠l2:=ne_of_none ex nl0
   unfold del
   rw [if_neg n1,upd_ne n1,upd_ne n2,upd_ne n3,upd_ne n1]
   exact ex
  ·unfold del
   rw [if_neg nda,upd_ne nda,upd_same]
  ·unfold del
   rw [if_neg nla,upd_ne nla,upd_ne ndl.symm,upd_same]
theorem call_len {H:Hp}{ts:List V}{us:List Ru}(h:All2 (RtAt H) ts us):∀ n∈callsOf us,n.length≤1000:=fun n hn=>by
 obtain ⟨u,hu,e⟩:=List.mem_filterMap.mp hn
 obtain ⟨i,hi⟩:=List.getElem?_of_mem hu
 obtain ⟨v,_,t,_,_,ok⟩:=All2.ix h hi
 obtain ⟨r,p⟩:=u
 cases r with
 | word w=>cases e
 | back=>cases e
 | call m =>
  cases e
  exact ok.1
def spBookX (C_Word C_Back C_Call C_Book C_Ring C_TooLong C_TwoChains C_NoChain:Addr):Sp:=fun vs H Q E=>∃ (b dx hl:Addr) (df:Str) (hs:List V) (cs:Chs) (G:Str→Bool) (len:Str→Int) (rank:Str→Nat),vs=[.ref b,.str df,.ref hl]∧H b=some (.ins C_Book dx [])∧H hl=some (.lst hs)∧All2 (HaAt H) hs cs∧(∀ c∈cs,c.1.length≤40∧PyData.strOk c.1=true)∧cs.length≤900 ∧
 (∀ z,fdup [] (cs.map (·.1))=some z→∀ d H',Same H H'→H' d=some (.xd [("name",.str z)])→E (.ref C_TwoChains) (some d) H') ∧
 (fdup [] (cs.map (·.1))=none→∀ n,flack (cs.map (·.1)) cs=some n→∀ d H',Same H H'→H' d=some (.xd [("name",.str n)])→E (.ref C_NoChain) (some d) H') ∧
 (fdup [] (cs.map (·.1))=none→flack (cs.map (·.1)) cs=none→LenG cs G len rank∧("main":Str)∈cs.map (·.1)∧0≤len "main"∧len "main"<10 ^ 60 ∧
 ((∀ c∈cs,G c.1=true)→len "main"≤120→∀ H',(∀ a o,a≠b→H a=some o→H' a=some o)→IsBook C_Word C_Back C_Call C_Book (fresh (del H b) H') b df cs len→Q .non H') ∧
 ((∀ c∈cs,G c.1=true)→120<len "main"→∀ d H',Same H H'→H' d=some (.xd [("total",.int (len "main"))])→E (.ref C_TooLong) (some d) H') ∧
 ((¬ ∀ c∈cs,G c.1=true)→∀ l d rs H',Same H H'→H' d=some (.xd [("names",.ref l)])→H' l=some (.lst (rs.map V.str))→RingOk cs rs→E (.ref C_Ring) (some d) H'))
theorem ok_Book_initX (F:Fun K "__init__" "Book.__init__" s_Book___init__ f fd)(g_refuse_two_chains:FnX P w K mg base "refuse_two_chains" 3 ["names"] (spTwoX C_TwoChains))(g_refuse_missing_chains:FnX P w K mg base "refuse_missing_chains" 3 ["chains"] (spMissX C_Word C_Back C_Call C_NoChain))(g_chain_lengths:Fn P w K mg base "chain_lengths" 3 ["chains"] (spLengthsR C_Word C_Back C_Call))(g_ring_among:Fn P w K mg base "ring_among" 2 ["chains","lengths"] (spRing C_Word C_Back C_Call))(X_Ring:XcI P w K mg base "Ring" C_Ring 1 ["self","names"] (spXRing C_Ring))(X_TooLong:XcI P w K mg base "TooLong" C_TooLong 1 ["self","total"] (spXTot C_TooLong))(g_rule_of:Fn P w K mg base "rule_of" 4 ["told"] (spRuleOf C_Word C_Back C_Call))
  (c_MAIN:∃ u,mg "MAIN"=some u∧RelV (.str "main") u) (c_MOST_LENGTH:∃ u,mg "MOST_LENGTH"=some u∧RelV (.int 120) u) (b_len:mg "len"=none) (T:TxB K C_Rule C_Word C_Back C_Call C_Book):FnOk P w K mg base (CXe P w) 5 f fd ["self","default","chains"] (spBookX C_Word C_Back C_Call C_Book C_Ring C_TooLong C_TwoChains C_NoChain):=by
 obtain ⟨N_Ring,i_Ring,fd_Ring,O_Ring,G_Ring,B_Ring⟩:=X_Ring.ex
 obtain ⟨N_TooLong,i_TooLong,fd_TooLong,O_TooLong,G_TooLong,B_TooLong⟩:=X_TooLong.ex
 refine fun_okX F sc_Book___init__ (fun vs H Q E h=>?_) (fun cdv A outer s H vs Q E hr h=>?_)
 ·obtain ⟨_,_,_,_,_,_,_,_,_,rfl,_⟩:=h
  rfl
 obtain ⟨b,dx,hl,df,hs,cs,G,len,rank,rfl,hb,hhl,hh,nsh,le,q2,qn,qq⟩:=h
 obtain ⟨_,m_MAIN,r_MAIN⟩:=c_MAIN
 obtain ⟨_,m_MOST_LENGTH,r_MOST_LENGTH⟩:=c_MOST_LENGTH
 have hlen:=All2.len hh
 refine ⟨_,(@pss_cons _ _ _ _ _ (@ps_expr _ _ _ _ (@pe_fnX _ _ _ _ _ _ _ _ _ _ _ _ g_refuse_two_chains xeOut_cx hr (by decide) rfl (@pa_cons _ _ _ _ _ (@pe_comp _ _ (["name","rules"]) ([]) _ _ _ _ _ _ _ _ _ rfl (COk.of (out:=defScope s_Book___init__) (N:=["self","default","chains","kept","name","rules","lengths"]) rfl rfl (by decide +kernel)) (@pi_list _ _ _ _ (pv 2)) (fun _ _ _=>(@pg_tupK _ (K) _ _ _ _ (2) rfl rfl (@pgs_cons _ _ _ _ _ (@pg_name _ _ (0) _ (show List.Nodup (["name","rules"]:List Str) by decide +kernel) rfl (Or.inl rfl) (by first | exact .inl rfl | exact .inr rfl | assumption)) (@pgs_cons _ _ _ _ _ (@pg_name _ _ (1) _ (show List.Nodup (["name","rules"]:List Str) by decide +kernel) rfl (Or.inl rfl) (by first | exact .inl rfl | exact .inr rfl | assumption)) pgs_nil (by rfl)) (by rfl)) (by rfl) (by rfl))) (fun _ _ _=>pifs_nil) (fun _ _ _=>(pv 0)) (by intro _; rfl)) pa_nil (by rfl)) (by decide) (by rfl) (by rfl)) (by rfl)) (@pss_cons _ _ _ _ _ (@ps_set _ _ (3) _ _ _ _ sc_Book___init__.nd rfl (Or.inl rfl) pe_dnewK (by rfl) (by first | exact .inl rfl | exact .inr rfl | assumption)) (@pss_cons _ _ _ _ _ (@PS.nox _ _ _ (@ps_for _ _ _ _ _ _ _ _ PassesOwn.never rfl (@pi_list _ _ _ _ (pv 2)) (@pg_tup _ _ _ _ _ _ rfl (@pgs_cons _ _ _ _ _ (@pg_name _ _ (4) _ sc_Book___init__.nd rfl (Or.inl rfl) (by first | exact .inl rfl | exact .inr rfl | assumption)) (@pgs_cons _ _ _ _ _ (@pg_name _ _ (5) _ sc_Book___init__.nd rfl (Or.inl rfl) (by first | exact .inl rfl | exact .inr rfl | assumption)) pgs_nil (by rfl)) (by rfl)) (by rfl) (by rfl)) (@pss_one _ _ _ (@ps_dput _ _ _ _ _ _ _ _ _ (hu_of hr) (pv 3) (pv 4) (@pe_comp _ _ (["told"]) ([]) _ _ _ _ _ _ _ _ _ rfl (COk.of (out:=defScope s_Book___init__) (N:=["self","default","chains","kept","name","rules","lengths"]) rfl rfl (by decide +kernel)) (@pi_list _ _ _ _ (pv 5)) (fun _ _ _=>(@pg_name _ _ (0) _ (show List.Nodup (["told"]:List Str) by decide +kernel) rfl (Or.inl rfl) (by first | exact .inl rfl | exact .inr rfl | assumption))) (fun _ _ _=>pifs_nil) (fun _ _ _=>(@pe_fn _ _ _ _ _ _ _ _ _ _ _ g_rule_of hr (by decide) rfl (@pa_cons _ _ _ _ _ (pv 0) pa_nil (by rfl)) (by decide) (by rfl) (by rfl))) (by intro _; rfl)) rfl)) (by intro _; rfl))) (@pss_cons _ _ _ _ _ (@ps_expr _ _ _ _ (@pe_fnX _ _ _ _ _ _ _ _ _ _ _ _ g_refuse_missing_chains xeOut_cx hr (by decide) rfl (@pa_cons _ _ _ _ _ (pv 3) pa_nil (by rfl)) (by decide) (by rfl) (by rfl)) (by rfl)) (@pss_cons _ _ _ _ _ (@ps_set _ _ (6) _ _ _ _ sc_Book___init__.nd rfl (Or.inl rfl) (@pe_fn _ _ _ _ _ _ _ _ _ _ _ g_chain_lengths hr (by decide) rfl (@pa_cons _ _ _ _ _ (pv 3) pa_nil (by rfl)) (by decide) (by rfl) (by rfl)) (by rfl) (by first | exact .inl rfl | exact .inr rfl | assumption)) (@pss_cons _ _ _ _ _ (@ps_if _ _ _ _ _ _ _ _ (@pt_cmpR _ _ _ _ _ _ _ _ op_lt (@pe_callB _ _ _ _ _ _ _ _ _ call_lenDR rfl b_len bo_len (@pa_cons _ _ _ _ _ (pv 6) pa_nil (by rfl)) (by decide) (by decide) (by rfl) (by rfl)) (@pe_callB _ _ _ _ _ _ _ _ _ call_lenDR rfl b_len bo_len (@pa_cons _ _ _ _ _ (pv 3) pa_nil (by rfl)) (by decide) (by decide) (by rfl) (by rfl)) (nomark _)) (@pss_one _ _ _ (@ps_raiseI _ _ _ _ _ _ _ _ _ _ _ _ _ _ _ _ xeOut_cx O_Ring G_Ring (hr.mono (by decide)) B_Ring rfl rfl (@pa_cons _ _ _ _ _ (@pe_fn _ _ _ _ _ _ _ _ _ _ _ g_ring_among hr (by decide) rfl (@pa_cons _ _ _ _ _ (pv 3) (@pa_cons _ _ _ _ _ (pv 6) pa_nil (by rfl)) (by rfl)) (by decide) (by rfl) (by rfl)) pa_nil (by rfl)) (by decide) (by rfl) (by rfl))) pss_nil) (@pss_cons _ _ _ _ _ (@ps_if _ _ _ _ _ _ _ _ (@pt_cmpR _ _ _ _ _ _ _ _ op_gt (@pe_dget _ _ _ _ _ _ (hu_of hr) (pv 6) (@pe_glob _ _ _ _ _ rfl m_MAIN r_MAIN (by decide)) (fun _ _=>rfl)) (@pe_glob _ _ _ _ _ rfl m_MOST_LENGTH r_MOST_LENGTH (by decide)) (nomark _)) (@pss_one _ _ _ (@ps_raiseI _ _ _ _ _ _ _ _ _ _ _ _ _ _ _ _ xeOut_cx O_TooLong G_TooLong (hr.mono (by decide)) B_TooLong rfl rfl (@pa_cons _ _ _ _ _ (@pe_dget _ _ _ _ _ _ (hu_of hr) (pv 6) (@pe_glob _ _ _ _ _ rfl m_MAIN r_MAIN (by decide)) (fun _ _=>rfl)) pa_nil (by rfl)) (by decide) (by rfl) (by rfl))) pss_nil) (@pss_cons _ _ _ _ _ (@ps_fld _ _ _ _ _ _ _ _ (pv 0) (pv 1) rfl) (@pss_cons _ _ _ _ _ (@ps_fld _ _ _ _ _ _ _ _ (pv 0) (pv 3) rfl) (@pss_one _ _ _ (@ps_fld _ _ _ _ _ _ _ _ (pv 0) (pv 6) rfl))))))))))),?_⟩
 rw [st_Book___init__]
 walk_at "sv"
 refine IlR.go (SqL.of hhl) ?_
 obtain ⟨pps,tt,pe⟩:=han_pairs hh
 refine CmpR.tups (·.1) itl tt (by omega) (fun H' s=>SqL.of (s _ _ hhl)) (fun p H' Q' hp sm k=>?_) fun D H1 nD s1 hD=>?_
 ·walk_at "sv"
  exact k H' (Same.refl _)
 rw [pe] at hD
 refine ⟨D,_,rfl,hD,fun z hz=>?_,fun fd=>?_,fun z fd d H' s' hd=>q2 z fd d H' (s1.trans s') hd⟩
 ·obtain ⟨c,hc,rfl⟩:=List.mem_map.mp hz
  exact Nat.le_trans (nsh c hc).1 (by decide)
 have nd:=fdup_nd fd
 intro H2 s2
 walk_at "sv"
 intro kd nkd
 have s12:=s1.trans s2
 have s3:=same_new nkd (.dK [])
 walk_at "sv"
 refine IlR.go (SqL.of (s3 _ _ (s12 _ _ hhl))) ?_
 refine ForR.items itl (fun i σ H'=>Same H H'∧∃ (ps:List (Str×V)) (y z:Option V),σ=[some (.ref b),some (.str df),some (.ref hl),some (.ref kd),y,z,none]∧H' kd=some (.dK (Dk ps))∧ChsAt C_Word C_Back C_Call (fresh (del H b) H') ps (cs.take i))
  ⟨s12.trans s3,[],_,_,rfl,upd_same,.nil⟩ (fun i σ H' pv=>SqL.of (pv.1 _ _ hhl)) (fun i x σ H4 hx pv=>?_) (fun σ H4 pv=>?_)
 ·obtain ⟨sm,ps,y4,z4,rfl,hkd,hc4⟩:=pv
  obtain ⟨c,ec,t,l,ts,rfl,ht,hl4,hts,nts⟩:=hh.at hx
  have lt:i<cs.length:=(List.getElem?_eq_some_iff.mp ec).1
  refine gtup2 (SqT.of (sm _ _ ht)) ?_
  walk_at "sv"
  refine IlR.go (SqL.of (sm _ _ hl4)) ?_
  refine CmpR.rel (fun D H' x v=>∃ a u,v=.ref a∧a≠D∧RtAt H x u∧IsRule C_Word C_Back C_Call (fresh (del H b) H') a u.1 u.2) (fun D H' H'' x v kp r=>?_) itl (by rw [All2.len hts]; exact nts) (fun H' s=>SqL.of (s _ _ (sm _ _ hl4))) (fun D x H' ys Q' hx nD s5 hD k=>?_) fun D H5 vs nD s5 hD al=>?_
  ·obtain ⟨a,u,e,ne,rt,dx',ir⟩:=r
   exact ⟨a,u,e,ne,rt,dx',fr_kp kp _ _ ne ir⟩
  ·obtain ⟨j,hj⟩:=List.getElem?_of_mem hx
   obtain ⟨u,_,rt⟩:=hts.at hj
   obtain ⟨t',rfl,ht',ok'⟩:=id rt
   walk_at "sv"
   refine ⟨t',u.2,u.1,rfl,s5 _ _ (sm _ _ ht'),ok',fun a H6 na s6 ir=>k _ H6 s6 ⟨a,u,rfl,fun e=>?_,rt,?_⟩⟩
   ·rw [e,hD] at na
    cases na
   ·obtain ⟨dx',ir⟩:=ir
    exact ⟨dx',by rw [fr_at (del_none (sm.free (s5.free na)))]; exact ir⟩
  ·have ru:=rules_made hts al
   have hkd5:=s5 _ _ hkd
   have hc5:=hc4.same (fr_mono s5)
   have nd5:del H b kd=none:=del_none (s12.free nkd)
   have hkf:fresh (del H b) H5 kd=some (.dK (Dk ps)):=by rw [fr_at nd5]; exact hkd5
   have ek:ps.map (·.1)=(cs.take i).map (·.1):=hc4.keys
   have new:c.1∉ps.map (·.1):=by
    rw [ek,List.map_take]
    exact nodup_take nd (by rw [List.getElem?_map,ec]; rfl)
   have pl:ps.length≤i:=by
    have:=congrArg List.length ek
    rw [List.length_map,List.length_map,List.length_take] at this
    omega
   walk_at "sv"
   refine dputR_go hkd5 (look_no new) (by omega) ?_
   refine ⟨(sm.trans s5).put (s12.free nkd),_,_,_,rfl,upd_same,?_⟩
   rw [List.take_add_one,ec]
   rw [fr_upd nd5]
   refine (All2.imp hc5 fun _ _ r=>r.upd hkf).snoc ?_
   exact ChAt.upd ⟨rfl,nts,D,vs,rfl,by rw [fr_at (del_none (sm.free nD))]; exact hD,ru⟩ hkf
 ·obtain ⟨sm,ps,y4,z4,rfl,hkd,hc4⟩:=pv
  have hc4':ChsAt C_Word C_Back C_Call (fresh (del H b) H4) ps cs:=by
   rw [hlen,List.take_length] at hc4
   exact hc4
  walk_at "sv"
  have nd5:del H b kd=none:=del_none (s12.free nkd)
  have hkf:fresh (del H b) H4 kd=some (.dK (Dk ps)):=by rw [fr_at nd5]; exact hkd
  refine ⟨kd,ps,cs,rfl,hkd,hc4'.same fr_same,nd,?_,fun fl o H5 s5=>?_,fun n fl o x H5 s5 hx=>qn fd n fl x H5 ((sm.put (s12.free nkd)).trans s5) hx⟩
  ·intro c hc n hn
   obtain ⟨i,hi⟩:=List.getElem?_of_mem hc
   obtain ⟨v,_,t,l,ts,_,_,_,at2,_⟩:=All2.ix hh hi
   exact call_len at2 n hn
  obtain ⟨lens,hmain,l0,l60,q,qt,qr⟩:=qq fd fl
  have nok:NamesOk cs:=⟨nd,flack_none.mp fl,le,fun c hc=>(nsh c hc).2⟩
  obtain ⟨_,cl,_,oks⟩:=id nok
  have sm5:Same H H5:=(sm.put (s12.free nkd)).trans s5
  have hkd5:H5 kd=some (.frz o (.dK (Dk ps))):=s5 _ _ upd_same
  have hc5':ChsAt C_Word C_Back C_Call (fresh (del H b) (upd H4 kd (.frz o (.dK (Dk ps))))) ps cs:=by
   rw [fr_upd nd5]
   exact All2.imp hc4' fun _ _ r=>r.upd hkf
  have hc5:=hc5'.same (fr_mono s5)
  walk_at "sv"
  refine ⟨kd,o,ps,cs,G,len,rank,rfl,hkd5,hc5.same fr_same,nok,lens,fun ld ls H6 nld s6 hld lok al=>?_⟩
  have e2:ps.length=cs.length:=All2.len hc5
  have sm6:=sm5.trans s6
  walk_at "sv"
  refine lenDR_go (.inl hld) ?_
  walk_at "sv"
  refine lenDR_go (.inr ⟨o,s6 _ _ hkd5⟩) ?_
  walk_at "sv"
  by_cases good:∀ c∈cs,G c.1=true
  rotate_left
  ·have ex:∃ c∈cs,c.1∉ls.map (·.1):=by
    refine Classical.byContradiction fun no=>good fun c hc=>Classical.byContradiction fun g=>no ⟨c,hc,fun m=>g ((al c hc).mp m)⟩
   have lt:ls.length<cs.length:=by
    obtain ⟨c,hc,nc⟩:=ex
    have:=List.Nodup.length_le_of_subset (nd_snoc lok.1 nc) (l₂:=cs.map (·.1)) fun z hz=>by
     rcases List.mem_append.mp hz with hz | hz
     ·obtain ⟨p,hp,rfl⟩:=List.mem_map.mp hz
      exact (gd_mem (lok.2 p hp).1).2
     ·rw [List.mem_singleton.mp hz]
      exact List.mem_map_of_mem hc
    rw [List.length_append,List.length_map,List.length_map,List.length_singleton] at this
    omega
   rw [decide_eq_true (by omega)]
   walk_at "sv"
   have hc6:=(hc5.same fr_same).same s6
   refine ⟨kd,ld,o,ps,ls,cs,rfl,s6 _ _ hkd5,hc6,nok,.inl hld,lok.1,ex,fun c hc nc=>?_,fun l rs H7 s7 hl7 ring=>?_⟩
   ·refine Classical.byContradiction fun no=>nc ((al c hc).mpr (lens.up c hc fun n hn=>?_).1)
    refine Classical.byContradiction fun g=>no ⟨n,hn,fun m=>g (lok.g m)⟩
   ·refine raiseRing (hl:=hl7) ?_ ?_ fun l2 d H8 s8 hd h2=>qr good l2 d rs H8 (fun a x e=>s8 _ _ (s7 _ _ (sm6 _ _ e))) hd h2 ring
    ·have:=List.Nodup.length_le_of_subset ring.nd (l₂:=cs.map (·.1)) fun a ha=>ring.mem a ha
     rw [List.length_map] at this
     omega
    ·intro z hz
     obtain ⟨c,hc,rfl⟩:=List.mem_map.mp (ring.mem z hz)
     exact (nsh c hc).1
  have e1:ls.length=cs.length:=by
   refine Nat.le_antisymm (Nat.le_trans lok.le (gd_le _ _)) ?_
   have:=List.Nodup.length_le_of_subset nd (l₂:=ls.map (·.1)) fun z hz=>by
    obtain ⟨c,hc,rfl⟩:=List.mem_map.mp hz
    exact (al c hc).mpr (good c hc)
   rw [List.length_map,List.length_map] at this
   exact this
  have lkm:ls.lookup ("main":Str)=some (.int (len "main")):=by
   obtain ⟨c,hc,e⟩:=List.mem_map.mp hmain
   exact lok.look (e▸(al c hc).mpr (good c hc))
  rw [decide_eq_false (by omega)]
  walk_at "sv"
  refine dgetR_go (.inl hld) lkm ?_
  walk_at "sv"
  by_cases top:len "main"≤120
  rotate_left
  ·rw [decide_eq_true (by omega)]
   walk_at "sv"
   refine dgetR_go (.inl hld) lkm ?_
   exact raiseTot l0 l60 fun d H8 s8 hd=>qt good (by omega) d H8 (fun a x e=>s8 _ _ (sm6 _ _ e)) hd
  rw [decide_eq_false (by omega)]
  walk_at "sv"
  have hb6:=s6 _ _ (sm5 _ _ hb)
  have hkd6:=s6 _ _ hkd5
  have nek:kd≠b:=fun e=>by
   rw [e,hb6] at hkd6
   cases hkd6
  refine SFldR.go hb6 T.cls T.n_default (by simp) ?_
  rw [put_new]
  walk_at "sv"
  refine SFldR.go upd_same T.cls T.n_chains (by simp) ?_
  rw [put_two (by decide),upd_upd]
  walk_at "sv"
  have hld8:ld≠b:=fun e=>by
   rw [e,hb6] at hld
   cases hld
  refine SFldR.go upd_same T.cls T.n_lengths (by simp) ?_
  rw [put_three (by decide) (by decide),upd_upd]
  have kp0:∀ o',∀ a x,a≠b→H6 a=some x→upd H6 b o' a=some x:=fun o' a x ne e=>by
   rw [upd_ne ne]
   exact e
  refine q good top _ (fun a x ne e=>kp0 _ a x ne (s6 _ _ (sm5 _ _ e))) ?_
  rw [fr_upd del_same]
  have hbf:fresh (del H b) H6 b=some (.ins C_Book dx []):=by rw [fr_at del_same]; exact hb6
  have hcf:=hc5.same (fr_mono s6)
  have hkf6:fresh (del H b) H6 kd=some (.frz o (.dK (Dk ps))):=by rw [fr_at nd5]; exact hkd6
  have hlf6:fresh (del H b) H6 ld=some (.dK (Dk ls)):=by rw [fr_at (del_none (sm5.free nld))]; exact hld
  generalize fresh (del H b) H6=Hf at *
  have kp:∀ o',∀ a x,a≠b→Hf a=some x→upd Hf b o' a=some x:=fun o' a x ne e=>by
   rw [upd_ne ne]
   exact e
  refine ⟨dx,kd,o,ps,ld,ls,upd_same,kp _ _ _ nek hkf6,All2.imp hcf fun p c h=>?_,kp _ _ _ hld8 hlf6,fun c hc=>lok.look ((al c hc).mpr (good c hc))⟩
  obtain ⟨e,n,l,rs,e2,hl,r⟩:=h
  refine ⟨e,n,l,rs,e2,kp _ _ _ (ne_of hl hbf (by intro z; cases z)) hl,All2.imp r fun v u ru=>?_⟩
  obtain ⟨a,ea,dx',ha⟩:=ru
  refine ⟨a,ea,dx',kp _ _ _ (fun e=>?_) ha⟩
  rw [e,hbf] at ha
  injection ha with ha
  injection ha with h1 h2 h3
  exact Rl.fs_ne u.2 u.1 h3.symm
section
variable {H:Hp}{b ld:Addr}{df:Str}{cs:Chs}
theorem bk_lengths (kd:Addr):[(("default":Str),V.str df),("chains",V.ref kd),("lengths",V.ref ld)].lookup ("lengths":Str)=some (.ref ld):=by
 rw [List.lookup_cons,beq_eq_false_iff_ne.mpr (by decide),List.lookup_cons,beq_eq_false_iff_ne.mpr (by decide)]
 exact look_one _ _ _
end
theorem bk_no {df:Str}{kd ld:Addr}{m:Str}(h1:m≠"default")(h2:m≠"chains")(h3:m≠"lengths"):[(("default":Str),V.str df),("chains",V.ref kd),("lengths",V.ref ld)].lookup m=none:=by
 rw [List.lookup_cons,beq_eq_false_iff_ne.mpr h1,List.lookup_cons,beq_eq_false_iff_ne.mpr h2,List.lookup_cons,beq_eq_false_iff_ne.mpr h3]
 rfl
end
section
variable {C_Rule C_Word C_Back C_Call C_Book:Addr}
def spLength (C_Word C_Back C_Call C_Book:Addr):Sp:=fun vs H Q _=>∃ (b:Addr) (df:Str) (cs:Chs) (len:Str→Int),vs=[.ref b]∧IsBook C_Word C_Back C_Call C_Book H b df cs len∧("main":Str)∈cs.map (·.1)∧Q (.int (len "main")) H
theorem ok_Book_length (F:Fun K "length" "Book.length" s_Book_length f fd)(c_MAIN:∃ u,mg "MAIN"=some u∧RelV (.str "main") u)(T:TxB K C_Rule C_Word C_Back C_Call C_Book):FnOk P w K mg base CX0 1 f fd ["self"] (spLength C_Word C_Back C_Call C_Book):=by
 refine F.ok sc_Book_length (fun vs H Q E h=>?_) (fun cdv A outer s H vs Q E hr h=>?_)
 ·obtain ⟨_,_,_,_,rfl,_⟩:=h
  rfl
 obtain ⟨b,df,cs,len,rfl,⟨dx,kd,o,ps,ld,ls,hb,hkd,hc,hld,lks⟩,hm,q⟩:=h
 obtain ⟨_,m_MAIN,r_MAIN⟩:=c_MAIN
 refine ⟨_,(@pss_one _ _ _ (@ps_ret _ _ _ _ (@pe_dget _ _ _ _ _ _ (hu_of hr) (@pe_fld _ _ _ _ _ (pv 0) rfl) (@pe_glob _ _ _ _ _ rfl m_MAIN r_MAIN (by decide)) (fun _ _=>rfl)))),?_⟩
 rw [st_Book_length]
 walk_at "sv"
 refine FldR.go hb T.cls T.n_lengths (bk_lengths kd) ?_
 obtain ⟨c,hc',e⟩:=List.mem_map.mp hm
 have lk:=lks c hc'
 rw [e] at lk
 exact dgetR_go (.inl hld) lk q
end
--CUT--
abbrev Tots:=List (Str×Int)
def valT (ls:Tots)(z:Str):Int:=(ls.lookup z).getD 0
theorem look_noT {ls:Tots}{z:Str}(h:z∉ls.map (·.1)):ls.lookup z=none:=by
 induction ls with
 | nil=>rfl
 | cons q r ih =>
  rw [List.map_cons,List.mem_cons,not_or] at h
  rw [List.lookup_cons,beq_eq_false_iff_ne.mpr h.1]
  exact ih h.2
theorem look_inT {ls:Tots}{p:Str×Int}(nd:(ls.map (·.1)).Nodup)(h:p∈ls):ls.lookup p.1=some p.2:=by
 induction ls with
 | nil=>cases h
 | cons q r ih =>
  rw [List.map_cons,List.nodup_cons] at nd
  rw [List.lookup_cons]
  rcases List.mem_cons.mp h with rfl | h
  ·rw [beq_self_eq_true]
  ·have ne:p.1≠q.1:=fun e=>nd.1 (e▸List.mem_map_of_mem h)
   rw [beq_eq_false_iff_ne.mpr ne]
   exact ih nd.2 h
theorem look_appT (z y:Str)(v:Int):∀ ls:Tots,z∈ls.map (·.1)→(ls++[(y,v)]).lookup z=ls.lookup z
 | [],h=>by cases h
 | q::r,h=>by
  rw [List.cons_append,List.lookup_cons,List.lookup_cons]
  by_cases c:z=q.1
  ·rw [c,beq_self_eq_true]
  ·rw [beq_eq_false_iff_ne.mpr c]
   rw [List.map_cons,List.mem_cons] at h
   exact look_appT z y v r (h.resolve_left c)
theorem valT_app {ls:Tots}{z y:Str}{v:Int}(h:z∈ls.map (·.1)):valT (ls++[(y,v)]) z=valT ls z:=by
 unfold valT
 rw [look_appT z y v ls h]
theorem ch_inj {cs:Chs}{c c':Str×List Ru}(nd:(cs.map (·.1)).Nodup)(h:c∈cs)(h':c'∈cs)(e:c.1=c'.1):c=c':=by
 obtain ⟨i,hi⟩:=List.getElem?_of_mem h
 obtain ⟨j,hj⟩:=List.getElem?_of_mem h'
 have li:=(List.getElem?_eq_some_iff.mp hi).1
 have e1:(cs.map (·.1))[i]?=some c.1:=by rw [List.getElem?_map,hi]; rfl
 have e2:(cs.map (·.1))[j]?=some c.1:=by rw [List.getElem?_map,hj,e]; rfl
 have:=(List.getElem?_inj (by rw [List.length_map]; exact li) nd).mp (e1.trans e2.symm)
 rw [this,hj] at hi
 exact (Option.some.inj hi).symm
structure TInv (cs:Chs)(ls:Tots):Prop where
 nd:(ls.map (·.1)).Nodup
 aj:∀ (i:Nat) (p:Str×Int),ls[i]?=some p→∃ c∈cs,c.1=p.1∧(∀ n∈callsOf c.2,n∈(ls.take i).map (·.1))∧p.2=(c.2.length:Int)+((callsOf c.2).map (valT ls)).sum
theorem TInv.sub {cs:Chs}{ls:Tots}(h:TInv cs ls):∀ z∈ls.map (·.1),z∈cs.map (·.1):=fun z hz=>by
 obtain ⟨p,hp,rfl⟩:=List.mem_map.mp hz
 obtain ⟨i,hi⟩:=List.getElem?_of_mem hp
 obtain ⟨c,hc,e,_⟩:=h.aj i p hi
 rw [← e]
 exact List.mem_map_of_mem hc
theorem take_mem {ls:Tots}{i:Nat}{n:Str}(h:n∈(ls.take i).map (·.1)):n∈ls.map (·.1):=by
 obtain ⟨p,hp,rfl⟩:=List.mem_map.mp h
 exact List.mem_map_of_mem (List.mem_of_mem_take hp)
theorem TInv.snoc {cs:Chs}{ls:Tots}{c:Str×List Ru}(h:TInv cs ls)(hc:c∈cs)(new:c.1∉ls.map (·.1))(call:∀ n∈callsOf c.2,n∈ls.map (·.1)):TInv cs (ls++[(c.1,(c.2.length:Int)+((callsOf c.2).map (valT ls)).sum)]):=by
 refine ⟨by rw [List.map_append]; exact nd_snoc h.nd new,fun i p e=>?_⟩
 have l:=(List.getElem?_eq_some_iff.mp e).1
 rw [List.length_append,List.length_singleton] at l
 by_cases lt:i<ls.length
 ·rw [List.getElem?_append_left lt] at e
  obtain ⟨c',hc',e1,e2,e3⟩:=h.aj i p e
  refine ⟨c',hc',e1,?_,?_⟩
  ·rw [List.take_append_of_le_length (by omega)]
   exact e2
  ·rw [e3]
   congr 2
   exact (List.map_congr_left fun n hn=>valT_app (take_mem (e2 n hn))).symm
 ·obtain rfl:i=ls.length:=by omega
  rw [List.getElem?_append_right (Nat.le_refl _),Nat.sub_self] at e
  cases e
  refine ⟨c,hc,rfl,?_,?_⟩
  ·rw [List.take_left]
   exact call
  ·have e4:(callsOf c.2).map (valT (ls++[(c.1,(c.2.length:Int)+((callsOf c.2).map (valT ls)).sum)]))=(callsOf c.2).map (valT ls):=List.map_congr_left fun n hn=>valT_app (call n hn)
   rw [e4]
def GT (ls:Tots)(z:Str):Bool:=decide (z∈ls.map (·.1))
def rkT (ls:Tots)(z:Str):Nat:=(ls.map (·.1)).idxOf z
theorem idx_at {zs:List Str}{i:Nat}{n:Str}(nd:zs.Nodup)(h:zs[i]?=some n):zs.idxOf n=i:=by
 have hm:=List.mem_of_getElem? h
 have li:=(List.getElem?_eq_some_iff.mp h).1
 have lt:=List.idxOf_lt_length_of_mem hm
 have e:zs[zs.idxOf n]?=some n:=by
  rw [List.getElem?_eq_getElem lt]
  exact congrArg some (List.getElem_idxOf lt)
 exact (List.getElem?_inj lt nd).mp (e.trans h.symm)
theorem idx_lt {zs:List Str}{i:Nat}{n:Str}(nd:zs.Nodup)(h:n∈zs.take i):zs.idxOf n<i:=by
 obtain ⟨j,hj⟩:=List.getElem?_of_mem h
 rw [List.getElem?_take] at hj
 split at hj
 ·rw [idx_at nd hj]
  assumption
 ·cases hj
theorem TInv.at {cs:Chs}{ls:Tots}{c:Str×List Ru}(h:TInv cs ls)(nd:(cs.map (·.1)).Nodup)(hc:c∈cs)(m:c.1∈ls.map (·.1)):∃ i,(ls.map (·.1))[i]?=some c.1∧(∀ n∈callsOf c.2,n∈(ls.take i).map (·.1))∧valT ls c.1=(c.2.length:Int)+((callsOf c.2).map (valT ls)).sum:=by
 obtain ⟨p,hp,e⟩:=List.mem_map.mp m
 obtain ⟨i,hi⟩:=List.getElem?_of_mem hp
 obtain ⟨c',hc',e1,e2,e3⟩:=h.aj i p hi
 obtain rfl:=ch_inj nd hc' hc (e1.trans e)
 refine ⟨i,by rw [List.getElem?_map,hi]; exact congrArg some e,e2,?_⟩
 rw [← e3]
 unfold valT
 rw [← e,look_inT h.nd hp]
 rfl
theorem TInv.lenG {cs:Chs}{ls:Tots}(h:TInv cs ls)(nd:(cs.map (·.1)).Nodup)(r:readyOf cs (ls.map (·.1))=[]):LenG cs (GT ls) (valT ls) (rkT ls):=by
 refine ⟨fun c hc g=>?_,fun c hc g n hn=>?_⟩
 ·have m:c.1∈ls.map (·.1):=Classical.byContradiction fun no=>by
   have rd:rdy (ls.map (·.1)) c=true:=by
    unfold rdy
    rw [decide_eq_false no,decide_eq_true fun n hn=>of_decide_eq_true (g n hn)]
    rfl
   have:c.1∈readyOf cs (ls.map (·.1)):=List.mem_map_of_mem (List.mem_filter.mpr ⟨hc,rd⟩)
   rw [r] at this
   cases this
  obtain ⟨i,_,_,e⟩:=h.at nd hc m
  exact ⟨decide_eq_true m,e⟩
 ·obtain ⟨i,ei,e2,_⟩:=h.at nd hc (of_decide_eq_true g)
  have m:=e2 n hn
  refine ⟨decide_eq_true (take_mem m),?_⟩
  unfold rkT
  rw [idx_at h.nd ei]
  rw [List.map_take] at m
  exact idx_lt h.nd m
theorem sum_bnd {B:Int}:∀ {l:List Int},(∀ x∈l,0≤x∧x≤B)→0≤l.sum∧l.sum≤(l.length:Int) * B
 | [],_=>⟨Int.le_refl _,by rw [List.sum_nil,List.length_nil]; omega⟩
 | y::r,h=>by
  have h1:=h y List.mem_cons_self
  have h2:=sum_bnd (l:=r) fun x hx=>h x (List.mem_cons_of_mem _ hx)
  rw [List.sum_cons,List.length_cons,Int.natCast_add,Int.add_mul]
  omega
theorem TInv.bnd {cs:Chs}{ls:Tots}(h:TInv cs ls)(sz:∀ c∈cs,c.2.length≤130∧(callsOf c.2).length≤3):∀ (m i:Nat),i<m→∀ p,ls[i]?=some p→0≤p.2∧p.2≤130 * 4 ^ i:=by
 intro m
 induction m with
 | zero=>intro i lt; omega
 | succ m ih =>
  intro i lt p e
  obtain ⟨c,hc,_,e2,e3⟩:=h.aj i p e
  obtain ⟨s1,s2⟩:=sz c hc
  cases i with
  | zero =>
   have nil:callsOf c.2=[]:=List.eq_nil_iff_forall_not_mem.mpr fun n hn=>by
    have:=e2 n hn
    rw [List.take_zero] at this
    cases this
   rw [nil,List.map_nil,List.sum_nil] at e3
   rw [e3]
   omega
  | succ i =>
   have pw:(1:Int)≤4 ^ i:=Int.pow_pos (by decide)
   have b:=sum_bnd (B:=130 * 4 ^ i) (l:=(callsOf c.2).map (valT ls)) fun x hx=>by
    obtain ⟨n,hn,rfl⟩:=List.mem_map.mp hx
    obtain ⟨q,hq,eq⟩:=List.mem_map.mp (e2 n hn)
    obtain ⟨j,hj⟩:=List.getElem?_of_mem hq
    rw [List.getElem?_take] at hj
    split at hj
    ·have v:valT ls n=q.2:=by
      unfold valT
      rw [← eq,look_inT h.nd (List.mem_of_getElem? hj)]
      rfl
     have:=ih j (by omega) q hj
     have pj:(4:Int) ^ j≤4 ^ i:=by
      have:(4:Nat) ^ j≤4 ^ i:=Nat.pow_le_pow_right (by decide) (by omega)
      exact_mod_cast this
     rw [v]
     omega
    ·cases hj
   rw [List.length_map] at b
   have l3:((callsOf c.2).length:Int) * (130 * 4 ^ i)≤3 * (130 * 4 ^ i):=Int.mul_le_mul_of_nonneg_right (by omega) (by omega)
   rw [e3,Int.pow_succ]
   omega
theorem TInv.val {cs:Chs}{ls:Tots}(h:TInv cs ls)(sz:∀ c∈cs,c.2.length≤130∧(callsOf c.2).length≤3)(l9:ls.length≤20)(z:Str):0≤valT ls z∧valT ls z<10 ^ 60:=by
 unfold valT
 cases e:ls.lookup z with
 | none=>exact ⟨Int.le_refl _,by decide⟩
 | some v =>
  have m:z∈ls.map (·.1):=Classical.byContradiction fun no=>by
   rw [look_noT no] at e
   cases e
  obtain ⟨p,hp,rfl⟩:=List.mem_map.mp m
  rw [look_inT h.nd hp] at e
  cases e
  obtain ⟨i,hi⟩:=List.getElem?_of_mem hp
  have li:=(List.getElem?_eq_some_iff.mp hi).1
  have b:=h.bnd sz (i+1) i (Nat.lt_succ_self _) p hi
  have pj:(4:Int) ^ i≤4 ^ 20:=by
   have:(4:Nat) ^ i≤4 ^ 20:=Nat.pow_le_pow_right (by decide) (by omega)
   exact_mod_cast this
  refine ⟨b.1,?_⟩
  show p.2<10 ^ 60
  have:(4:Int) ^ 20=1099511627776:=by decide
  omega
theorem rounds_done {cs:Chs}{ks:List Str}(nd:ks.Nodup)(sub:∀ z∈ks,z∈cs.map (·.1))(h:readyOf cs ks=[]∨cs.length≤ks.length):readyOf cs ks=[]:=by
 rcases h with h | h
 ·exact h
 ·refine List.eq_nil_iff_forall_not_mem.mpr fun z hz=>?_
  obtain ⟨c,hc,rfl,no,_⟩:=readyOf_mem hz
  have:=List.Nodup.length_le_of_subset (nd_snoc nd no) (l₂:=cs.map (·.1)) fun z hz=>by
   rcases List.mem_append.mp hz with hz | hz
   ·exact sub z hz
   ·rw [List.mem_singleton.mp hz]
    exact List.mem_map_of_mem hc
  rw [List.length_append,List.length_map,List.length_singleton] at this
  omega
--CUT--
theorem ok_cell (F:Fun K "_law_cell_at" "_law_cell_at" s__law_cell_at f fd)(b_len:mg "len"=none):FnOk P w K mg base CX0 1 f fd ["_law_script","_law_k"] (spCell K):=by
 refine F.ok sc__law_cell_at (fun vs H Q E h=>?_) (fun cdv A outer s H vs Q E hr h=>?_)
 ·obtain ⟨a,ns,k,rfl,_⟩:=h
  rfl
 obtain ⟨a,ns,k,rfl,hS,h0,q⟩:=h
 obtain ⟨n,rfl⟩:=Int.eq_ofNat_of_zero_le h0
 refine ⟨_,(@pss_cons _ _ _ _ _ (@ps_if _ _ _ _ _ _ _ _ (@pt_cmpR _ _ _ _ _ _ _ _ op_lt (pv 1) (@pe_callB _ _ _ _ _ _ _ _ _ call_lenR rfl b_len bo_len (@pa_cons _ _ _ _ _ (pv 0) pa_nil (by rfl)) (by decide) (by decide) (by rfl) (by rfl)) (nomark _)) (@pss_one _ _ _ (@ps_ret _ _ _ _ (@pe_ix _ _ _ _ _ _ _ ix_list (pv 0) (pv 1) (fun _ _=>rfl)))) pss_nil) (@pss_one _ _ _ (@ps_ret _ _ _ _ pe_int))),?_⟩
 rw [st__law_cell_at]
 walk_at "sv"
 refine LenR.lst hS ?_
 walk_at "sv"
 rw [List.length_map]
 refine BrS.dec (fun c=>?_) (fun c=>?_)
 ·walk_at "sv"
  refine ixL_go hS (v:=.int (cell ns n)) ?_ q
  have hn:n<ns.length:=by omega
  rw [List.getElem?_map,List.getElem?_eq_getElem hn]
  unfold cell
  rw [Int.toNat_natCast,List.getD_eq_getElem?_getD,List.getElem?_eq_getElem hn]
  rfl
 ·walk_at "sv"
  have hn:ns.length≤n:=by omega
  have e:cell ns n=0:=by
   unfold cell
   rw [Int.toNat_natCast,List.getD_eq_getElem?_getD,List.getElem?_eq_none hn]
   rfl
  rw [e] at q
  exact q
theorem ok_whole (F:Fun K "_law_whole" "_law_whole" s__law_whole f fd)(b_isinstance:mg "isinstance"=none)(b_int:mg "int"=none)(b_bool:mg "bool"=none):FnOk P w K mg base CX0 1 f fd ["_law_found"] spWhole:=by
 refine F.ok sc__law_whole (fun vs H Q E h=>?_) (fun cdv A outer s H vs Q E hr h=>?_)
 ·obtain ⟨i,rfl,_⟩:=h
  rfl
 obtain ⟨i,rfl,q⟩:=h
 refine ⟨_,(@pss_one _ _ _ (@ps_ret _ _ _ _ (@pe_and _ _ _ _ _ _ _ (@pe_callB _ _ _ _ _ _ _ _ _ call_isi rfl b_isinstance bo_isinstance (@pa_cons _ _ _ _ _ (pv 0) (@pa_cons _ _ _ _ _ (@pe_bltn _ _ (.ty "int") (.type "int") _ rfl b_int bo_int rfl (by decide) (by decide)) pa_nil (by rfl)) (by rfl)) (by decide) (by decide) (by rfl) (by rfl)) (@pe_one _ _ _ _ _ (@pe_not _ _ _ _ (@pe_callB _ _ _ _ _ _ _ _ _ call_isi rfl b_isinstance bo_isinstance (@pa_cons _ _ _ _ _ (pv 0) (@pa_cons _ _ _ _ _ (@pe_bltn _ _ (.ty "bool") (.type "bool") _ rfl b_bool bo_bool rfl (by decide) (by decide)) pa_nil (by rfl)) (by rfl)) (by decide) (by decide) (by rfl) (by rfl))))))),?_⟩
 rw [st__law_whole]
 walk_at "sv"
 refine isi_int ?_
 walk_at "sv"
 refine isi_int_bool ?_
 walk_at "sv"
 exact q
def spStream:Sp:=fun vs H Q _=>∃ (c:Int) (k:Nat),vs=[.int c,.int (k:Int)]∧k≤100∧∀ (l:Addr) (ds:List Int) (H':Hp),H l=none→Same H H'→H' l=some (.lst (ds.map V.int))→ds.length=k→(∀ d∈ds,0≤d∧d<4294967311)→Q (.ref l) H'
theorem ok_stream (F:Fun K "_law_stream" "_law_stream" s__law_stream f fd)(b_range:mg "range"=none):FnOk P w K mg base CX0 1 f fd ["_law_cell","_law_many"] spStream:=by
 refine F.ok sc__law_stream (fun vs H Q E h=>?_) (fun cdv A outer s H vs Q E hr h=>?_)
 ·obtain ⟨_,_,rfl,_⟩:=h
  rfl
 obtain ⟨c,k,rfl,hk,q⟩:=h
 refine ⟨_,(@pss_cons _ _ _ _ _ (@ps_set _ _ (2) _ _ _ _ sc__law_stream.nd rfl (Or.inl rfl) (@pe_lst _ _ _ _ pa_nil) (by rfl) (by first | exact .inl rfl | exact .inr rfl | assumption)) (@pss_cons _ _ _ _ _ (@ps_set _ _ (3) _ _ _ _ sc__law_stream.nd rfl (Or.inl rfl) (@pe_op _ _ _ _ _ _ _ _ op_add (@pe_op _ _ _ _ _ _ _ _ op_mod (pv 0) pe_int) pe_int) (by rfl) (by first | exact .inl rfl | exact .inr rfl | assumption)) (@pss_cons _ _ _ _ _ (@ps_for _ _ _ _ _ _ _ _ PassesOwn.never rfl (@pi_range1 _ _ _ _ _ _ rfl b_range (@pa_cons _ _ _ _ _ (pv 1) pa_nil (by rfl)) (by rfl)) (@pg_name _ _ (4) _ sc__law_stream.nd rfl (Or.inl rfl) (by first | exact .inl rfl | exact .inr rfl | assumption)) (@pss_cons _ _ _ _ _ (@ps_set _ _ (3) _ _ _ _ sc__law_stream.nd rfl (Or.inl rfl) (@pe_op _ _ _ _ _ _ _ _ op_mod (@pe_op _ _ _ _ _ _ _ _ op_add (@pe_op _ _ _ _ _ _ _ _ op_add (@pe_op _ _ _ _ _ _ _ _ op_mul (pv 3) (pv 3)) (@pe_op _ _ _ _ _ _ _ _ op_mul pe_int (pv 3))) (pv 4)) pe_int) (by rfl) (by first | exact .inl rfl | exact .inr rfl | assumption)) (@pss_one _ _ _ (@ps_expr _ _ _ _ (@pe_bm _ _ _ _ _ _ _ _ _ _ _ _ PySem.F.plainAttrs_list PySem.F.slot_list_append PySem.F.type_list_append mt_append (pv 2) (@pa_cons _ _ _ _ _ (pv 3) pa_nil (by rfl)) (by rfl) (by rfl) (by rfl) (by rfl) (by rfl)) (by rfl)))) (by intro _; rfl)) (@pss_one _ _ _ (@ps_ret _ _ _ _ (pv 2)))))),?_⟩
 rw [st__law_stream]
 walk_at "sv"
 refine LstR.go (by simp) fun l hl=>?_
 have s0:=same_new hl (.lst [])
 refine ⟨by decide,?_⟩
 have m0:=Int.emod_nonneg c (show (4294967311:Int)≠0 by decide)
 have m1:=Int.emod_lt_of_pos c (show (0:Int)<4294967311 by decide)
 generalize c % 4294967311=n0 at *
 refine RngR.go (by omega) (by omega) ?_
 rw [Int.toNat_natCast]
 refine ForR.range (fun i σ H'=>Same H H'∧∃ (ds:List Int) (n:Int) (y:Option V),H' l=some (.lst (ds.map V.int))∧ds.length=i∧(∀ d∈ds,0≤d∧d<4294967311)∧0≤n∧n<4295015582∧σ=[some (.int c),some (.int (k:Int)),some (.ref l),some (.int n),y]) ⟨s0,[],n0+48271,none,upd_same,rfl,(fun d hd=>by cases hd),by omega,by omega,rfl⟩ (fun i σ H1 hi pv=>?_) (fun σ H1 pv=>?_)
 ·obtain ⟨sm,ds,n,y,hl1,dl,al,n1,n2,rfl⟩:=pv
  walk_at "sv"
  refine ⟨.inl ⟨by omega,by omega⟩,.inl ⟨by decide,by decide⟩,by decide,?_⟩
  generalize n * n+69621 * n+(0+(i:Int))=z
  have z0:=Int.emod_nonneg z (show (4294967311:Int)≠0 by decide)
  have z1:=Int.emod_lt_of_pos z (show (0:Int)<4294967311 by decide)
  generalize z % 4294967311=d at *
  refine ⟨ty_lst hl1,?_⟩
  refine app_go hl1 (by rw [List.length_map]; omega) ?_
  refine ⟨sm.put hl,ds++[d],d,_,by rw [upd_same,List.map_append]; rfl,by rw [List.length_append,dl]; rfl,(fun x hx=>?_),z0,by omega,rfl⟩
  rcases List.mem_append.mp hx with hx | hx
  ·exact al x hx
  ·obtain rfl:=List.mem_singleton.mp hx
   exact ⟨z0,z1⟩
 ·obtain ⟨sm,ds,n,y,hl1,dl,al,n1,n2,rfl⟩:=pv
  walk_at "sv"
  exact q l ds H1 hl sm hl1 dl al
def topsI:List Int:=[3,255,4294967295,65535,4294967295,65535]
theorem tops_at {i:Nat}(h:i<6):∃ t:Int,topsI[i]?=some t∧(topsI.map V.int)[i]?=some (.int t)∧0≤t∧t<2 ^ 33:=by
 have e:i=0∨i=1∨i=2∨i=3∨i=4∨i=5:=by omega
 rcases e with rfl | rfl | rfl | rfl | rfl | rfl <;> exact ⟨_,rfl,rfl,by decide,by decide⟩
theorem ints_at {ds:List Int}{i:Nat}(h:i<ds.length):∃ d,ds[i]?=some d∧(ds.map V.int)[i]?=some (.int d):=⟨ds[i],List.getElem?_eq_getElem h,by rw [List.getElem?_map,List.getElem?_eq_getElem h]; rfl⟩
def abc:Str:="abcdefghijklmnopqrstuvwxyz"
theorem abc_len:abc.cps.toList.length=26:=by decide
def letS (d:Int):Str:=⟨#[abc.cps.toList.getD (d % 26).toNat 0]⟩
def letV:V→V
 | .int d=>.str (letS d)
 | _=>.non
theorem let_at (d:Int):atI abc.cps.toList (d % 26)=some (abc.cps.toList.getD (d % 26).toNat 0):=by
 have m0:=Int.emod_nonneg d (show (26:Int)≠0 by decide)
 have m1:=Int.emod_lt_of_pos d (show (0:Int)<26 by decide)
 obtain ⟨n,en⟩:=Int.eq_ofNat_of_zero_le m0
 rw [en,Int.toNat_natCast]
 have hn:n<abc.cps.toList.length:=by rw [abc_len]; omega
 refine atI_nat ?_
 rw [List.getD_eq_getElem?_getD,List.getElem?_eq_getElem hn]
 rfl
theorem let_ok (d:Int):(letS d).length=1∧PyData.strOk (letS d)=true:=by
 refine ⟨rfl,?_⟩
 have m0:=Int.emod_nonneg d (show (26:Int)≠0 by decide)
 have m1:=Int.emod_lt_of_pos d (show (0:Int)<26 by decide)
 unfold letS
 generalize (d % 26).toNat=k
 have al:∀ c∈abc.cps.toList,c<1114112:=by decide
 have:abc.cps.toList.getD k 0<1114112:=by
  rw [List.getD_eq_getElem?_getD]
  cases e:abc.cps.toList[k]? with
  | none=>decide
  | some c=>exact al c (List.mem_of_getElem? e)
 show (#[abc.cps.toList.getD k 0]:Array Nat).all _=true
 generalize abc.cps.toList.getD k 0=c at this
 simp [this]
theorem strOk_app (a b:Str):PyData.strOk (a++b)=(PyData.strOk a && PyData.strOk b):=by
 show (a.cps++b.cps).all _=_
 rw [Array.all_append]
 rfl
theorem join_small:∀ ws:List Str,(∀ x∈ws,x.length=1∧PyData.strOk x=true)→(Str.join "" ws).length=ws.length∧PyData.strOk (Str.join "" ws)=true∧(ws.map (·.length)).sum=ws.length
 | [],_=>⟨rfl,by decide +kernel,rfl⟩
 | [x],h=>by
  obtain ⟨h1,h2⟩:=h x List.mem_cons_self
  exact ⟨h1,h2,by simp [h1]⟩
 | x::y::r,h=>by
  obtain ⟨h1,h2⟩:=h x List.mem_cons_self
  obtain ⟨i1,i2,i3⟩:=join_small (y::r) fun z hz=>h z (List.mem_cons_of_mem _ hz)
  have e:Str.join "" (x::y::r)=x++""++Str.join "" (y::r):=rfl
  refine ⟨?_,?_,?_⟩
  ·rw [e,Str.length_append,Str.length_append,i1,h1,show ("":Str).length=0 from rfl,List.length_cons (a:=x)]
   omega
  ·rw [e,strOk_app,strOk_app,h2,i2]
   decide +kernel
  ·rw [List.map_cons,List.sum_cons,i3,h1,List.length_cons (a:=x)]
   omega
theorem app_ok {x y:Str}(hx:PyData.strOk x=true)(hy:PyData.strOk y=true):PyData.strOk (x++y)=true:=by
 rw [strOk_app,hx,hy]
 rfl
def NmOk (z:Str):Prop:=PyData.strOk z=true∧z.length≤40
def zN (b:Str)(a:Nat)(e:Int):Str:=(cutS b 0 a++letS e)++cutS b (a+1) b.length
theorem zN_inj {b:Str}{a:Nat}{e e':Int}(h:zN b a e=zN b a e'):e % 26=e' % 26:=by
 have l:=congrArg (fun x:Str=>x.cps.toList) h
 unfold zN at l
 simp only [app_list] at l
 have l1:=List.append_cancel_left (List.append_cancel_right l)
 have m0:=Int.emod_nonneg e (show (26:Int)≠0 by decide)
 have m1:=Int.emod_lt_of_pos e (show (0:Int)<26 by decide)
 have m2:=Int.emod_nonneg e' (show (26:Int)≠0 by decide)
 have m3:=Int.emod_lt_of_pos e' (show (0:Int)<26 by decide)
 have key:∀ i:Fin 26,∀ j:Fin 26,abc.cps.toList.getD i.val 0=abc.cps.toList.getD j.val 0→i=j:=by decide +kernel
 have l2:abc.cps.toList.getD (e % 26).toNat 0=abc.cps.toList.getD (e' % 26).toNat 0:=(List.cons.inj l1).1
 have:=congrArg Fin.val (key ⟨(e % 26).toNat,by omega⟩ ⟨(e' % 26).toNat,by omega⟩ l2)
 have:(e % 26).toNat=(e' % 26).toNat:=this
 omega
theorem zN_len {b:Str}{a:Nat}{e:Int}(h:a+1≤b.length):(zN b a e).length=b.length:=by
 unfold zN
 rw [Str.length_append,Str.length_append,cutS_length (by omega),cutS_length (Nat.le_refl _),(let_ok e).1]
 omega
def nmF (b:Str)(a:Nat)(d:Int)(j:Nat):Str:=if zN b a (d+(1+(j:Int)))="main" then "mains" else zN b a (d+(1+(j:Int)))
theorem nmF_ne (b:Str)(a:Nat)(d:Int)(j:Nat):nmF b a d j≠"main":=by
 unfold nmF
 split
 ·decide
 ·rename_i h
  exact h
theorem nmF_inj {b:Str}{a:Nat}{d:Int}{i j:Nat}(h:a+1≤b.length)(hi:i<20)(hj:j<20)(e:nmF b a d i=nmF b a d j):i=j:=by
 have fin:zN b a (d+(1+(i:Int)))=zN b a (d+(1+(j:Int)))→i=j:=fun z=>by
  have:=zN_inj z
  omega
 have l5:("mains":Str).length=5:=by decide
 have l4:("main":Str).length=4:=by decide
 unfold nmF at e
 split at e <;> split at e
 ·rename_i h1 h2
  exact fin (h1.trans h2.symm)
 ·rename_i h1 h2
  have a1:=congrArg Str.length e
  have a2:=congrArg Str.length h1
  rw [zN_len h] at a1 a2
  omega
 ·rename_i h1 h2
  have a1:=congrArg Str.length e
  have a2:=congrArg Str.length h2
  rw [zN_len h] at a1 a2
  omega
 ·exact fin e
def nmsF (b:Str)(a:Nat)(d:Int)(i:Nat):List Str:=("main":Str)::(List.range i).map (nmF b a d)
theorem nmsF_nd {b:Str}{a:Nat}{d:Int}{i:Nat}(h:a+1≤b.length)(hi:i<20):(nmsF b a d i).Nodup:=by
 unfold nmsF
 rw [List.nodup_cons]
 refine ⟨fun hm=>?_,nodup_map_on (fun x hx y hy e=>nmF_inj h ?_ ?_ e) List.nodup_range⟩
 ·obtain ⟨j,_,e⟩:=List.mem_map.mp hm
  exact nmF_ne b a d j e
 ·have:=List.mem_range.mp hx
  omega
 ·have:=List.mem_range.mp hy
  omega
theorem nmsF_ok {b:Str}{a:Nat}{d:Int}{i:Nat}(h:a+1≤b.length)(l:b.length≤12)(bo:PyData.strOk b=true):∀ z∈nmsF b a d i,NmOk z:=fun z hz=>by
 rcases List.mem_cons.mp hz with rfl | hz
 ·exact ⟨by decide +kernel,by decide⟩
 ·obtain ⟨j,_,rfl⟩:=List.mem_map.mp hz
  unfold nmF
  split
  ·exact ⟨by decide +kernel,by decide⟩
  ·exact ⟨app_ok (app_ok (cutS_ok bo) (let_ok _).2) (cutS_ok bo),by rw [zN_len h]; omega⟩
def spNms:Sp:=fun vs H Q _=>∃ (c:Int) (k:Nat),vs=[.int c,.int (k:Int)]∧1≤k∧k≤9∧∀ (l:Addr) (zs:List Str) (H':Hp),H l=none→Same H H'→H' l=some (.lst (zs.map V.str))→zs.length=k→zs.Nodup→zs[0]?=some ("main":Str)→(∀ z∈zs,NmOk z)→Q (.ref l) H'
theorem ok_names (F:Fun K "_law_names" "_law_names" s__law_names f fd)(g__law_stream:Fn P w K mg base "_law_stream" 1 ["_law_cell","_law_many"] spStream)(b_range:mg "range"=none):FnOk P w K mg base CX0 2 f fd ["_law_cell","_law_many"] spNms:=by
 refine F.ok sc__law_names (fun vs H Q E h=>?_) (fun cdv A outer s H vs Q E hr h=>?_)
 ·obtain ⟨_,_,rfl,_⟩:=h
  rfl
 obtain ⟨c,k,rfl,k1,k5,q⟩:=h
 refine ⟨_,(@pss_cons _ _ _ _ _ (@ps_set _ _ (2) _ _ _ _ sc__law_names.nd rfl (Or.inr rfl) pe_str (by rfl) (by first | exact .inl rfl | exact .inr rfl | assumption)) (@pss_cons _ _ _ _ _ (@ps_set _ _ (3) _ _ _ _ sc__law_names.nd rfl (Or.inl rfl) (@pe_fn _ _ _ _ _ _ _ _ _ _ _ g__law_stream hr (by decide) rfl (@pa_cons _ _ _ _ _ (pv 0) (@pa_cons _ _ _ _ _ pe_int pa_nil (by rfl)) (by rfl)) (by decide) (by rfl) (by rfl)) (by rfl) (by first | exact .inl rfl | exact .inr rfl | assumption)) (@pss_cons _ _ _ _ _ (@ps_set _ _ (4) _ _ _ _ sc__law_names.nd rfl (Or.inl rfl) (@pe_op _ _ _ _ _ _ _ _ op_add pe_int (@pe_op _ _ _ _ _ _ _ _ op_mod (@pe_ix _ _ _ _ _ _ _ ix_list (pv 3) pe_int (fun _ _=>rfl)) pe_int)) (by rfl) (by first | exact .inl rfl | exact .inr rfl | assumption)) (@pss_cons _ _ _ _ _ (@ps_set _ _ (5) _ _ _ _ sc__law_names.nd rfl (Or.inl rfl) (@pe_op _ _ _ _ _ _ _ _ op_mod (@pe_ix _ _ _ _ _ _ _ ix_list (pv 3) pe_int (fun _ _=>rfl)) (pv 4)) (by rfl) (by first | exact .inl rfl | exact .inr rfl | assumption)) (@pss_cons _ _ _ _ _ (@ps_set _ _ (6) _ _ _ _ sc__law_names.nd rfl (Or.inl rfl) (@pe_bm _ _ _ _ _ _ _ _ _ _ _ _ PySem.F.plainAttrs_str PySem.F.slot_str_join PySem.F.type_str_join mt_join pe_str (@pa_cons _ _ _ _ _ (@pe_comp _ _ (["_law_draw"]) ([2]) _ _ _ _ _ _ _ _ _ rfl (COk.of (out:=defScope s__law_names) (N:=["_law_cell","_law_many","_law_letters","_law_draws","_law_size","_law_at","_law_base","_law_names_here","_law_k","_law_sign","_law_name"]) rfl rfl (by decide +kernel)) (@pi_list _ _ _ _ (@pe_slice _ _ _ _ _ _ _ _ _ _ sl_list (pv 3) (@po_some _ _ _ pe_int) (@po_some _ _ _ (@pe_op _ _ _ _ _ _ _ _ op_add pe_int (pv 4))))) (fun _ _ _=>(@pg_name _ _ (0) _ (show List.Nodup (["_law_draw","_law_letters"]:List Str) by decide +kernel) rfl (Or.inl rfl) (by first | exact .inl rfl | exact .inr rfl | assumption))) (fun _ _ _=>pifs_nil) (fun _ _ _=>(@pe_ix _ _ _ _ _ _ _ ix_str (pv 1) (@pe_op _ _ _ _ _ _ _ _ op_mod (pv 0) pe_int) (fun _ _=>rfl))) (by intro _; rfl)) pa_nil (by rfl)) (by rfl) (by rfl) (by rfl) (by rfl) (by rfl)) (by rfl) (by first | exact .inl rfl | exact .inr rfl | assumption)) (@pss_cons _ _ _ _ _ (@ps_set _ _ (7) _ _ _ _ sc__law_names.nd rfl (Or.inl rfl) (@pe_lst _ _ _ _ (@pa_cons _ _ _ _ _ pe_str pa_nil (by rfl))) (by rfl) (by first | exact .inl rfl | exact .inr rfl | assumption)) (@pss_cons _ _ _ _ _ (@ps_for _ _ _ _ _ _ _ _ PassesOwn.never rfl (@pi_range2 _ _ _ _ _ _ _ rfl b_range (@pa_cons _ _ _ _ _ pe_int (@pa_cons _ _ _ _ _ (pv 1) pa_nil (by rfl)) (by rfl)) (by rfl) (by rfl)) (@pg_name _ _ (8) _ sc__law_names.nd rfl (Or.inl rfl) (by first | exact .inl rfl | exact .inr rfl | assumption)) (@pss_cons _ _ _ _ _ (@ps_set _ _ (9) _ _ _ _ sc__law_names.nd rfl (Or.inl rfl) (@pe_ix _ _ _ _ _ _ _ ix_str (pv 2) (@pe_op _ _ _ _ _ _ _ _ op_mod (@pe_op _ _ _ _ _ _ _ _ op_add (@pe_ix _ _ _ _ _ _ _ ix_list (pv 3) (@pe_op _ _ _ _ _ _ _ _ op_add pe_int (pv 5)) (fun _ _=>rfl)) (pv 8)) pe_int) (fun _ _=>rfl)) (by rfl) (by first | exact .inl rfl | exact .inr rfl | assumption)) (@pss_cons _ _ _ _ _ (@ps_set _ _ (10) _ _ _ _ sc__law_names.nd rfl (Or.inl rfl) (@pe_op _ _ _ _ _ _ _ _ op_addS (@pe_op _ _ _ _ _ _ _ _ op_addS (@pe_slice _ _ _ _ _ _ _ _ _ _ sl_str (pv 6) po_none (@po_some _ _ _ (pv 5))) (pv 9)) (@pe_slice _ _ _ _ _ _ _ _ _ _ sl_str (pv 6) (@po_some _ _ _ (@pe_op _ _ _ _ _ _ _ _ op_add (pv 5) pe_int)) po_none)) (by rfl) (by first | exact .inl rfl | exact .inr rfl | assumption)) (@pss_cons _ _ _ _ _ (@ps_if _ _ _ _ _ _ _ _ (@pt_cmpR _ _ _ _ _ _ _ _ op_eq (pv 10) pe_str (nomark _)) (@pss_one _ _ _ (@ps_set _ _ (10) _ _ _ _ sc__law_names.nd rfl (Or.inl rfl) pe_str (by rfl) (by first | exact .inl rfl | exact .inr rfl | assumption))) pss_nil) (@pss_one _ _ _ (@ps_expr _ _ _ _ (@pe_bm _ _ _ _ _ _ _ _ _ _ _ _ PySem.F.plainAttrs_list PySem.F.slot_list_append PySem.F.type_list_append mt_append (pv 7) (@pa_cons _ _ _ _ _ (pv 10) pa_nil (by rfl)) (by rfl) (by rfl) (by rfl) (by rfl) (by rfl)) (by rfl)))))) (by intro _; rfl)) (@pss_one _ _ _ (@ps_ret _ _ _ _ (pv 7)))))))))),?_⟩
 rw [st__law_names]
 walk_at "sv"
 refine ⟨c,14,rfl,by decide,fun ld ds H2 nd s12 hd dl al=>?_⟩
 obtain ⟨d0,_,e0⟩:=ints_at (show 0<ds.length by omega)
 obtain ⟨d1,_,e1⟩:=ints_at (show 1<ds.length by omega)
 have c0:=Int.emod_nonneg d0 (show (12:Int)≠0 by decide)
 have c1:=Int.emod_lt_of_pos d0 (show (0:Int)<12 by decide)
 obtain ⟨n0,en⟩:=Int.eq_ofNat_of_zero_le c0
 have en:1+d0 % 12=((n0+1:Nat):Int):=by omega
 have n1:n0+1≤12:=by omega
 generalize n0+1=n at *
 have a0:=Int.emod_nonneg d1 (show (n:Int)≠0 by omega)
 have a1:=Int.emod_lt_of_pos d1 (show (0:Int)<(n:Int) by omega)
 obtain ⟨a,ea⟩:=Int.eq_ofNat_of_zero_le a0
 have ea:d1 % (n:Int)=(a:Int):=ea
 walk_at "sv"
 refine ixL_go (i:=0) (SqL.of hd) e0 ?_
 walk_at "sv"
 refine ⟨by decide,?_⟩
 rw [en]
 refine ixL_go (i:=1) (SqL.of hd) e1 ?_
 walk_at "sv"
 refine ⟨by omega,?_⟩
 rw [ea]
 refine PartR.go ?_
 walk_at "sv"
 refine PartR.go ?_
 rw [show (2:Int)+(n:Int)=((2+n:Nat):Int) by omega]
 refine slMid_go (k:=2) (SqL.of hd) (by rw [List.length_map]; omega) (by rw [List.length_map]; omega) fun lc nc=>?_
 rw [← List.map_drop,← List.map_take,show 2+n - 2=n by omega]
 have bl:((ds.drop 2).take n).length=n:=by
  rw [List.length_take,List.length_drop]
  omega
 have s3:=same_new nc (.lst (((ds.drop 2).take n).map V.int))
 have hc3:=upd_same (H:=H2) (a:=lc) (o:=.lst (((ds.drop 2).take n).map V.int))
 generalize upd H2 lc (.lst (((ds.drop 2).take n).map V.int))=H3 at *
 generalize (ds.drop 2).take n=bs at *
 refine IlR.go (SqL.of hc3) ?_
 refine CmpR.mapS letV itl (by rw [List.length_map]; omega) (fun H' sm=>sm.seq (SqL.of hc3)) (fun x H' Q' hx sm q'=>?_) (fun D H4 hD s4 hl4=>?_)
 ·obtain ⟨d,_,rfl⟩:=List.mem_map.mp hx
  walk_at "sv"
  refine ⟨by decide,?_⟩
  exact ⟨abc,_,_,rfl,rfl,by decide,let_at d,q' _ (Same.refl _)⟩
 have ew:(bs.map V.int).map letV=(bs.map letS).map V.str:=by
  rw [List.map_map,List.map_map]
  rfl
 rw [ew] at hl4
 have js:=join_small (bs.map letS) fun x hx=>by
  obtain ⟨d,_,rfl⟩:=List.mem_map.mp hx
  exact let_ok d
 walk_at "sv"
 refine join_go (SqL.of hl4) (joinOk_small (by rw [js.2.2,List.length_map,show ("":Str).length=0 from rfl]; omega)) ?_
 have bn:(Str.join "" (bs.map letS)).length=n:=by rw [js.1,List.length_map,bl]
 have bo:=js.2.1
 generalize Str.join "" (bs.map letS)=b at *
 have hd4:=s4 _ _ (s3 _ _ hd)
 have s14:=(s12.trans s3).trans s4
 obtain ⟨d2,_,e2⟩:=ints_at (show 2+a<ds.length by omega)
 walk_at "sv"
 refine LstR.go (by simp) fun l nl=>?_
 have s5:=same_new nl (.lst [.str "main"])
 refine Rng2R.go ⟨by decide,by decide,by omega,by omega⟩ ?_
 rw [show ((k:Int) - 1).toNat=k - 1 by omega]
 refine ForR.range (fun i σ H'=>Same H4 H'∧∃ (y1 y2 y3:Option V),H' l=some (.lst ((nmsF b a d2 i).map V.str))∧σ=[some (.int c),some (.int (k:Int)),some (.str abc),some (.ref ld),some (.int (n:Int)),some (.int (a:Int)),some (.str b),some (.ref l),y1,y2,y3])
  ⟨s5,none,none,none,upd_same,rfl⟩ (fun i σ H5 hi pv=>?_) (fun σ H5 pv=>?_)
 ·obtain ⟨sm,y1,y2,y3,hl5,rfl⟩:=pv
  have hd5:=sm _ _ hd4
  walk_at "sv"
  rw [show (2:Int)+(a:Int)=((2+a:Nat):Int) by omega]
  refine ixL_go (SqL.of hd5) e2 ?_
  walk_at "sv"
  refine ⟨by decide,?_⟩
  refine ⟨abc,_,_,rfl,rfl,by decide,let_at _,?_⟩
  walk_at "sv"
  have lo:=let_ok (d2+(1+(i:Int)))
  have w1:=cutS_length (z:=b) (k:=0) (j:=a) (by omega)
  have w2:=cutS_length (z:=b) (k:=a+1) (j:=b.length) (Nat.le_refl _)
  refine PartR.go ?_
  refine slS_to (by omega) (by omega) ?_
  refine addS_go (j:=letS (d2+(1+(i:Int)))) (by rw [w1,lo.1]; omega) ?_
  refine PartR.go ?_
  rw [show (a:Int)+1=((a+1:Nat):Int) from rfl]
  refine slS_from (by omega) (by omega) ?_
  have w3:(cutS b 0 a++letS (d2+(1+(i:Int)))).length=a+1:=by
   rw [Str.length_append,w1,lo.1]
   omega
  refine addS_go (by rw [w3,w2]; omega) ?_
  have fin:∀ z,nmF b a d2 i=z→upd H5 l (.lst ((nmsF b a d2 i).map V.str++[V.str z])) l=some (.lst ((nmsF b a d2 (i+1)).map V.str)):=fun z e=>by
   rw [upd_same]
   unfold nmsF
   rw [List.range_succ,List.map_append,List.map_cons,List.map_cons,List.map_append,← e]
   rfl
  have lz:((nmsF b a d2 i).map V.str).length≤1000:=by
   rw [List.length_map]
   unfold nmsF
   rw [List.length_cons,List.length_map,List.length_range]
   omega
  have ez:(cutS b 0 a++letS (d2+(1+(i:Int))))++cutS b (a+1) b.length=zN b a (d2+(1+(i:Int))):=rfl
  rw [ez]
  walk_at "sv"
  refine BrS.dec (fun c1=>?_) (fun c1=>?_)
  ·walk_at "sv"
   refine ⟨ty_lst hl5,?_⟩
   refine app_go hl5 lz ?_
   exact ⟨sm.put nl,_,_,_,fin _ (by unfold nmF; rw [if_pos c1]),rfl⟩
  ·walk_at "sv"
   refine ⟨ty_lst hl5,?_⟩
   refine app_go hl5 lz ?_
   exact ⟨sm.put nl,_,_,_,fin _ (by unfold nmF; rw [if_neg c1]),rfl⟩
 ·obtain ⟨sm,y1,y2,y3,hl5,rfl⟩:=pv
  walk_at "sv"
  have ln:(nmsF b a d2 (k - 1)).length=k:=by
   unfold nmsF
   rw [List.length_cons,List.length_map,List.length_range]
   omega
  exact q l _ H5 (s14.free nl) (s14.trans sm) hl5 ln (nmsF_nd (by omega) (by omega)) rfl (nmsF_ok (by omega) (by omega) bo)
--CUT--
theorem seq_hid {t u:TS}{D:Ends}{σ:L2.St}{H:Hp}(h:∀ N:L2.St→Hp→Prop,(∀ σ H,u D σ H→N σ H)→t { D with nx:=N } σ H):tSeq t u D σ H:=h _ fun _ _ z=>z
theorem RtAt.mono {H H':Hp}{v:V}{u:Ru}(h:RtAt H v u)(k:∀ a xs,H a=some (.tup xs)→H' a=some (.tup xs)):RtAt H' v u:=by
 obtain ⟨t,e,h,o⟩:=h
 exact ⟨t,e,k _ _ h,o⟩
theorem upd_tupT {H:Hp}{l:Addr}{ts ts':List V}(h:H l=some (.lst ts)):∀ x xs,H x=some (.tup xs)→upd H l (.lst ts') x=some (.tup xs):=fun x xs e=>(upd_ne fun z=>by
 rw [z,h] at e
 cases e).trans e
def RsT (H:Hp)(ls:List Addr)(uss:List (List Ru)):Prop:=uss.length=ls.length∧∀ (b:Nat) (l:Addr) (us:List Ru),ls[b]?=some l→uss[b]?=some us→∃ ts,H l=some (.lst ts)∧All2 (RtAt H) ts us
theorem RsT.same {H H':Hp}{ls:List Addr}{uss:List (List Ru)}(h:RsT H ls uss)(s:Same H H'):RsT H' ls uss:=by
 refine ⟨h.1,fun b l us e1 e2=>?_⟩
 obtain ⟨ts,h1,h2⟩:=h.2 b l us e1 e2
 exact ⟨ts,s _ _ h1,All2.imp h2 fun _ _ r=>r.same s⟩
theorem RsT.app {H:Hp}{ls:List Addr}{uss:List (List Ru)}{a:Nat}{l:Addr}{us:List Ru}{v:V}{u:Ru}{ts:List V}(h:RsT H ls uss)(nd:ls.Nodup)(e1:ls[a]?=some l)(e2:uss[a]?=some us)(ht:H l=some (.lst ts))(hv:RtAt H v u):RsT (upd H l (.lst (ts++[v]))) ls (uss.set a (us++[u])):=by
 refine ⟨by rw [List.length_set]; exact h.1,fun b l' us' f1 f2=>?_⟩
 have k:∀ x xs,H x=some (.tup xs)→upd H l (.lst (ts++[v])) x=some (.tup xs):=upd_tupT ht
 by_cases c:a=b
 ·subst c
  rw [e1] at f1
  cases f1
  have lt:a<uss.length:=(List.getElem?_eq_some_iff.mp e2).1
  rw [List.getElem?_set_self lt] at f2
  cases f2
  obtain ⟨ts',h1,h2⟩:=h.2 a l us e1 e2
  rw [ht] at h1
  cases h1
  exact ⟨_,upd_same,(All2.imp h2 fun _ _ r=>r.mono k).snoc (hv.mono k)⟩
 ·rw [List.getElem?_set_ne c] at f2
  obtain ⟨ts',h1,h2⟩:=h.2 b l' us' f1 f2
  have ne:l'≠l:=fun e=>c ((List.getElem?_inj (List.getElem?_eq_some_iff.mp e1).1 nd).mp (e1.trans (e▸f1.symm)))
  exact ⟨ts',by rw [upd_ne ne]; exact h1,All2.imp h2 fun _ _ r=>r.mono k⟩
structure LI (zs:List Str)(H:Hp)(D:Addr)(ls:List Addr):Prop where
 nd:ls.Nodup
 nD:D∉ls
 fr:∀ l∈ls,H l=none
 len:ls.length=zs.length
theorem callsOf_snoc (us:List Ru)(u:Ru):callsOf (us++[u])=callsOf us++(callOf u).toList:=by
 unfold callsOf
 rw [List.filterMap_append]
 congr 1
def callV (H:Hp):V→Option V
 | .ref a=>match H a with
  | some (.tup [_,_,n])=>some n
  | _=>none
 | _=>none
theorem callV_at {H:Hp}{v:V}{u:Ru}(h:RtAt H v u):callV H v=(callOf u).map V.str:=by
 obtain ⟨t,rfl,h,_⟩:=h
 obtain ⟨r,p⟩:=u
 cases r with
 | word w=>simp only [callV,h,Rl.told]; rfl
 | back=>simp only [callV,h,Rl.told]; rfl
 | call n=>simp only [callV,h,Rl.told]; rfl
theorem calls_list {H:Hp}{vs:List V}{us:List Ru}(h:All2 (RtAt H) vs us):(vs.filter fun v=>(callV H v).isSome).map (fun v=>(callV H v).getD .non)=(callsOf us).map V.str:=by
 induction h with
 | nil=>rfl
 | @cons v u vs us h _ ih =>
  have e:=callV_at h
  unfold callsOf at ih ⊢
  rw [List.filter_cons,List.filterMap_cons]
  cases c:callOf u with
  | none =>
   rw [c] at e
   rw [e]
   exact ih
  | some n =>
   rw [c] at e
   rw [e]
   show (callV H v).getD .non::_=V.str n::_
   rw [e,ih]
   rfl
def spBox18:Sp:=fun vs H Q _=>∃ d:Int,vs=[.int d]∧∀ p H',Same H H'→Q (.ref p) H'
theorem ok_box18 (F:Fun K "_law_box" "_law_box" s__law_box f fd)(b_tuple:mg "tuple"=none):FnOk P w K mg base CX0 1 f fd ["_law_draw"] spBox18:=by
 refine F.ok sc__law_box (fun vs H Q E h=>?_) (fun cdv A outer s H vs Q E hr h=>?_)
 ·obtain ⟨_,rfl,_⟩:=h
  rfl
 obtain ⟨d,rfl,q⟩:=h
 refine ⟨_,(@pss_cons _ _ _ _ _ (@ps_set _ _ (1) _ _ _ _ sc__law_box.nd rfl (Or.inl rfl) (@pe_lst _ _ _ _ (@pa_consts _ _ _ rfl)) (by rfl) (by first | exact .inl rfl | exact .inr rfl | assumption)) (@pss_cons _ _ _ _ _ (@ps_setComp _ _ (["_law_top"]) ([]) _ _ _ _ _ _ _ _ _ (2) _ _ _ rfl (COk.of (out:=defScope s__law_box) (N:=["_law_draw","_law_tops","_law_box_here","_law_at","_law_x"]) rfl rfl (by decide +kernel)) sc__law_box.nd rfl (Or.inl rfl) (@pi_list _ _ _ _ (pv 1)) (fun _ _ _=>(@pg_name _ _ (0) _ (show List.Nodup (["_law_top"]:List Str) by decide +kernel) rfl (Or.inl rfl) (by first | exact .inl rfl | exact .inr rfl | assumption))) (fun _ _ _=>pifs_nil) (fun _ _ _=>(@pe_tup _ _ _ _ _ (@pa_cons _ _ _ _ _ pe_int (@pa_cons _ _ _ _ _ (pv 0) pa_nil (by rfl)) (by rfl)))) (by rfl) (by first | exact .inl rfl | exact .inr rfl | assumption) (by intro _; rfl)) (@pss_cons _ _ _ _ _ (@ps_set _ _ (3) _ _ _ _ sc__law_box.nd rfl (Or.inl rfl) (@pe_op _ _ _ _ _ _ _ _ op_mod (pv 0) pe_int) (by rfl) (by first | exact .inl rfl | exact .inr rfl | assumption)) (@pss_cons _ _ _ _ _ (@ps_set _ _ (4) _ _ _ _ sc__law_box.nd rfl (Or.inl rfl) (@pe_op _ _ _ _ _ _ _ _ op_mod (@pe_op _ _ _ _ _ _ _ _ op_divW (pv 0) pe_int) (@pe_op _ _ _ _ _ _ _ _ op_add (@pe_ix _ _ _ _ _ _ _ ix_list (pv 1) (pv 3) (fun _ _=>rfl)) pe_int)) (by rfl) (by first | exact .inl rfl | exact .inr rfl | assumption)) (@pss_cons _ _ _ _ _ (@ps_asg _ _ _ _ _ _ (@pe_ix _ _ _ _ _ _ _ ix_list (@pe_lst _ _ _ _ (@pa_cons _ _ _ _ _ (@pe_tup _ _ _ _ _ (@pa_cons _ _ _ _ _ (pv 4) (@pa_cons _ _ _ _ _ (pv 4) pa_nil (by rfl)) (by rfl))) (@pa_cons _ _ _ _ _ (@pe_tup _ _ _ _ _ (@pa_cons _ _ _ _ _ pe_int (@pa_cons _ _ _ _ _ (pv 4) pa_nil (by rfl)) (by rfl))) (@pa_cons _ _ _ _ _ (@pe_tup _ _ _ _ _ (@pa_cons _ _ _ _ _ (pv 4) (@pa_cons _ _ _ _ _ (@pe_ix _ _ _ _ _ _ _ ix_list (pv 1) (pv 3) (fun _ _=>rfl)) pa_nil (by rfl)) (by rfl))) pa_nil (by rfl)) (by rfl)) (by rfl))) (@pe_op _ _ _ _ _ _ _ _ op_mod (@pe_op _ _ _ _ _ _ _ _ op_mod (pv 0) pe_int) pe_int) (fun _ _=>rfl)) (@pg_sub _ _ _ _ _ _ _ (pv 2) (pv 3) set_list (by intro _; rfl)) (by rfl) (by rfl) (by rfl)) (@pss_one _ _ _ (@ps_ret _ _ _ _ (@pe_callTy _ _ _ _ _ _ _ _ _ call_tupleR rfl b_tuple bo_tuple (@pa_cons _ _ _ _ _ (pv 2) pa_nil (by rfl)) (by decide) (by decide) (by rfl) (by rfl))))))))),?_⟩
 rw [st__law_box]
 walk_at "sv"
 refine LstR.go (by simp) fun lt nt=>?_
 have s1:=same_new nt (.lst [.int 3,.int 255,.int 4294967295,.int 65535,.int 4294967295,.int 65535])
 have ht0:upd H lt (.lst [.int 3,.int 255,.int 4294967295,.int 65535,.int 4294967295,.int 65535]) lt=some (.lst (topsI.map V.int)):=upd_same
 generalize upd H lt (.lst [.int 3,.int 255,.int 4294967295,.int 65535,.int 4294967295,.int 65535])=H1 at *
 walk_at "sv"
 refine IlR.go (SqL.of ht0) ?_
 refine CmpR.rel (fun D H' x v=>True) (fun D H' H'' x v kp r=>trivial) itl (by decide) (fun H' s=>SqL.of (s _ _ ht0)) (fun D x H' ys Q' hx nD s2 hD k=>?_) fun D H2 vs nD s2 hD al=>?_
 ·obtain ⟨top,_,rfl⟩:=List.mem_map.mp hx
  walk_at "sv"
  exact TupR.go (by simp) fun u nu=>k _ _ (same_new nu _) trivial
 have vl:vs.length=6:=(All2.len al).symm.trans rfl
 have ht2:=s2 _ _ ht0
 have nD0:H D=none:=s1.free nD
 obtain ⟨a,ea,a6⟩:∃ a:Nat,d % 6=(a:Int)∧a<6:=⟨(d % 6).toNat,by omega,by omega⟩
 obtain ⟨top,_,et,t0,t1⟩:=tops_at a6
 walk_at "sv"
 refine ⟨by decide,?_⟩
 rw [ea]
 walk_at "sv"
 refine ⟨⟨by decide,by decide⟩,?_⟩
 refine ixL_go (SqL.of ht2) et ?_
 walk_at "sv"
 refine ⟨by omega,?_⟩
 generalize d / 6 % (top+1)=x
 refine TupR.go (by simp) fun a1 n1=>?_
 have z1:=same_new n1 (.tup [.int x,.int x])
 refine TupR.go (by simp) fun a2 n2=>?_
 have z2:=same_new n2 (.tup [.int 0,.int x])
 walk_at "sv"
 refine ixL_go (SqL.of (z2 _ _ (z1 _ _ ht2))) et ?_
 refine TupR.go (by simp) fun a3 n3=>?_
 have z3:=same_new n3 (.tup [.int x,.int top])
 refine LstR.go (by simp) fun l4 n4=>?_
 have z4:=same_new n4 (.lst [.ref a1,.ref a2,.ref a3])
 walk_at "sv"
 refine ⟨by decide,by decide,?_⟩
 obtain ⟨b,eb,b3⟩:∃ b:Nat,d % 7 % 3=(b:Int)∧b<3:=⟨(d % 7 % 3).toNat,by omega,by omega⟩
 rw [eb]
 obtain ⟨v,ev⟩:∃ v,[V.ref a1,.ref a2,.ref a3][b]?=some v:=⟨[V.ref a1,.ref a2,.ref a3][b]'b3,List.getElem?_eq_getElem _⟩
 refine ixL_go (SqL.of upd_same) ev ?_
 have hD5:=z4 _ _ (z3 _ _ (z2 _ _ (z1 _ _ hD)))
 walk_at "sv"
 refine setL_go (i:=a) hD5 (by omega) ?_
 walk_at "sv"
 refine TupOf.lst (SqL.of upd_same) fun p np=>?_
 have sF:Same H _:=(s1.trans (s2.trans (z1.trans (z2.trans (z3.trans z4))))).put nD0 (o:=.lst (vs.set a v))
 exact q p _ (sF.trans (same_new np _))
structure ChW (H:Hp)(L:Addr)(vs:List V)(ls:List Addr)(cs:Chs):Prop where
 lst:H L=some (.lst vs)
 vl:vs.length=cs.length
 ll:ls.length=cs.length
 aj:∀ (i:Nat) (c:Str×List Ru) (l:Addr),cs[i]?=some c→ls[i]?=some l→∃ t ts,vs[i]?=some (.ref t)∧H t=some (.tup [.str c.1,.ref l])∧H l=some (.lst ts)∧All2 (RtAt H) ts c.2
structure ChL (H:Hp)(L:Addr)(vs:List V)(ls:List Addr)(cs:Chs):Prop extends ChW H L vs ls cs where
 nd:ls.Nodup
 nL:L∉ls
theorem ChW.fr {H H':Hp}{L:Addr}{vs:List V}{ls:List Addr}{cs:Chs}(h:ChW H L vs ls cs)(kt:∀ a xs,H a=some (.tup xs)→H' a=some (.tup xs))(kl:∀ l xs,l∈ls→H l=some (.lst xs)→H' l=some (.lst xs))(kL:H' L=some (.lst vs)):ChW H' L vs ls cs:=⟨kL,h.vl,h.ll,fun i c l e1 e2=>by
 obtain ⟨t,ts,a,b,c',d⟩:=h.aj i c l e1 e2
 exact ⟨t,ts,a,kt _ _ b,kl _ _ (List.mem_of_getElem? e2) c',All2.imp d fun _ _ r=>r.mono kt⟩⟩
theorem ChW.same {H H':Hp}{L:Addr}{vs:List V}{ls:List Addr}{cs:Chs}(h:ChW H L vs ls cs)(s:Same H H'):ChW H' L vs ls cs:=h.fr (fun _ _ e=>s _ _ e) (fun _ _ _ e=>s _ _ e) (s _ _ h.lst)
theorem ChL.same {H H':Hp}{L:Addr}{vs:List V}{ls:List Addr}{cs:Chs}(h:ChL H L vs ls cs)(s:Same H H'):ChL H' L vs ls cs:=⟨h.toChW.same s,h.nd,h.nL⟩
theorem ChW.get {H:Hp}{L:Addr}{vs:List V}{ls:List Addr}{cs:Chs}(h:ChW H L vs ls cs){i:Nat}{c:Str×List Ru}(e:cs[i]?=some c):∃ l t ts,ls[i]?=some l∧vs[i]?=some (.ref t)∧H t=some (.tup [.str c.1,.ref l])∧H l=some (.lst ts)∧All2 (RtAt H) ts c.2:=by
 have li:=(List.getElem?_eq_some_iff.mp e).1
 have ll:i<ls.length:=by rw [h.ll]; exact li
 obtain ⟨t,ts,r⟩:=h.aj i c _ e (List.getElem?_eq_getElem ll)
 exact ⟨_,t,ts,List.getElem?_eq_getElem ll,r⟩
def insR (us:List Ru)(p:Nat)(u:Ru):List Ru:=us.take p++u::us.drop p
theorem all2_ins {R:V→Ru→Prop}{ts:List V}{us:List Ru}{v:V}{u:Ru}(h:All2 R ts us)(r:R v u)(p:Nat):All2 R (ts.take p++v::ts.drop p) (insR us p u):=by
 have td:∀ n:Nat,All2 R (ts.take n) (us.take n)∧All2 R (ts.drop n) (us.drop n):=by
  induction h with
  | nil=>exact fun n=>by rw [List.take_nil,List.take_nil,List.drop_nil,List.drop_nil]; exact ⟨.nil,.nil⟩
  | cons r t ih =>
   intro n
   cases n with
   | zero=>exact ⟨.nil,.cons r t⟩
   | succ n=>exact ⟨.cons r (ih n).1,(ih n).2⟩
 exact All2.app (td p).1 (.cons r (td p).2)
theorem ChL.put {H:Hp}{L:Addr}{vs:List V}{ls:List Addr}{cs:Chs}{i p:Nat}{c:Str×List Ru}{l:Addr}{ts:List V}{v:V}{u:Ru}(h:ChL H L vs ls cs)(ec:cs[i]?=some c)(el:ls[i]?=some l)(hl:H l=some (.lst ts))(hv:RtAt H v u):ChL (upd H l (.lst (ts.take p++v::ts.drop p))) L vs ls (cs.set i (c.1,insR c.2 p u)):=by
 have k:=upd_tupT (ts':=ts.take p++v::ts.drop p) hl
 have lm:=List.mem_of_getElem? el
 refine ⟨⟨(upd_ne (show L≠l from fun e=>h.nL (e▸lm))).trans h.lst,by rw [List.length_set]; exact h.vl,by rw [List.length_set]; exact h.ll,fun j c' l' e1 e2=>?_⟩,h.nd,h.nL⟩
 by_cases e:i=j
 ·subst e
  rw [el] at e2
  cases e2
  rw [List.getElem?_set_self (List.getElem?_eq_some_iff.mp ec).1] at e1
  cases e1
  obtain ⟨t,ts',a,b,c',d⟩:=h.aj i c l ec el
  rw [hl] at c'
  cases c'
  exact ⟨t,_,a,k _ _ b,upd_same,all2_ins (All2.imp d fun _ _ r=>r.mono k) (hv.mono k) p⟩
 ·rw [List.getElem?_set_ne e] at e1
  obtain ⟨t,ts',a,b,c',d⟩:=h.aj j c' l' e1 e2
  have ne:l'≠l:=fun z=>e ((List.getElem?_inj (List.getElem?_eq_some_iff.mp el).1 h.nd).mp (el.trans (z▸e2.symm)))
  exact ⟨t,ts',a,k _ _ b,(upd_ne ne).trans c',All2.imp d fun _ _ r=>r.mono k⟩
def spPut18:Sp:=fun vs H Q _=>∃ (L:Addr) (a:Nat) (w:Int) (v:V) (us:List V) (ls:List Addr) (cs:Chs) (c:Str×List Ru) (u:Ru),vs=[.ref L,.int (a:Int),.int w,v]∧ChL H L us ls cs∧cs[a]?=some c∧c.2.length≤900∧RtAt H v u∧∀ p l H',p≤c.2.length→ls[a]?=some l→(∀ b o,b≠l→H b=some o→H' b=some o)→ChL H' L us ls (cs.set a (c.1,insR c.2 p u))→Q .non H'
theorem ok_put18 (F:Fun K "_law_put" "_law_put" s__law_put f fd)(b_len:mg "len"=none):FnOk P w K mg base CX0 1 f fd ["_law_chains_here","_law_at","_law_where","_law_rule"] spPut18:=by
 refine F.ok sc__law_put (fun vs H Q E h=>?_) (fun cdv A outer s H vs Q E hr h=>?_)
 ·obtain ⟨_,_,_,_,_,_,_,_,_,rfl,_⟩:=h
  rfl
 obtain ⟨L,a,w',v,us,ls,cs,c,u,rfl,ch,ec,c9,hv,q⟩:=h
 obtain ⟨l,t,ts,el,ev,ht,hl,al⟩:=ch.get ec
 have tl:=All2.len al
 refine ⟨_,(@pss_cons _ _ _ _ _ (@ps_set _ _ (4) _ _ _ _ sc__law_put.nd rfl (Or.inl rfl) (@pe_ix _ _ _ _ _ _ _ ix_tup (@pe_ix _ _ _ _ _ _ _ ix_list (pv 0) (pv 1) (fun _ _=>rfl)) pe_int (fun _ _=>rfl)) (by rfl) (by first | exact .inl rfl | exact .inr rfl | assumption)) (@pss_cons _ _ _ _ _ (@ps_set _ _ (5) _ _ _ _ sc__law_put.nd rfl (Or.inl rfl) (@pe_op _ _ _ _ _ _ _ _ op_mod (pv 2) (@pe_op _ _ _ _ _ _ _ _ op_add (@pe_callB _ _ _ _ _ _ _ _ _ call_lenR rfl b_len bo_len (@pa_cons _ _ _ _ _ (pv 4) pa_nil (by rfl)) (by decide) (by decide) (by rfl) (by rfl)) pe_int)) (by rfl) (by first | exact .inl rfl | exact .inr rfl | assumption)) (@pss_one _ _ _ (@ps_expr _ _ _ _ (@pe_bm _ _ _ _ _ _ _ _ _ _ _ _ PySem.F.plainAttrs_list PySem.F.slot_list_insert PySem.F.type_list_insert mt_insert (pv 4) (@pa_cons _ _ _ _ _ (pv 5) (@pa_cons _ _ _ _ _ (pv 3) pa_nil (by rfl)) (by rfl)) (by rfl) (by rfl) (by rfl) (by rfl) (by rfl)) (by rfl))))),?_⟩
 rw [st__law_put]
 walk_at "sv"
 refine ixL_go (SqL.of ch.lst) ev ?_
 walk_at "sv"
 refine ixT_go (i:=1) (SqT.of ht) rfl ?_
 walk_at "sv"
 refine LenR.lst (SqL.of hl) ?_
 walk_at "sv"
 refine ⟨by omega,?_⟩
 obtain ⟨p,ep,pl⟩:∃ p:Nat,w' % ((ts.length:Int)+1)=(p:Int)∧p≤ts.length:=by
  have h0:=Int.emod_nonneg w' (show (ts.length:Int)+1≠0 by omega)
  have h1:=Int.emod_lt_of_pos w' (show (0:Int)<(ts.length:Int)+1 by omega)
  exact ⟨(w' % ((ts.length:Int)+1)).toNat,by omega,by omega⟩
 rw [ep]
 walk_at "sv"
 refine ⟨ty_lst hl,?_⟩
 refine ⟨l,ts,p,v,rfl,rfl,hl,pl,by omega,?_⟩
 exact q p l _ (by omega) el (fun b o ne e=>(upd_ne ne).trans e) (ch.put ec el hl hv)
--CUT--
def Dn (zs:List Str)(b m:Nat)(us:List Ru):Prop:=us.length≤m∧∀ n∈callsOf us,∃ j,b<j∧zs[j]?=some n
structure C8 (zs:List Str)(H H':Hp)(D:Addr)(ls:List Addr)(uss:List (List Ru))(m:Nat):Prop where
 same:Same H H'
 lst:H' D=some (.lst (ls.map V.ref))
 rs:RsT H' ls uss
 ok:∀ (b:Nat) (us:List Ru),uss[b]?=some us→Dn zs b m us
theorem C8.to {zs:List Str}{H H' H'':Hp}{D:Addr}{ls:List Addr}{uss:List (List Ru)}{m:Nat}(h:C8 zs H H' D ls uss m)(s:Same H' H''):C8 zs H H'' D ls uss m:=⟨h.same.trans s,s _ _ h.lst,h.rs.same s,h.ok⟩
theorem C8.up {zs:List Str}{H H':Hp}{D:Addr}{ls:List Addr}{uss:List (List Ru)}{m m':Nat}(h:C8 zs H H' D ls uss m)(l:m≤m'):C8 zs H H' D ls uss m':=⟨h.same,h.lst,h.rs,fun b us hu=>⟨Nat.le_trans (h.ok b us hu).1 l,(h.ok b us hu).2⟩⟩
theorem C8.add {zs:List Str}{H H':Hp}{D:Addr}{ls:List Addr}{uss:List (List Ru)}{m a:Nat}{l:Addr}{us:List Ru}{ts:List V}{v:V}{u:Ru}(h:C8 zs H H' D ls uss m)(li:LI zs H D ls)(e1:ls[a]?=some l)(e2:uss[a]?=some us)(ht:H' l=some (.lst ts))(hv:RtAt H' v u)(ca:Dn zs a (m+1) (us++[u])):C8 zs H (upd H' l (.lst (ts++[v]))) D ls (uss.set a (us++[u])) (m+1):=by
 have lm:=List.mem_of_getElem? e1
 refine ⟨h.same.put (li.fr l lm),(upd_ne (show D≠l from fun e=>li.nD (e▸lm))).trans h.lst,h.rs.app li.nd e1 e2 ht hv,fun b us' hu=>?_⟩
 by_cases c:a=b
 ·subst c
  rw [List.getElem?_set_self (List.getElem?_eq_some_iff.mp e2).1] at hu
  cases hu
  exact ca
 ·rw [List.getElem?_set_ne c] at hu
  exact (h.up (Nat.le_succ m)).ok b us' hu
def kindW:List Str:=["pass","stop","back"]
theorem kind_at {k:Nat}(h:k<3)(p:Addr):∃ (z:Str) (r:Rl),(kindW.map V.str)[k]?=some (.str z)∧r.told p=[.str z,.ref p]∧r.ok∧callOf (r,p)=none:=by
 have e:k=0∨k=1∨k=2:=by omega
 rcases e with rfl | rfl | rfl
 ·exact ⟨"pass",.word "pass",rfl,rfl,⟨by decide,by decide,by decide,by decide +kernel⟩,rfl⟩
 ·exact ⟨"stop",.word "stop",rfl,rfl,⟨by decide,by decide,by decide,by decide +kernel⟩,rfl⟩
 ·exact ⟨"back",.back,rfl,rfl,trivial,rfl⟩
structure Bs (cs:Chs)(m:Nat):Prop where
 nd:(cs.map (·.1)).Nodup
 main:(cs.map (·.1))[0]?=some ("main":Str)
 n2:2≤cs.length
 n5:cs.length≤5
 nm:∀ c∈cs,NmOk c.1
 len:∀ c∈cs,c.2.length≤m
 dn:∀ (i:Nat) (c:Str×List Ru),cs[i]?=some c→∀ n∈callsOf c.2,∃ j,i<j∧(cs.map (·.1))[j]?=some n
def spChains18:Sp:=fun vs H Q _=>∃ (cl nl:Addr) (ns:List Int) (zs:List Str),vs=[.ref cl,.ref nl]∧H cl=some (.lst (ns.map V.int))∧ns.length≤60∧H nl=some (.lst (zs.map V.str))∧zs.Nodup∧zs[0]?=some ("main":Str)∧(∀ z∈zs,NmOk z)∧2≤zs.length∧zs.length≤5 ∧
 ∀ L vs ls cs H',Same H H'→ChL H' L vs ls cs→(∀ l∈ls,H l=none)→H L=none→cs.map (·.1)=zs→Bs cs 60→Q (.ref L) H'
theorem ok_chains18 (F:Fun K "_law_chains" "_law_chains" s__law_chains f fd)(g__law_stream:Fn P w K mg base "_law_stream" 1 ["_law_cell","_law_many"] spStream)(g__law_box:Fn P w K mg base "_law_box" 1 ["_law_draw"] spBox18)(b_len:mg "len"=none)(b_range:mg "range"=none):FnOk P w K mg base CX0 2 f fd ["_law_cells","_law_names_here"] spChains18:=by
 refine F.ok sc__law_chains (fun vs H Q E h=>?_) (fun cdv A outer s H vs Q E hr h=>?_)
 ·obtain ⟨_,_,_,_,rfl,_⟩:=h
  rfl
 obtain ⟨cl,nl,ns,zs,rfl,hcl,n60,hnl,znd,z0,zok,m2,m5,q⟩:=h
 refine ⟨_,(@pss_cons _ _ _ _ _ (@ps_set _ _ (2) _ _ _ _ sc__law_chains.nd rfl (Or.inr rfl) (@pe_comp _ _ (["_law_name"]) ([]) _ _ _ _ _ _ _ _ _ rfl (COk.of (out:=defScope s__law_chains) (N:=["_law_cells","_law_names_here","_law_rules","_law_cell","_law_draws","_law_at","_law_rule"]) rfl rfl (by decide +kernel)) (@pi_list _ _ _ _ (pv 1)) (fun _ _ _=>(@pg_name _ _ (0) _ (show List.Nodup (["_law_name"]:List Str) by decide +kernel) rfl (Or.inl rfl) (by first | exact .inl rfl | exact .inr rfl | assumption))) (fun _ _ _=>pifs_nil) (fun _ _ _=>(@pe_lst _ _ _ _ pa_nil)) (by intro _; rfl)) (by rfl) (by first | exact .inl rfl | exact .inr rfl | assumption)) (@pss_cons _ _ _ _ _ (@ps_for _ _ _ _ _ _ _ _ PassesOwn.never rfl (@pi_list _ _ _ _ (pv 0)) (@pg_name _ _ (3) _ sc__law_chains.nd rfl (Or.inl rfl) (by first | exact .inl rfl | exact .inr rfl | assumption)) (@pss_cons _ _ _ _ _ (@ps_set _ _ (4) _ _ _ _ sc__law_chains.nd rfl (Or.inl rfl) (@pe_fn _ _ _ _ _ _ _ _ _ _ _ g__law_stream hr (by decide) rfl (@pa_cons _ _ _ _ _ (pv 3) (@pa_cons _ _ _ _ _ pe_int pa_nil (by rfl)) (by rfl)) (by decide) (by rfl) (by rfl)) (by rfl) (by first | exact .inl rfl | exact .inr rfl | assumption)) (@pss_cons _ _ _ _ _ (@ps_set _ _ (5) _ _ _ _ sc__law_chains.nd rfl (Or.inl rfl) (@pe_op _ _ _ _ _ _ _ _ op_mod (@pe_ix _ _ _ _ _ _ _ ix_list (pv 4) pe_int (fun _ _=>rfl)) (@pe_callB _ _ _ _ _ _ _ _ _ call_lenR rfl b_len bo_len (@pa_cons _ _ _ _ _ (pv 1) pa_nil (by rfl)) (by decide) (by decide) (by rfl) (by rfl))) (by rfl) (by first | exact .inl rfl | exact .inr rfl | assumption)) (@pss_cons _ _ _ _ _ (@ps_set _ _ (6) _ _ _ _ sc__law_chains.nd rfl (Or.inl rfl) (@pe_tup _ _ _ _ _ (@pa_cons _ _ _ _ _ (@pe_ix _ _ _ _ _ _ _ ix_list (@pe_lst _ _ _ _ (@pa_cons _ _ _ _ _ pe_str (@pa_cons _ _ _ _ _ pe_str (@pa_cons _ _ _ _ _ pe_str pa_nil (by rfl)) (by rfl)) (by rfl))) (@pe_op _ _ _ _ _ _ _ _ op_mod (@pe_ix _ _ _ _ _ _ _ ix_list (pv 4) pe_int (fun _ _=>rfl)) pe_int) (fun _ _=>rfl)) (@pa_cons _ _ _ _ _ (@pe_fn _ _ _ _ _ _ _ _ _ _ _ g__law_box hr (by decide) rfl (@pa_cons _ _ _ _ _ (@pe_ix _ _ _ _ _ _ _ ix_list (pv 4) pe_int (fun _ _=>rfl)) pa_nil (by rfl)) (by decide) (by rfl) (by rfl)) pa_nil (by rfl)) (by rfl))) (by rfl) (by first | exact .inl rfl | exact .inr rfl | assumption)) (@pss_cons _ _ _ _ _ (@ps_if _ _ _ _ _ _ _ _ (@PW.pt _ _ _ (@pw_and _ _ _ _ _ _ _ (@pt_cmpR _ _ _ _ _ _ _ _ op_eq (@pe_op _ _ _ _ _ _ _ _ op_mod (@pe_op _ _ _ _ _ _ _ _ op_divW (@pe_ix _ _ _ _ _ _ _ ix_list (pv 4) pe_int (fun _ _=>rfl)) pe_int) pe_int) pe_int (nomark _)) (@pw_and1 _ _ _ _ (@pt_cmpR _ _ _ _ _ _ _ _ op_lt (@pe_op _ _ _ _ _ _ _ _ op_add (pv 5) pe_int) (@pe_callB _ _ _ _ _ _ _ _ _ call_lenR rfl b_len bo_len (@pa_cons _ _ _ _ _ (pv 1) pa_nil (by rfl)) (by decide) (by decide) (by rfl) (by rfl)) (nomark _))))) (@pss_one _ _ _ (@ps_set _ _ (6) _ _ _ _ sc__law_chains.nd rfl (Or.inl rfl) (@pe_tup _ _ _ _ _ (@pa_cons _ _ _ _ _ pe_str (@pa_cons _ _ _ _ _ (@pe_fn _ _ _ _ _ _ _ _ _ _ _ g__law_box hr (by decide) rfl (@pa_cons _ _ _ _ _ (@pe_ix _ _ _ _ _ _ _ ix_list (pv 4) pe_int (fun _ _=>rfl)) pa_nil (by rfl)) (by decide) (by rfl) (by rfl)) (@pa_cons _ _ _ _ _ (@pe_ix _ _ _ _ _ _ _ ix_list (pv 1) (@pe_op _ _ _ _ _ _ _ _ op_add (@pe_op _ _ _ _ _ _ _ _ op_add (pv 5) pe_int) (@pe_op _ _ _ _ _ _ _ _ op_mod (@pe_op _ _ _ _ _ _ _ _ op_divW (@pe_ix _ _ _ _ _ _ _ ix_list (pv 4) pe_int (fun _ _=>rfl)) pe_int) (@pe_op _ _ _ _ _ _ _ _ op_sub (@pe_op _ _ _ _ _ _ _ _ op_sub (@pe_callB _ _ _ _ _ _ _ _ _ call_lenR rfl b_len bo_len (@pa_cons _ _ _ _ _ (pv 1) pa_nil (by rfl)) (by decide) (by decide) (by rfl) (by rfl)) pe_int) (pv 5)))) (fun _ _=>rfl)) pa_nil (by rfl)) (by rfl)) (by rfl))) (by rfl) (by first | exact .inl rfl | exact .inr rfl | assumption))) pss_nil) (@pss_one _ _ _ (@ps_expr _ _ _ _ (@pe_bm _ _ _ _ _ _ _ _ _ _ _ _ PySem.F.plainAttrs_list PySem.F.slot_list_append PySem.F.type_list_append mt_append (@pe_ix _ _ _ _ _ _ _ ix_list (pv 2) (pv 5) (fun _ _=>rfl)) (@pa_cons _ _ _ _ _ (pv 6) pa_nil (by rfl)) (by rfl) (by rfl) (by rfl) (by rfl) (by rfl)) (by rfl))))))) (by intro _; rfl)) (@pss_one _ _ _ (@ps_ret _ _ _ _ (@pe_comp _ _ (["_law_at"]) ([1,2]) _ _ _ _ _ _ _ _ _ rfl (COk.of (out:=defScope s__law_chains) (N:=["_law_cells","_law_names_here","_law_rules","_law_cell","_law_draws","_law_at","_law_rule"]) rfl rfl (by decide +kernel)) (@pi_range1 _ _ _ _ _ _ rfl b_range (@pa_cons _ _ _ _ _ (@pe_callB _ _ _ _ _ _ _ _ _ call_lenR rfl b_len bo_len (@pa_cons _ _ _ _ _ (pv 1) pa_nil (by rfl)) (by decide) (by decide) (by rfl) (by rfl)) pa_nil (by rfl)) (by rfl)) (fun _ _ _=>(@pg_name _ _ (0) _ (show List.Nodup (["_law_at","_law_names_here","_law_rules"]:List Str) by decide +kernel) rfl (Or.inl rfl) (by first | exact .inl rfl | exact .inr rfl | assumption))) (fun _ _ _=>pifs_nil) (fun _ _ _=>(@pe_tup _ _ _ _ _ (@pa_cons _ _ _ _ _ (@pe_ix _ _ _ _ _ _ _ (ix_listK (K:=K) rfl) (pv 1) (pv 0) (fun _ _=>rfl)) (@pa_cons _ _ _ _ _ (@pe_ix _ _ _ _ _ _ _ (ix_listK (K:=K) rfl) (pv 2) (pv 0) (fun _ _=>rfl)) pa_nil (by rfl)) (by rfl)))) (by intro _; rfl)))))),?_⟩
 rw [st__law_chains]
 refine seq_hid fun N go=>?_
 walk_at "sv"
 refine IlR.go (SqL.of hnl) ?_
 refine CmpR.go1 (itl (xs:=zs.map V.str)) (fun D i ys H'=>Same H H'∧H' D=some (.lst ys)∧∃ ls:List Addr,ys=ls.map V.ref∧ls.length=i∧ls.Nodup∧D∉ls∧∀ l∈ls,H l=none∧H' l=some (.lst [])) (by rw [List.length_map]; omega) (fun D nD=>⟨same_new nD _,upd_same,[],rfl,rfl,List.nodup_nil,List.not_mem_nil,fun l h=>by cases h⟩)
  (fun D i ys H' pv=>?_) (fun D i x ys H' nD hx pv=>?_) (fun D ys H3 nD pv=>?_) (fun _ _ _ _ k h=>⟨h.1,fun p np=>k _ _ (h.2 p np)⟩) (fun _ _ _ _ k h=>k _ _ h)
 ·obtain ⟨sm,_,ls,rfl,ll,_⟩:=pv
  exact ⟨sm.seq (SqL.of hnl),by rw [List.length_map]; omega⟩
 ·obtain ⟨sm,hD,ls,rfl,ll,lnd,lD,lal⟩:=pv
  walk_at "sv"
  refine LstR.go (by simp) fun u nu=>?_
  have s3:=same_new nu (.lst [])
  have nuD:u≠D:=fun e=>by
   rw [e,hD] at nu
   cases nu
  have nul:u∉ls:=fun hm=>by
   rw [(lal u hm).2] at nu
   cases nu
  refine ⟨s3 _ _ hD,(sm.trans s3).put nD,upd_same,ls++[u],by rw [List.map_append]; rfl,by rw [List.length_append,ll]; rfl,nd_snoc lnd nul,fun hm=>?_,fun l hl=>?_⟩
  ·rcases List.mem_append.mp hm with h | h
   ·exact lD h
   ·exact nuD (List.mem_singleton.mp h).symm
  ·rcases List.mem_append.mp hl with h | h
   ·have neD:l≠D:=fun e=>lD (e▸h)
    exact ⟨(lal l h).1,by rw [upd_ne neD]; exact s3 _ _ (lal l h).2⟩
   ·obtain rfl:=List.mem_singleton.mp h
    exact ⟨sm.free nu,by rw [upd_ne nuD,upd_same]⟩
 obtain ⟨sm3,hrl,ls,rfl,ll,lnd,lD,lal⟩:=pv
 rw [List.length_map] at ll
 have li:LI zs H D ls:=⟨lnd,lD,fun l hl=>(lal l hl).1,ll⟩
 have ci:C8 zs H H3 D ls (List.replicate zs.length []) 0:=⟨sm3,hrl,⟨by rw [List.length_replicate,ll],fun b l us e1 e2=>by
  obtain rfl:us=[]:=(List.mem_replicate.mp (List.mem_of_getElem? e2)).2
  exact ⟨[],(lal l (List.mem_of_getElem? e1)).2,.nil⟩⟩,fun b us hu=>by
  obtain rfl:us=[]:=(List.mem_replicate.mp (List.mem_of_getElem? hu)).2
  exact ⟨Nat.le_refl _,fun n hn=>by cases hn⟩⟩
 clear sm3 hrl lal
 refine go _ _ ?_
 clear go
 walk_at "sv"
 refine IlR.go (SqL.of (ci.same _ _ hcl)) ?_
 refine ForR.items itl (fun i σ H'=>∃ (uss:List (List Ru)) (y1 y2 y3 y4:Option V),C8 zs H H' D ls uss i∧σ=[some (.ref cl),some (.ref nl),some (.ref D),y1,y2,y3,y4]) ⟨_,_,_,_,_,ci,rfl⟩ (fun i σ H' pv=>by obtain ⟨_,_,_,_,_,ci,_⟩:=pv; exact SqL.of (ci.same _ _ hcl)) (fun i x σ H4 hx pv=>?_) (fun σ H4 pv=>?_)
 ·obtain ⟨uss,y1,y2,y3,y4,ci,rfl⟩:=pv
  rw [List.getElem?_map] at hx
  obtain ⟨c,ec,rfl⟩:=Option.map_eq_some_iff.mp hx
  have li60:i<ns.length:=(List.getElem?_eq_some_iff.mp ec).1
  show gName _ _ _ _ _
  refine seq_hid fun N go=>?_
  walk_at "sv"
  refine ⟨_,3,rfl,by decide,fun ld ds H5 nld s5 hd dl _=>?_⟩
  obtain ⟨d0,_,e0⟩:=ints_at (show 0<ds.length by omega)
  obtain ⟨d1,_,e1⟩:=ints_at (show 1<ds.length by omega)
  obtain ⟨d2,_,e2⟩:=ints_at (show 2<ds.length by omega)
  refine go _ _ ?_
  clear go
  have ci:=ci.to s5
  have hnl5:=ci.same _ _ hnl
  refine seq_hid fun N go=>?_
  walk_at "sv"
  refine ixL_go (i:=0) (SqL.of hd) e0 ?_
  walk_at "sv"
  refine LenR.lst (SqL.of hnl5) ?_
  rw [List.length_map]
  walk_at "sv"
  refine ⟨by omega,?_⟩
  obtain ⟨a,ea,al⟩:∃ a:Nat,d0 % (zs.length:Int)=(a:Int)∧a<zs.length:=by
   have h0:=Int.emod_nonneg d0 (show (zs.length:Int)≠0 by omega)
   have h1:=Int.emod_lt_of_pos d0 (show (0:Int)<(zs.length:Int) by omega)
   exact ⟨(d0 % (zs.length:Int)).toNat,by omega,by omega⟩
  rw [ea]
  refine go _ _ ?_
  clear go
  refine seq_hid fun N go=>?_
  walk_at "sv"
  refine LstR.go (by simp) fun lk nk=>?_
  have s6:=same_new nk (.lst [.str "pass",.str "stop",.str "back"])
  have hk6:upd H5 lk (.lst [.str "pass",.str "stop",.str "back"]) lk=some (.lst (kindW.map V.str)):=upd_same
  generalize upd H5 lk (.lst [.str "pass",.str "stop",.str "back"])=H6 at *
  walk_at "sv"
  refine ixL_go (i:=1) (SqL.of (s6 _ _ hd)) e1 ?_
  walk_at "sv"
  refine ⟨by decide,?_⟩
  obtain ⟨k,ek,k3⟩:∃ k:Nat,d1 % 3=(k:Int)∧k<3:=⟨(d1 % 3).toNat,by omega,by omega⟩
  rw [ek]
  obtain ⟨z,_,ez,_⟩:=kind_at k3 0
  refine ixL_go (SqL.of hk6) ez ?_
  walk_at "sv"
  refine ixL_go (i:=2) (SqL.of (s6 _ _ hd)) e2 ?_
  refine ⟨d2,rfl,fun p H7 s7=>?_⟩
  obtain ⟨z',r,ez',er,rok,rc⟩:=kind_at k3 p
  rw [ez] at ez'
  cases ez'
  refine TupR.go (by simp) fun t nt=>?_
  have s8:=same_new nt (.tup [.str z,.ref p])
  have ht8:upd H7 t (.tup [.str z,.ref p]) t=some (.tup (r.told p)):=by rw [er]; exact upd_same
  generalize upd H7 t (.tup [.str z,.ref p])=H8 at *
  have s58:=s6.trans (s7.trans s8)
  have ci:=ci.to s58
  have hd8:=s58 _ _ hd
  refine go _ _ ?_
  clear go
  refine seq_hid fun N go=>?_
  suffices rest:∀ (v:V) (u:Ru) (H9:Hp),C8 zs H H9 D ls uss i→RtAt H9 v u→(∀ n,callOf u=some n→∃ j,a<j∧zs[j]?=some n)→N [some (.ref cl),some (.ref nl),some (.ref D),some (.int c),some (.ref ld),some (.int (a:Int)),some v] H9 by
   walk_at "sv"
   refine ixL_go (i:=1) (SqL.of hd8) e1 ?_
   walk_at "sv"
   refine ⟨⟨by decide,by decide⟩,by decide,?_⟩
   have no:N [some (.ref cl),some (.ref nl),some (.ref D),some (.int c),some (.ref ld),some (.int (a:Int)),some (.ref t)] H8:=rest (.ref t) (r,p) H8 ci ⟨t,rfl,ht8,rok⟩ fun n e=>by rw [rc] at e; cases e
   refine BrA.dec (fun _=>?_) fun _=>?_
   rotate_left
   ·walk_at "sv"
    exact no
   walk_at "sv"
   refine LenR.lst (SqL.of (s58 _ _ hnl5)) ?_
   rw [List.length_map]
   walk_at "sv"
   refine BrS.dec (fun c2=>?_) fun _=>?_
   rotate_left
   ·walk_at "sv"
    exact no
   walk_at "sv"
   refine ixL_go (i:=2) (SqL.of hd8) e2 ?_
   refine ⟨d2,rfl,fun p9 H9 s9=>?_⟩
   have hd9:=s9 _ _ hd8
   have hnl9:=s9 _ _ (s58 _ _ hnl5)
   walk_at "sv"
   refine ixL_go (i:=1) (SqL.of hd9) e1 ?_
   walk_at "sv"
   refine ⟨⟨by decide,by decide⟩,?_⟩
   refine LenR.lst (SqL.of hnl9) ?_
   rw [List.length_map]
   walk_at "sv"
   refine ⟨by omega,?_⟩
   obtain ⟨j,ej,aj,jl⟩:∃ j:Nat,(a:Int)+1+d1 / 9 % ((zs.length:Int) - 1 - (a:Int))=(j:Int)∧a<j∧j<zs.length:=by
    have h0:=Int.emod_nonneg (d1 / 9) (show (zs.length:Int) - 1 - (a:Int)≠0 by omega)
    have h1:=Int.emod_lt_of_pos (d1 / 9) (show (0:Int)<(zs.length:Int) - 1 - (a:Int) by omega)
    exact ⟨((a:Int)+1+d1 / 9 % ((zs.length:Int) - 1 - (a:Int))).toNat,by omega,by omega,by omega⟩
   rw [ej]
   obtain ⟨z2,ez2⟩:∃ z2,zs[j]?=some z2:=⟨zs[j],List.getElem?_eq_getElem jl⟩
   have zk:=zok z2 (List.mem_of_getElem? ez2)
   refine ixL_go (SqL.of hnl9) (v:=.str z2) (by rw [List.getElem?_map,ez2]; rfl) ?_
   refine TupR.go (by simp) fun t2 nt2=>?_
   have s10:=same_new nt2 (.tup [.str "call",.ref p9,.str z2])
   refine rest (.ref t2) (.call z2,p9) _ (ci.to (s9.trans s10)) ⟨t2,rfl,upd_same,by have:=zk.2; omega,zk.1⟩ fun n e=>?_
   cases e
   exact ⟨j,aj,ez2⟩
  intro v u H9 ci hv hcall
  refine go _ _ ?_
  clear go
  have l1:a<ls.length:=by rw [li.len]; exact al
  have l2:a<uss.length:=by rw [ci.rs.1]; exact l1
  obtain ⟨ts,hl,hts⟩:=ci.rs.2 a _ _ (List.getElem?_eq_getElem l1) (List.getElem?_eq_getElem l2)
  have dn:=ci.ok a _ (List.getElem?_eq_getElem l2)
  walk_at "sv"
  refine ixL_go (SqL.of ci.lst) (v:=.ref ls[a]) (by rw [List.getElem?_map,List.getElem?_eq_getElem l1]; rfl) ?_
  refine ⟨ty_lst hl,?_⟩
  refine app_go hl (by rw [All2.len hts]; have:=dn.1; omega) ?_
  refine ⟨_,_,_,_,_,ci.add li (List.getElem?_eq_getElem l1) (List.getElem?_eq_getElem l2) hl hv ⟨?_,fun n hn=>?_⟩,rfl⟩
  ·rw [List.length_append,List.length_singleton]
   have:=dn.1
   omega
  ·rw [callsOf_snoc] at hn
   rcases List.mem_append.mp hn with hn | hn
   ·exact dn.2 n hn
   ·cases e:callOf u with
    | none=>rw [e] at hn; cases hn
    | some m =>
     rw [e] at hn
     rw [List.mem_singleton.mp hn]
     exact hcall m e
 obtain ⟨uss,y1,y2,y3,y4,ci,rfl⟩:=pv
 rw [List.length_map] at ci
 have ul:uss.length=zs.length:=ci.rs.1.trans li.len
 have zl2:(zs.zip uss).length=zs.length:=by rw [List.length_zip,ul,Nat.min_self]
 have keys:(zs.zip uss).map (·.1)=zs:=List.map_fst_zip (by rw [ul]; exact Nat.le_refl _)
 walk_at "sv"
 refine LenR.lst (SqL.of (ci.same _ _ hnl)) ?_
 rw [List.length_map]
 walk_at "sv"
 refine RngR.go (by omega) (by omega) ?_
 rw [Int.toNat_natCast]
 refine CmpR.rel (fun L H' x v=>∃ (i:Nat) (z:Str) (l t:Addr),x=.int (0+(i:Int))∧zs[i]?=some z∧ls[i]?=some l∧v=.ref t∧t≠L∧H' t=some (.tup [.str z,.ref l])) (fun L H' H'' x v kp r=>?_) itr (by unfold rngV; rw [List.length_map,List.length_range]; omega) (fun _ _=>trivial) (fun L x H' ys Q' hx nL sm hL k=>?_) fun L H5 vs nL s5 hL al=>?_
 ·obtain ⟨i,z,l,t,e1,e2,e3,e4,ne,ht⟩:=r
  exact ⟨i,z,l,t,e1,e2,e3,e4,ne,kp _ _ ne ht⟩
 ·unfold rngV at hx
  obtain ⟨i,hi,rfl⟩:=List.mem_map.mp hx
  have hi:i<zs.length:=List.mem_range.mp hi
  rw [Int.zero_add]
  walk_at "sv"
  refine ixL_go (SqL.of (sm _ _ (ci.same _ _ hnl))) (v:=.str zs[i]) (by rw [List.getElem?_map,List.getElem?_eq_getElem hi]; rfl) ?_
  walk_at "sv"
  have l1:i<ls.length:=by rw [li.len]; exact hi
  refine ixL_go (SqL.of (sm _ _ ci.lst)) (v:=.ref ls[i]) (by rw [List.getElem?_map,List.getElem?_eq_getElem l1]; rfl) ?_
  refine TupR.go (by simp) fun t nt=>k _ _ (same_new nt _) ⟨i,zs[i],ls[i],t,by rw [Int.zero_add],List.getElem?_eq_getElem hi,List.getElem?_eq_getElem l1,rfl,fun e=>?_,upd_same⟩
  rw [e,hL] at nt
  cases nt
 have ci5:=ci.to s5
 have rl:(rngV 0 zs.length).length=zs.length:=by unfold rngV; rw [List.length_map,List.length_range]
 refine q L vs ls (zs.zip uss) H5 ci5.same ⟨⟨hL,by rw [← All2.len al,rl,zl2],by rw [li.len,zl2],fun i c l e1 e2=>?_⟩,li.nd,fun hm=>?_⟩ (fun l hl=>li.fr l hl) (ci.same.free nL) keys ⟨by rw [keys]; exact znd,by rw [keys]; exact z0,by rw [zl2]; exact m2,by rw [zl2]; exact m5,fun c hc=>?_,fun c hc=>?_,fun i c e n hn=>?_⟩
 ·obtain ⟨x1,x2⟩:=List.getElem?_zip_eq_some.mp e1
  have hi:i<zs.length:=(List.getElem?_eq_some_iff.mp x1).1
  obtain ⟨v,ev,j,z,l',t,f1,f2,f3,f4,_,ht⟩:=All2.at al (show (rngV 0 zs.length)[i]?=some (.int (0+(i:Int))) by unfold rngV; rw [List.getElem?_map,List.getElem?_range hi]; rfl)
  obtain rfl:i=j:=by
   injection f1 with f1
   omega
  rw [x1] at f2
  cases f2
  rw [e2] at f3
  cases f3
  obtain ⟨ts,hl,hts⟩:=ci5.rs.2 i l c.2 e2 x2
  exact ⟨t,ts,by rw [ev,f4],ht,hl,hts⟩
 ·obtain ⟨i,hi⟩:=List.getElem?_of_mem hm
  have l2:i<uss.length:=by rw [ci.rs.1]; exact (List.getElem?_eq_some_iff.mp hi).1
  obtain ⟨ts,hl,_⟩:=ci.rs.2 i L _ hi (List.getElem?_eq_getElem l2)
  rw [nL] at hl
  cases hl
 ·obtain ⟨i,hi⟩:=List.getElem?_of_mem hc
  exact zok _ (List.mem_of_getElem? (List.getElem?_zip_eq_some.mp hi).1)
 ·obtain ⟨i,hi⟩:=List.getElem?_of_mem hc
  exact Nat.le_trans (ci.ok i _ (List.getElem?_zip_eq_some.mp hi).2).1 n60
 ·rw [keys]
  exact (ci.ok i _ (List.getElem?_zip_eq_some.mp e).2).2 n hn
--CUT--
theorem nd_of_map {cs:Chs}(h:(cs.map (·.1)).Nodup):cs.Nodup:=List.Pairwise.imp (fun {a b} (ne:a.1≠b.1) (e:a=b)=>ne (by rw [e])) (List.pairwise_map.mp h)
theorem all2_of {α β:Type}{R:α→β→Prop}:∀ {xs:List α} {ys:List β},xs.length=ys.length→(∀ (i:Nat) (x:α) (y:β),xs[i]?=some x→ys[i]?=some y→R x y)→All2 R xs ys
 | [],[],_,_=>.nil
 | [],_::_,e,_=>by cases e
 | _::_,[],e,_=>by cases e
 | x::xs,y::ys,e,h=>.cons (h 0 x y rfl rfl) (all2_of (Nat.succ.inj e) fun i a b e1 e2=>h (i+1) a b e1 e2)
def dT (ls:Tots):List (Str×V):=ls.map fun p=>(p.1,.int p.2)
theorem dT_keys (ls:Tots):(dT ls).map (·.1)=ls.map (·.1):=by
 unfold dT
 rw [List.map_map]
 rfl
theorem dT_look {ls:Tots}{z:Str}(nd:(ls.map (·.1)).Nodup)(h:z∈ls.map (·.1)):(dT ls).lookup z=some (.int (valT ls z)):=by
 obtain ⟨p,hp,rfl⟩:=List.mem_map.mp h
 have e:(dT ls).lookup p.1=some (.int p.2):=look_in (p:=(p.1,V.int p.2)) (by rw [dT_keys]; exact nd) (List.mem_map.mpr ⟨p,hp,rfl⟩)
 rw [e]
 unfold valT
 rw [look_inT nd hp]
 rfl
theorem dT_snoc (ls:Tots)(z:Str)(v:Int):dT ls++[(z,.int v)]=dT (ls++[(z,v)]):=by
 unfold dT
 rw [List.map_append]
 rfl
theorem gtup2' {a:Addr}{x y:V}{i j:Nat}{σ:L2.St}{H:Hp}{R:L2.St→Hp→Prop}(h:SqT K H a [x,y])(q:R ((σ.set i (some x)).set j (some y)) H):gTup K 2 (gCons (gName i) (gCons (gName j) gNil)) (.ref a) σ H R:=⟨a,_,rfl,h,rfl,_,_,rfl,_,_,rfl,rfl,q⟩
def totV (H:Hp)(ts:Tots)(v:V):V:=lenV (valT ts) ((callV H v).getD .non)
theorem tots_list {H:Hp}{ts:Tots}{vs:List V}{us:List Ru}(h:All2 (RtAt H) vs us):(vs.filter fun v=>(callV H v).isSome).map (totV H ts)=((callsOf us).map (valT ts)).map V.int:=by
 have e:=congrArg (List.map (lenV (valT ts))) (calls_list h)
 rw [List.map_map,lenV_list] at e
 exact e
def spTot18:Sp:=fun vs H Q _=>∃ (L:Addr) (us:List V) (ls:List Addr) (cs:Chs),vs=[.ref L]∧ChL H L us ls cs∧Bs cs 60∧∀ td (ts:Tots) H',Same H H'→H' td=some (.dK (Dk (dT ts)))→TInv cs ts→(∀ c∈cs,c.1∈ts.map (·.1))→Q (.ref td) H'
theorem ok_tot18 (F:Fun K "_law_totals" "_law_totals" s__law_totals f fd)(b_reversed:mg "reversed"=none)(b_len:mg "len"=none)(b_sum:mg "sum"=none):FnOk P w K mg base CX0 1 f fd ["_law_chains_here"] spTot18:=by
 refine F.ok sc__law_totals (fun vs H Q E h=>?_) (fun cdv A outer s H vs Q E hr h=>?_)
 ·obtain ⟨_,_,_,_,rfl,_⟩:=h
  rfl
 obtain ⟨L,us,ls,cs,rfl,ch,bs,q⟩:=h
 refine ⟨_,(@pss_cons _ _ _ _ _ (@ps_set _ _ (1) _ _ _ _ sc__law_totals.nd rfl (Or.inr rfl) pe_dnewK (by rfl) (by first | exact .inl rfl | exact .inr rfl | assumption)) (@pss_cons _ _ _ _ _ (@ps_for _ _ _ _ _ _ _ _ PassesOwn.never rfl (@pi_rev _ _ _ _ _ _ rfl b_reversed (@pa_cons _ _ _ _ _ (pv 0) pa_nil (by rfl)) (by rfl)) (@pg_tup _ _ _ _ _ _ rfl (@pgs_cons _ _ _ _ _ (@pg_name _ _ (2) _ sc__law_totals.nd rfl (Or.inl rfl) (by first | exact .inl rfl | exact .inr rfl | assumption)) (@pgs_cons _ _ _ _ _ (@pg_name _ _ (3) _ sc__law_totals.nd rfl (Or.inl rfl) (by first | exact .inl rfl | exact .inr rfl | assumption)) pgs_nil (by rfl)) (by rfl)) (by rfl) (by rfl)) (@pss_one _ _ _ (@ps_dput _ _ _ _ _ _ _ _ _ (hu_of hr) (pv 1) (pv 2) (@pe_op _ _ _ _ _ _ _ _ op_add (@pe_callB _ _ _ _ _ _ _ _ _ call_lenR rfl b_len bo_len (@pa_cons _ _ _ _ _ (pv 3) pa_nil (by rfl)) (by decide) (by decide) (by rfl) (by rfl)) (@pe_callB _ _ _ _ _ _ _ _ _ (call_sumR (K:=K) rfl rfl) rfl b_sum bo_sum (@pa_cons _ _ _ _ _ (@pe_comp _ _ (["_law_rule"]) ([1]) _ _ _ _ _ _ _ _ _ rfl (COk.of (out:=defScope s__law_totals) (N:=["_law_chains_here","_law_totals_here","_law_name","_law_rules"]) rfl rfl (by decide +kernel)) (@pi_list _ _ _ _ (pv 3)) (fun _ _ _=>(@pg_name _ _ (0) _ (show List.Nodup (["_law_rule","_law_totals_here"]:List Str) by decide +kernel) rfl (Or.inl rfl) (by first | exact .inl rfl | exact .inr rfl | assumption))) (fun _ _ _=>(@pifs_one _ _ _ (@pt_cmpR _ _ _ _ _ _ _ _ op_eq (@pe_ix _ _ _ _ _ _ _ (ix_tupK (K:=K) rfl) (pv 0) pe_int (fun _ _=>rfl)) pe_str (nomark _)))) (fun _ _ _=>(@pe_dget _ _ _ _ _ _ (hu_of hr) (pv 1) (@pe_ix _ _ _ _ _ _ _ (ix_tupK (K:=K) rfl) (pv 0) pe_int (fun _ _=>rfl)) (fun _ _=>rfl))) (by intro _; rfl)) pa_nil (by rfl)) (by decide) (by decide) (by rfl) (by rfl))) rfl)) (by intro _; rfl)) (@pss_one _ _ _ (@ps_ret _ _ _ _ (pv 1))))),?_⟩
 rw [st__law_totals]
 walk_at "sv"
 intro td ntd
 have s0:=same_new ntd (.dK [])
 walk_at "sv"
 refine RevR.go (SqL.of (s0 _ _ ch.lst)) ?_
 have ul:=ch.vl
 refine ForR.items itv (fun r σ H'=>Same H H'∧∃ (ts:Tots) (y1 y2:Option V),H' td=some (.dK (Dk (dT ts)))∧TInv cs ts∧(∀ (i:Nat) (c:Str×List Ru),cs[i]?=some c→(c.1∈ts.map (·.1)↔cs.length≤i+r))∧σ=[some (.ref L),some (.ref td),y1,y2]) ⟨s0,[],_,_,upd_same,⟨List.nodup_nil,fun i p e=>by cases e⟩,fun i c e=>⟨fun m=>(by cases m),fun le=>?_⟩,rfl⟩ (fun r σ H' pv=>SqL.of (pv.1 _ _ ch.lst)) (fun r x σ H1 hx pv=>?_) (fun σ H1 pv=>?_)
 ·have:=(List.getElem?_eq_some_iff.mp e).1
  omega
 rotate_left
 ·obtain ⟨sm,ts,y1,y2,htd,ti,ke,rfl⟩:=pv
  walk_at "sv"
  refine q td ts H1 sm htd ti fun c hc=>?_
  obtain ⟨i,hi⟩:=List.getElem?_of_mem hc
  exact (ke i c hi).mpr (by rw [List.length_reverse,ul]; omega)
 obtain ⟨sm,ts,y1,y2,htd,ti,ke,rfl⟩:=pv
 have lr:r<us.length:=by
  have:=(List.getElem?_eq_some_iff.mp hx).1
  rwa [List.length_reverse] at this
 rw [List.getElem?_reverse lr] at hx
 obtain ⟨c,ec⟩:∃ c,cs[us.length - 1 - r]?=some c:=⟨cs[us.length - 1 - r]'(by omega),List.getElem?_eq_getElem _⟩
 obtain ⟨l,t,rs,el,ev,ht,hl,al⟩:=ch.get ec
 rw [hx] at ev
 cases ev
 have cm:=List.mem_of_getElem? ec
 have cl:=bs.len c cm
 have new:c.1∉ts.map (·.1):=fun m=>by
  have:=(ke _ c ec).mp m
  omega
 have call:∀ n∈callsOf c.2,n∈ts.map (·.1):=fun n hn=>by
  obtain ⟨j,lt,ej⟩:=bs.dn _ c ec n hn
  rw [List.getElem?_map] at ej
  obtain ⟨c',ec',e'⟩:=Option.map_eq_some_iff.mp ej
  rw [← e']
  exact (ke j c' ec').mpr (by omega)
 have knd:((dT ts).map (·.1)).Nodup:=by rw [dT_keys]; exact ti.nd
 have tl:ts.length≤5:=by
  have:=List.Nodup.length_le_of_subset ti.nd (l₂:=cs.map (·.1)) fun z hz=>ti.sub z hz
  rw [List.length_map,List.length_map] at this
  have:=bs.n5
  omega
 refine gtup2' (SqT.of (sm _ _ ht)) ?_
 walk_at "sv"
 refine LenR.lst (SqL.of (sm _ _ hl)) ?_
 rw [All2.len al]
 walk_at "sv"
 refine IlR.go (SqL.of (sm _ _ hl)) ?_
 refine CmpR.filt (fun v=>(callV H v).isSome) (totV H ts) itl (by rw [All2.len al]; omega) (fun H' s=>SqL.of (s _ _ (sm _ _ hl))) (fun x H' Q' hx s2 k=>?_) (fun x H' Q' hx hp s2 k=>?_) fun D H2 nD s2 hD=>?_
 ·obtain ⟨i,hi⟩:=List.getElem?_of_mem hx
  obtain ⟨u,_,r⟩:=All2.at al hi
  have e:=callV_at r
  obtain ⟨t,rfl,ht,ok⟩:=r
  obtain ⟨r',p⟩:=u
  have k1:=k H' (Same.refl _)
  rw [e] at k1
  have ht':=s2 _ _ (sm _ _ ht)
  walk_at "sv"
  cases r' with
  | word w =>
   refine ixT_go (i:=0) (SqT.of ht') rfl ?_
   walk_at "sv"
   rw [decide_eq_false ok.2.1]
   exact k1
  | back =>
   refine ixT_go (i:=0) (SqT.of ht') rfl ?_
   walk_at "sv"
   rw [decide_eq_false (show ("back":Str)≠"call" by decide)]
   exact k1
  | call n =>
   refine ixT_go (i:=0) (SqT.of ht') rfl ?_
   walk_at "sv"
   exact k1
 ·obtain ⟨i,hi⟩:=List.getElem?_of_mem hx
  obtain ⟨u,eu,r⟩:=All2.at al hi
  have e:=callV_at r
  obtain ⟨t,rfl,ht,ok⟩:=r
  obtain ⟨r',p⟩:=u
  have k1:=k H' (Same.refl _)
  unfold totV at k1
  rw [e] at k1 hp
  walk_at "sv"
  cases r' with
  | word w=>cases hp
  | back=>cases hp
  | call n =>
   refine ixT_go (i:=2) (SqT.of (s2 _ _ (sm _ _ ht))) rfl ?_
   refine dgetR_go (.inl (s2 _ _ htd)) (dT_look ti.nd (call n (List.mem_filterMap.mpr ⟨_,List.mem_of_getElem? eu,rfl⟩))) ?_
   exact k1
 rw [tots_list al] at hD
 refine sumR_go (SqL.of hD) ?_
 walk_at "sv"
 refine dputR_go (s2 _ _ htd) (look_no (by rw [dT_keys]; exact new)) (by unfold dT; rw [List.length_map]; omega) ?_
 rw [dT_snoc]
 refine ⟨(sm.trans s2).put ntd,_,_,_,upd_same,ti.snoc cm new call,fun i c' e=>?_,rfl⟩
 rw [List.map_append,List.mem_append]
 constructor
 ·rintro (m | m)
  ·have:=(ke i c' e).mp m
   omega
  ·have e2:c'.1=c.1:=List.mem_singleton.mp m
   obtain rfl:=ch_inj bs.nd (List.mem_of_getElem? e) cm e2
   have:=(List.getElem?_inj (List.getElem?_eq_some_iff.mp ec).1 (nd_of_map bs.nd)).mp (ec.trans e.symm)
   omega
 ·intro le
  by_cases c1:cs.length≤i+r
  ·exact .inl ((ke i c' e).mpr c1)
  ·have:i=us.length - 1 - r:=by omega
   rw [this,ec] at e
   cases e
   exact .inr (List.mem_singleton.mpr rfl)
def ovS:Option Str→V
 | none=>.non
 | some z=>.str z
def spTwice18:Sp:=fun vs H Q _=>∃ (L:Addr) (us:List V) (ls:List Addr) (cs:Chs),vs=[.ref L]∧ChW H L us ls cs∧cs.length≤20∧∀ H',Same H H'→Q (ovS (fdup [] (cs.map (·.1)))) H'
theorem ok_twice18 (F:Fun K "_law_twice" "_law_twice" s__law_twice f fd):FnOk P w K mg base CX0 1 f fd ["_law_chains_here"] spTwice18:=by
 refine F.ok sc__law_twice (fun vs H Q E h=>?_) (fun cdv A outer s H vs Q E hr h=>?_)
 ·obtain ⟨_,_,_,_,rfl,_⟩:=h
  rfl
 obtain ⟨L,us,ls,cs,rfl,ch,c20,q⟩:=h
 refine ⟨_,(@pss_cons _ _ _ _ _ (@ps_set _ _ (1) _ _ _ _ sc__law_twice.nd rfl (Or.inl rfl) pe_dnewK (by rfl) (by first | exact .inl rfl | exact .inr rfl | assumption)) (@pss_cons _ _ _ _ _ (@ps_for _ _ _ _ _ _ _ _ PassesOwn.never rfl (@pi_list _ _ _ _ (pv 0)) (@pg_tup _ _ _ _ _ _ rfl (@pgs_cons _ _ _ _ _ (@pg_name _ _ (2) _ sc__law_twice.nd rfl (Or.inl rfl) (by first | exact .inl rfl | exact .inr rfl | assumption)) (@pgs_cons _ _ _ _ _ (@pg_name _ _ (3) _ sc__law_twice.nd rfl (Or.inl rfl) (by first | exact .inl rfl | exact .inr rfl | assumption)) pgs_nil (by rfl)) (by rfl)) (by rfl) (by rfl)) (@pss_cons _ _ _ _ _ (@ps_if _ _ _ _ _ _ _ _ (@pt_cmp _ _ _ _ _ _ (@pc_din _ _ _ _ _ (hu_of hr) (pv 2) (pv 1)) (by with_unfolding_all rfl)) (@pss_one _ _ _ (@ps_ret _ _ _ _ (pv 2))) pss_nil) (@pss_one _ _ _ (@ps_dput _ _ _ _ _ _ _ _ _ (hu_of hr) (pv 1) (pv 2) pe_bl rfl))) (by intro _; rfl)) (@pss_one _ _ _ (@ps_ret _ _ _ _ pe_non)))),?_⟩
 rw [st__law_twice]
 walk_at "sv"
 intro kd nkd
 have s0:=same_new nkd (.dK [])
 walk_at "sv"
 refine IlR.go (SqL.of (s0 _ _ ch.lst)) ?_
 have ul:=ch.vl
 refine ForR.items itl (fun i σ H'=>Same H H'∧∃ (ks:List (Str×V)) (y1 y2:Option V),H' kd=some (.dK (Dk ks))∧ks.map (·.1)=(cs.map (·.1)).take i∧(∀ (j:Nat) (z:Str),j<i→(cs.map (·.1))[j]?=some z→z∉(cs.map (·.1)).take j)∧((cs.map (·.1)).take i).Nodup∧σ=[some (.ref L),some (.ref kd),y1,y2]) ⟨s0,[],_,_,upd_same,rfl,fun j z lt=>absurd lt (Nat.not_lt_zero _),List.nodup_nil,rfl⟩ (fun i σ H' pv=>SqL.of (pv.1 _ _ ch.lst)) (fun i x σ H1 hx pv=>?_) (fun σ H1 pv=>?_)
 rotate_left
 ·obtain ⟨sm,ks,y1,y2,hkd,ek,al,_,rfl⟩:=pv
  walk_at "sv"
  have e:fdup [] (cs.map (·.1))=none:=fdup_end fun j z e=>al j z (by
   have:=(List.getElem?_eq_some_iff.mp e).1
   rw [List.length_map] at this
   omega) e
  have:=q H1 sm
  rw [e] at this
  exact this
 obtain ⟨sm,ks,y1,y2,hkd,ek,al,tnd,rfl⟩:=pv
 have li:i<cs.length:=by rw [← ul]; exact (List.getElem?_eq_some_iff.mp hx).1
 obtain ⟨c,ec⟩:∃ c,cs[i]?=some c:=⟨cs[i],List.getElem?_eq_getElem li⟩
 obtain ⟨l,t,rs,el,ev,ht,hl,_⟩:=ch.get ec
 rw [hx] at ev
 cases ev
 have ez:(cs.map (·.1))[i]?=some c.1:=by rw [List.getElem?_map,ec]; rfl
 have kl:ks.length=i:=by
  have:=congrArg List.length ek
  rw [List.length_map,List.length_take,List.length_map] at this
  omega
 refine gtup2' (SqT.of (sm _ _ ht)) ?_
 walk_at "sv"
 refine dinR_go (.inl hkd) ?_
 rw [if_neg Bool.false_ne_true,look_is (by rw [ek]; exact tnd),ek]
 by_cases m:c.1∈(cs.map (·.1)).take i
 ·rw [decide_eq_true m]
  walk_at "sv"
  have:=q H1 sm
  rw [fdup_at al ez m] at this
  exact this
 rw [decide_eq_false m]
 walk_at "sv"
 refine dputR_go hkd (look_no (by rw [ek]; exact m)) (by omega) ?_
 refine ⟨sm.put nkd,_,_,_,upd_same,by rw [List.map_append,ek,List.take_add_one,ez]; rfl,fun j z lt e=>?_,by rw [List.take_add_one,ez]; exact nd_snoc tnd m,rfl⟩
 by_cases c1:j<i
 ·exact al j z c1 e
 ·obtain rfl:j=i:=by omega
  rw [ez] at e
  cases e
  exact m
theorem calls_take {us:List Ru}{j:Nat}{u:Ru}{n:Str}(e:us[j]?=some u)(c:callOf u=some n):(callsOf us)[(callsOf (us.take j)).length]?=some n∧(callsOf us).take (callsOf (us.take j)).length=callsOf (us.take j):=by
 obtain ⟨lj,e'⟩:=List.getElem?_eq_some_iff.mp e
 have h:callsOf us=callsOf (us.take j)++n::callsOf (us.drop (j+1)):=by
  conv=>lhs; rw [← List.take_append_drop j us,List.drop_eq_getElem_cons lj,e']
  unfold callsOf
  rw [List.filterMap_append,List.filterMap_cons_some c]
 rw [h]
 exact ⟨by rw [List.getElem?_append_right (Nat.le_refl _),Nat.sub_self]; rfl,List.take_left⟩
def spLacks18:Sp:=fun vs H Q _=>∃ (L:Addr) (us:List V) (ls:List Addr) (cs:Chs),vs=[.ref L]∧ChW H L us ls cs∧cs.length≤20∧∀ H',Same H H'→Q (ovS (flack (cs.map (·.1)) cs)) H'
theorem ok_lacks18 (F:Fun K "_law_lacks" "_law_lacks" s__law_lacks f fd):FnOk P w K mg base CX0 1 f fd ["_law_chains_here"] spLacks18:=by
 refine F.ok sc__law_lacks (fun vs H Q E h=>?_) (fun cdv A outer s H vs Q E hr h=>?_)
 ·obtain ⟨_,_,_,_,rfl,_⟩:=h
  rfl
 obtain ⟨L,us,ls,cs,rfl,ch,c20,q⟩:=h
 have ul:=ch.vl
 obtain ⟨pps,tt,pe⟩:∃ ps:List (V×V),All2 (fun x (p:V×V)=>∃ t,x=.ref t∧H t=some (.tup [p.1,p.2])) us ps∧ps.map (·.1)=(cs.map (·.1)).map V.str:=by
  have hl':=ch.ll
  refine ⟨(cs.zip ls).map fun p=>(.str p.1.1,.ref p.2),?_,?_⟩
  ·refine all2_of (by rw [List.length_map,List.length_zip]; omega) fun i x p e1 e2=>?_
   rw [List.getElem?_map] at e2
   obtain ⟨q',e3,rfl⟩:=Option.map_eq_some_iff.mp e2
   obtain ⟨f1,f2⟩:=List.getElem?_zip_eq_some.mp e3
   obtain ⟨t,ts,ev,ht,_⟩:=ch.aj i _ _ f1 f2
   rw [e1] at ev
   cases ev
   exact ⟨t,rfl,ht⟩
  ·rw [List.map_map,List.map_map]
   show (cs.zip ls).map (fun p=>V.str p.1.1)=cs.map fun c=>V.str c.1
   have:cs=(cs.zip ls).map (·.1):=(List.map_fst_zip (by omega)).symm
   conv=>rhs; rw [this]
   rw [List.map_map]
   rfl
 refine ⟨_,(@pss_cons _ _ _ _ _ (@ps_setComp _ _ (["_law_name","_law_rules"]) ([]) _ _ _ _ _ _ _ _ _ (1) _ _ _ rfl (COk.of (out:=defScope s__law_lacks) (N:=["_law_chains_here","_law_names_here","_law_name","_law_rules","_law_rule"]) rfl rfl (by decide +kernel)) sc__law_lacks.nd rfl (Or.inl rfl) (@pi_list _ _ _ _ (pv 0)) (fun _ _ _=>(@pg_tupK _ (K) _ _ _ _ (2) rfl rfl (@pgs_cons _ _ _ _ _ (@pg_name _ _ (0) _ (show List.Nodup (["_law_name","_law_rules"]:List Str) by decide +kernel) rfl (Or.inl rfl) (by first | exact .inl rfl | exact .inr rfl | assumption)) (@pgs_cons _ _ _ _ _ (@pg_name _ _ (1) _ (show List.Nodup (["_law_name","_law_rules"]:List Str) by decide +kernel) rfl (Or.inl rfl) (by first | exact .inl rfl | exact .inr rfl | assumption)) pgs_nil (by rfl)) (by rfl)) (by rfl) (by rfl))) (fun _ _ _=>pifs_nil) (fun _ _ _=>(pv 0)) (by rfl) (by first | exact .inl rfl | exact .inr rfl | assumption) (by intro _; rfl)) (@pss_cons _ _ _ _ _ (@ps_for _ _ _ _ _ _ _ _ PassesOwn.never rfl (@pi_list _ _ _ _ (pv 0)) (@pg_tup _ _ _ _ _ _ rfl (@pgs_cons _ _ _ _ _ (@pg_name _ _ (2) _ sc__law_lacks.nd rfl (Or.inl rfl) (by first | exact .inl rfl | exact .inr rfl | assumption)) (@pgs_cons _ _ _ _ _ (@pg_name _ _ (3) _ sc__law_lacks.nd rfl (Or.inl rfl) (by first | exact .inl rfl | exact .inr rfl | assumption)) pgs_nil (by rfl)) (by rfl)) (by rfl) (by rfl)) (@pss_one _ _ _ (@ps_for _ _ _ _ _ _ _ _ PassesOwn.never rfl (@pi_list _ _ _ _ (pv 3)) (@pg_name _ _ (4) _ sc__law_lacks.nd rfl (Or.inl rfl) (by first | exact .inl rfl | exact .inr rfl | assumption)) (@pss_one _ _ _ (@ps_if _ _ _ _ _ _ _ _ (@PW.pt _ _ _ (@pw_and _ _ _ _ _ _ _ (@pt_cmpR _ _ _ _ _ _ _ _ op_eq (@pe_ix _ _ _ _ _ _ _ ix_tup (pv 4) pe_int (fun _ _=>rfl)) pe_str (nomark _)) (@pw_and1 _ _ _ _ (@pt_cmpR _ _ _ _ _ _ _ _ (op_notinL (K:=K) rfl) (@pe_ix _ _ _ _ _ _ _ ix_tup (pv 4) pe_int (fun _ _=>rfl)) (pv 1) (by with_unfolding_all rfl))))) (@pss_one _ _ _ (@ps_ret _ _ _ _ (@pe_ix _ _ _ _ _ _ _ ix_tup (pv 4) pe_int (fun _ _=>rfl)))) pss_nil)) (by intro _; rfl))) (by intro _; rfl)) (@pss_one _ _ _ (@ps_ret _ _ _ _ pe_non)))),?_⟩
 rw [st__law_lacks]
 walk_at "sv"
 refine IlR.go (SqL.of ch.lst) ?_
 refine CmpR.tups (·.1) itl tt (by omega) (fun H' s=>SqL.of (s _ _ ch.lst)) (fun p H' Q' hp sm k=>?_) fun D H1 nD s1 hD=>?_
 ·walk_at "sv"
  exact k H' (Same.refl _)
 rw [pe] at hD
 have ch1:=ch.same s1
 walk_at "sv"
 refine IlR.go (SqL.of ch1.lst) ?_
 refine ForR.items itl (fun i σ H'=>H'=H1∧(∀ c'∈cs.take i,∀ m∈callsOf c'.2,m∈cs.map (·.1))∧∃ (y1 y2 y3:Option V),σ=[some (.ref L),some (.ref D),y1,y2,y3]) ⟨rfl,fun c' h=>(by rw [List.take_zero] at h; cases h),_,_,_,rfl⟩ (fun i σ H' pv=>by rw [pv.1]; exact SqL.of ch1.lst) (fun i x σ H' hx pv=>?_) (fun σ H' pv=>?_)
 rotate_left
 ·obtain ⟨rfl,h1,y1,y2,y3,rfl⟩:=pv
  walk_at "sv"
  have e:flack (cs.map (·.1)) cs=none:=flack_none.mpr fun c hc=>h1 c (by rw [ul,List.take_length]; exact hc)
  have:=q H' s1
  rw [e] at this
  exact this
 obtain ⟨rfl,h1,y1,y2,y3,rfl⟩:=pv
 have li:i<cs.length:=by rw [← ul]; exact (List.getElem?_eq_some_iff.mp hx).1
 obtain ⟨c,ec⟩:∃ c,cs[i]?=some c:=⟨cs[i],List.getElem?_eq_getElem li⟩
 obtain ⟨l,t,rs,el,ev,ht,hl,al⟩:=ch1.get ec
 rw [hx] at ev
 cases ev
 refine gtup2' (SqT.of ht) ?_
 walk_at "sv"
 refine IlR.go (SqL.of hl) ?_
 refine ForR.items itl (fun j σ H''=>H''=H'∧(∀ m∈callsOf (c.2.take j),m∈cs.map (·.1))∧∃ (y3:Option V),σ=[some (.ref L),some (.ref D),some (.str c.1),some (.ref l),y3]) ⟨rfl,fun m h=>(by rw [List.take_zero] at h; cases h),_,rfl⟩ (fun j σ H'' pv=>by rw [pv.1]; exact SqL.of hl) (fun j x σ H'' hx pv=>?_) (fun σ H'' pv=>?_)
 rotate_left
 ·obtain ⟨rfl,h2,y3,rfl⟩:=pv
  rw [All2.len al,List.take_length] at h2
  refine ⟨rfl,fun c' hc'=>?_,_,_,_,rfl⟩
  rw [List.take_add_one,ec,Option.toList_some] at hc'
  rcases List.mem_append.mp hc' with hc' | hc'
  ·exact h1 c' hc'
  ·rw [List.mem_singleton.mp hc']
   exact h2
 obtain ⟨rfl,h2,y3,rfl⟩:=pv
 obtain ⟨u,eu,t',rfl,ht',ok⟩:=All2.at al hx
 obtain ⟨r,p⟩:=u
 have stay:callOf (r,p)=none→∀ m∈callsOf (c.2.take (j+1)),m∈cs.map (·.1):=fun e m hm=>by
  rw [List.take_add_one,eu,Option.toList_some,callsOf_snoc,e] at hm
  exact h2 m (by simpa using hm)
 show gName _ _ _ _ _
 walk_at "sv"
 cases r with
 | word w =>
  refine ixT_go (i:=0) (SqT.of ht') rfl ?_
  walk_at "sv"
  rw [decide_eq_false ok.2.1]
  walk_at "sv"
  exact ⟨stay rfl,_,rfl⟩
 | back =>
  refine ixT_go (i:=0) (SqT.of ht') rfl ?_
  walk_at "sv"
  rw [decide_eq_false (show ("back":Str)≠"call" by decide)]
  walk_at "sv"
  exact ⟨stay rfl,_,rfl⟩
 | call n =>
  refine ixT_go (i:=0) (SqT.of ht') rfl ?_
  walk_at "sv"
  refine ixT_go (i:=2) (SqT.of ht') rfl ?_
  walk_at "sv"
  refine inR_go (SqL.of hD) ?_
  rw [if_pos rfl]
  by_cases m:n∈cs.map (·.1)
  ·rw [decide_eq_true m]
   walk_at "sv"
   refine ⟨fun m' hm=>?_,_,rfl⟩
   rw [List.take_add_one,eu,Option.toList_some,callsOf_snoc] at hm
   rcases List.mem_append.mp hm with hm | hm
   ·exact h2 m' hm
   ·rw [show m'=n from List.mem_singleton.mp hm]
    exact m
  ·rw [decide_eq_false m]
   walk_at "sv"
   refine ixT_go (i:=2) (SqT.of ht') rfl ?_
   walk_at "sv"
   obtain ⟨k1,k2⟩:=calls_take eu (show callOf (.call n,p)=some n from rfl)
   have:=q H'' s1
   rw [flack_at ec k1 h1 (by rw [k2]; exact h2) m] at this
   exact this
--CUT--
theorem ex_tots (cs:Chs):∃ ts:Tots,TInv cs ts∧readyOf cs (ts.map (·.1))=[]:=by
 have go:∀ (m:Nat) (ts:Tots),TInv cs ts→cs.length - ts.length≤m→∃ ts:Tots,TInv cs ts∧readyOf cs (ts.map (·.1))=[]:=by
  intro m
  induction m with
  | zero =>
   intro ts ti le
   refine ⟨ts,ti,rounds_done ti.nd ti.sub (.inr (by rw [List.length_map]; omega))⟩
  | succ m ih =>
   intro ts ti le
   cases e:readyOf cs (ts.map (·.1)) with
   | nil=>exact ⟨ts,ti,e⟩
   | cons z r =>
    obtain ⟨c,hc,rfl,no,al⟩:=readyOf_mem (show z∈readyOf cs (ts.map (·.1)) by rw [e]; exact List.mem_cons_self)
    refine ih _ (ti.snoc hc no al) ?_
    rw [List.length_append,List.length_singleton]
    omega
 exact go cs.length [] ⟨List.nodup_nil,fun i p e=>by cases e⟩ (Nat.sub_le _ _)
theorem LenG.uni {cs:Chs}{G G':Str→Bool}{len len':Str→Int}{rank rank':Str→Nat}(h:LenG cs G len rank)(h':LenG cs G' len' rank')(cl:Closed cs):∀ (m:Nat) (c:Str×List Ru),c∈cs→G c.1=true→rank c.1<m→G' c.1=true∧len c.1=len' c.1:=by
 intro m
 induction m with
 | zero=>intro c _ _ lt; omega
 | succ m ih =>
  intro c hc g lt
  have al:∀ n∈callsOf c.2,G' n=true∧len n=len' n:=fun n hn=>by
   obtain ⟨g1,l1⟩:=h.dn c hc g n hn
   obtain ⟨c',hc',e⟩:=List.mem_map.mp (cl c hc n hn)
   rw [← e] at g1 l1 ⊢
   exact ih c' hc' g1 (by omega)
  obtain ⟨g2,e2⟩:=h'.up c hc fun n hn=>(al n hn).1
  refine ⟨g2,?_⟩
  rw [(h.up c hc fun n hn=>(h.dn c hc g n hn).1).2,e2,List.map_congr_left fun n hn=>(al n hn).2]
theorem TInv.bndB {cs:Chs}{ls:Tots}(h:TInv cs ls)(sz:∀ c∈cs,c.2.length≤400):∀ (m i:Nat),i<m→∀ p,ls[i]?=some p→0≤p.2∧p.2≤400 * 401 ^ i:=by
 intro m
 induction m with
 | zero=>intro i lt; omega
 | succ m ih =>
  intro i lt p e
  obtain ⟨c,hc,_,e2,e3⟩:=h.aj i p e
  have s1:=sz c hc
  have s2:(callsOf c.2).length≤400:=Nat.le_trans (List.length_filterMap_le _ _) s1
  cases i with
  | zero =>
   have nil:callsOf c.2=[]:=List.eq_nil_iff_forall_not_mem.mpr fun n hn=>by
    have:=e2 n hn
    rw [List.take_zero] at this
    cases this
   rw [nil,List.map_nil,List.sum_nil] at e3
   rw [e3]
   omega
  | succ i =>
   have pw:(1:Int)≤401 ^ i:=Int.pow_pos (by decide)
   have b:=sum_bnd (B:=400 * 401 ^ i) (l:=(callsOf c.2).map (valT ls)) fun x hx=>by
    obtain ⟨n,hn,rfl⟩:=List.mem_map.mp hx
    obtain ⟨q,hq,eq⟩:=List.mem_map.mp (e2 n hn)
    obtain ⟨j,hj⟩:=List.getElem?_of_mem hq
    rw [List.getElem?_take] at hj
    split at hj
    ·have v:valT ls n=q.2:=by
      unfold valT
      rw [← eq,look_inT h.nd (List.mem_of_getElem? hj)]
      rfl
     have:=ih j (by omega) q hj
     have pj:(401:Int) ^ j≤401 ^ i:=by
      have:(401:Nat) ^ j≤401 ^ i:=Nat.pow_le_pow_right (by decide) (by omega)
      exact_mod_cast this
     rw [v]
     omega
    ·cases hj
   rw [List.length_map] at b
   have l3:((callsOf c.2).length:Int) * (400 * 401 ^ i)≤400 * (400 * 401 ^ i):=Int.mul_le_mul_of_nonneg_right (by omega) (by omega)
   rw [e3,Int.pow_succ]
   omega
theorem TInv.valB {cs:Chs}{ls:Tots}(h:TInv cs ls)(sz:∀ c∈cs,c.2.length≤400)(l9:ls.length≤20)(z:Str):0≤valT ls z∧valT ls z<10 ^ 60:=by
 unfold valT
 cases e:ls.lookup z with
 | none=>exact ⟨Int.le_refl _,by decide⟩
 | some v =>
  have m:z∈ls.map (·.1):=Classical.byContradiction fun no=>by
   rw [look_noT no] at e
   cases e
  obtain ⟨p,hp,rfl⟩:=List.mem_map.mp m
  rw [look_inT h.nd hp] at e
  cases e
  obtain ⟨i,hi⟩:=List.getElem?_of_mem hp
  have li:=(List.getElem?_eq_some_iff.mp hi).1
  have b:=h.bndB sz (i+1) i (Nat.lt_succ_self _) p hi
  have pj:(401:Int) ^ i≤401 ^ 20:=by
   have:(401:Nat) ^ i≤401 ^ 20:=Nat.pow_le_pow_right (by decide) (by omega)
   exact_mod_cast this
  refine ⟨b.1,?_⟩
  show p.2<10 ^ 60
  have:(400:Int) * 401 ^ 20<10 ^ 60:=by decide
  omega
noncomputable def tsOf (cs:Chs):Tots:=Classical.choose (ex_tots cs)
theorem tsOf_is (cs:Chs):TInv cs (tsOf cs)∧readyOf cs ((tsOf cs).map (·.1))=[]:=Classical.choose_spec (ex_tots cs)
def good (cs:Chs):Prop:=∀ c∈cs,GT (tsOf cs) c.1=true
def ExAt (H:Hp)(tv:V)(C:Addr)(f:Str)(v:V):Prop:=∃ xa d,tv=.ref xa∧IsExc H xa C (some d)∧H d=some (.xd [(f,v)])
theorem exc_same {H H':Hp}{a C:Addr}{dd:Option Addr}(h:IsExc H a C dd)(s:Same H H'):IsExc H' a C dd:=by
 obtain ⟨φ,e,k⟩:=h
 exact ⟨φ,s _ _ e,k⟩
theorem ExAt.same {H H':Hp}{tv v:V}{C:Addr}{f:Str}(h:ExAt H tv C f v)(s:Same H H'):ExAt H' tv C f v:=by
 obtain ⟨xa,d,e,ie,hd⟩:=h
 exact ⟨xa,d,e,exc_same ie s,s _ _ hd⟩
abbrev nms (cs:Chs):List Str:=cs.map (·.1)
section
variable {C_Rule C_Word C_Back C_Call C_Book C_Ring C_TooLong C_TwoChains C_NoChain C_SieveError:Addr}
def Out18 (C_Ring C_TooLong C_TwoChains C_NoChain:Addr)(H:Hp)(cs:Chs)(tv:V):Prop :=
 (∃ z,fdup [] (nms cs)=some z∧ExAt H tv C_TwoChains "name" (.str z)) ∨
 (fdup [] (nms cs)=none∧∃ n,flack (nms cs) cs=some n∧ExAt H tv C_NoChain "name" (.str n)) ∨
 (fdup [] (nms cs)=none∧flack (nms cs) cs=none∧¬ good cs∧∃ l rs,ExAt H tv C_Ring "names" (.ref l)∧H l=some (.lst rs)) ∨
 (fdup [] (nms cs)=none∧flack (nms cs) cs=none∧good cs∧120<valT (tsOf cs) "main"∧ExAt H tv C_TooLong "total" (.int (valT (tsOf cs) "main"))) ∨
 (fdup [] (nms cs)=none∧flack (nms cs) cs=none∧good cs∧valT (tsOf cs) "main"≤120∧tv=.non)
def prsOf (cs:Chs)(ls:List Addr):List (V×V):=(cs.zip ls).map fun p=>(V.str p.1.1,V.ref p.2)
theorem prs_at {cs:Chs}{ls:List Addr}{i:Nat}{p:V×V}(e:(prsOf cs ls)[i]?=some p):∃ c l,cs[i]?=some c∧ls[i]?=some l∧p=(.str c.1,.ref l):=by
 unfold prsOf at e
 rw [List.getElem?_map] at e
 obtain ⟨q,e',rfl⟩:=Option.map_eq_some_iff.mp e
 obtain ⟨f1,f2⟩:=List.getElem?_zip_eq_some.mp e'
 exact ⟨_,_,f1,f2,rfl⟩
theorem ChW.tt {H:Hp}{L:Addr}{us:List V}{ls:List Addr}{cs:Chs}(ch:ChW H L us ls cs):All2 (fun x (p:V×V)=>∃ t,x=.ref t∧H t=some (.tup [p.1,p.2])) us (prsOf cs ls):=by
 have h1:=ch.vl
 have h2:=ch.ll
 refine all2_of (by unfold prsOf; rw [List.length_map,List.length_zip]; omega) fun i x p e1 e2=>?_
 obtain ⟨c,l,f1,f2,rfl⟩:=prs_at e2
 obtain ⟨t,ts,ev,ht,_⟩:=ch.aj i c l f1 f2
 rw [e1] at ev
 cases ev
 exact ⟨t,rfl,ht⟩
def CpR (H:Hp)(D:Addr)(H':Hp)(p:V×V)(v:V):Prop:=∃ (z:Str) (l t l2:Addr) (ts:List V),p=(.str z,.ref l)∧H l=some (.lst ts)∧v=.ref t∧t≠D∧l2≠D∧H l2=none∧H' t=some (.tup [.str z,.ref l2])∧H' l2=some (.lst ts)
theorem cp_all {H H':Hp}{D L:Addr}{us vs:List V}{ls:List Addr}{cs:Chs}(ch:ChW H L us ls cs)(sm:Same H H')(sz:∀ c∈cs,c.2.length≤1000)(h:All2 (CpR H D H') (prsOf cs ls) vs):All2 (HaAt H') vs cs:=by
 have pl:(prsOf cs ls).length=cs.length:=by
  have h2:=ch.ll
  unfold prsOf
  rw [List.length_map,List.length_zip]
  omega
 refine all2_of (by rw [← All2.len h,pl]) fun i v c e1 e2=>?_
 obtain ⟨p,ep,z,l,t,l2,ts,f1,f2,f3,_,_,_,f4,f5⟩:=All2.ix h e1
 obtain ⟨c',l',g1,g2,g3⟩:=prs_at ep
 rw [e2] at g1
 cases g1
 rw [g3] at f1
 injection f1 with f1 f6
 injection f1 with f1
 injection f6 with f6
 obtain ⟨t0,ts0,_,_,h3,h4⟩:=ch.aj i c l' e2 g2
 rw [f6,f2] at h3
 cases h3
 refine ⟨t,l2,ts,f3,?_,f5,All2.imp h4 fun _ _ r=>r.same sm,sz c (List.mem_of_getElem? e2)⟩
 rw [f1]
 exact f4
def spTold18 (C_Ring C_TooLong C_TwoChains C_NoChain:Addr):Sp:=fun vs H Q _=>∃ (df:Str) (L:Addr) (us:List V) (ls:List Addr) (cs:Chs),vs=[.str df,.ref L]∧ChW H L us ls cs∧cs.length≤20∧(∀ c∈cs,NmOk c.1∧c.2.length≤400)∧("main":Str)∈nms cs∧∀ tv H',Same H H'→Out18 C_Ring C_TooLong C_TwoChains C_NoChain H' cs tv→Q tv H'
theorem book_ask {H:Hp}{x dx D:Addr}{df:Str}{vs:List V}{cs:Chs}{Q:VK}{E:XK}(hb:H x=some (.ins C_Book dx []))(hD:H D=some (.lst vs))(ha:All2 (HaAt H) vs cs)(c20:cs.length≤20)(sz:∀ c∈cs,NmOk c.1∧c.2.length≤400)(mn:("main":Str)∈nms cs)
  (q2:∀ z,fdup [] (nms cs)=some z→∀ d H',Same H H'→H' d=some (.xd [("name",.str z)])→E (.ref C_TwoChains) (some d) H')
  (qn:fdup [] (nms cs)=none→∀ n,flack (nms cs) cs=some n→∀ d H',Same H H'→H' d=some (.xd [("name",.str n)])→E (.ref C_NoChain) (some d) H')
  (qg:fdup [] (nms cs)=none→flack (nms cs) cs=none→good cs→valT (tsOf cs) "main"≤120→∀ H',(∀ a o,a≠x→H a=some o→H' a=some o)→IsBook C_Word C_Back C_Call C_Book (fresh (del H x) H') x df cs (valT (tsOf cs))→Q .non H')
  (qt:fdup [] (nms cs)=none→flack (nms cs) cs=none→good cs→120<valT (tsOf cs) "main"→∀ d H',Same H H'→H' d=some (.xd [("total",.int (valT (tsOf cs) "main"))])→E (.ref C_TooLong) (some d) H')
  (qr:fdup [] (nms cs)=none→flack (nms cs) cs=none→¬ good cs→∀ (l d:Addr) (rs:List Str) (H':Hp),Same H H'→H' d=some (.xd [("names",.ref l)])→H' l=some (.lst (rs.map V.str))→E (.ref C_Ring) (some d) H'):spBookX C_Word C_Back C_Call C_Book C_Ring C_TooLong C_TwoChains C_NoChain [.ref x,.str df,.ref D] H Q E:=by
 refine ⟨x,dx,D,df,vs,cs,GT (tsOf cs),valT (tsOf cs),rkT (tsOf cs),rfl,hb,hD,ha,fun c hc=>⟨(sz c hc).1.2,(sz c hc).1.1⟩,by omega,q2,qn,fun f1 f2=>?_⟩
 obtain ⟨ti,rd⟩:=tsOf_is cs
 have nd:=fdup_nd f1
 have tl:(tsOf cs).length≤20:=by
  have:=List.Nodup.length_le_of_subset ti.nd (l₂:=cs.map (·.1)) fun z hz=>ti.sub z hz
  rw [List.length_map,List.length_map] at this
  omega
 have vb:=ti.valB (fun c hc=>(sz c hc).2) tl "main"
 exact ⟨ti.lenG nd rd,mn,vb.1,vb.2,fun g le=>qg f1 f2 g le,fun g lt=>qt f1 f2 g lt,fun g l d rs H' s' hd hl _=>qr f1 f2 g l d rs H' s' hd hl⟩
theorem ok_told18 (F:Fun K "_law_told" "_law_told" s__law_told f fd)(gj_Book:FnIX P w K mg base C_Book 5 ["self","default","chains"] (spBookX C_Word C_Back C_Call C_Book C_Ring C_TooLong C_TwoChains C_NoChain))(b_list:mg "list"=none)(m_Book:mg "Book"=some (.ref C_Book))(m_SieveError:mg "SieveError"=some (.ref C_SieveError))(k1:PySem.W.kitCls K (.ref C_Ring) (.ref C_SieveError)=some true)(k2:PySem.W.kitCls K (.ref C_TooLong) (.ref C_SieveError)=some true)(k3:PySem.W.kitCls K (.ref C_TwoChains) (.ref C_SieveError)=some true)(k4:PySem.W.kitCls K (.ref C_NoChain) (.ref C_SieveError)=some true)(hb_SieveError:PySem.W.mroIn K C_SieveError (.type "BaseException")=some true):FnOk P w K mg base CX0 7 f fd ["_law_default","_law_chains_here"] (spTold18 C_Ring C_TooLong C_TwoChains C_NoChain):=by
 refine F.ok sc__law_told (fun vs H Q E h=>?_) (fun cdv A outer s H vs Q E hr h=>?_)
 ·obtain ⟨_,_,_,_,_,rfl,_⟩:=h
  rfl
 obtain ⟨df,L,us,ls,cs,rfl,ch,c20,sz,mn,q⟩:=h
 let X1:Value→Hp→Addr→Prop:=fun cls H' d=>(cls=.ref C_TwoChains∧∃ z,fdup [] (nms cs)=some z∧H' d=some (.xd [("name",.str z)]))∨(cls=.ref C_NoChain∧fdup [] (nms cs)=none∧∃ n,flack (nms cs) cs=some n∧H' d=some (.xd [("name",.str n)])) ∨
  (cls=.ref C_Ring∧fdup [] (nms cs)=none∧flack (nms cs) cs=none∧¬ good cs∧∃ l rs,H' d=some (.xd [("names",.ref l)])∧H' l=some (.lst rs))∨(cls=.ref C_TooLong∧fdup [] (nms cs)=none∧flack (nms cs) cs=none∧good cs∧120<valT (tsOf cs) "main"∧H' d=some (.xd [("total",.int (valT (tsOf cs) "main"))]))
 let R1:RX:=fun cls dd σ' H'=>∃ d,dd=some d∧Same H H'∧X1 cls H' d∧σ'=[some (.str df),some (.ref L),some .non,none]
 have hm1:∀ cls dd σ H,R1 cls dd σ H→∃ C',cls=.ref C'∧PySem.W.kitCls K (.ref C') (.ref C_SieveError)=some true:=fun cls dd σ H r=>by
  obtain ⟨_,_,_,(⟨e,_⟩ | ⟨e,_⟩ | ⟨e,_⟩ | ⟨e,_⟩),_⟩:=r
  ·exact ⟨_,e,k3⟩
  ·exact ⟨_,e,k4⟩
  ·exact ⟨_,e,k1⟩
  ·exact ⟨_,e,k2⟩
 refine ⟨_,(@pss_cons _ _ _ _ _ (@ps_set _ _ (2) _ _ _ _ sc__law_told.nd rfl (Or.inl rfl) pe_non (by rfl) (by first | exact .inl rfl | exact .inr rfl | assumption)) (@pss_cons _ _ _ _ _ (@ps_tryAs _ _ _ _ _ _ _ _ _ _ _ _ (3) (R1) ⟨rfl,rfl,rfl⟩ rfl m_SieveError hm1 hb_SieveError sc__law_told.nd rfl rfl (fun _=>(@pss_one _ _ _ (@ps_expr _ _ _ _ (@pe_newT _ _ _ _ _ _ _ _ _ _ _ _ _ _ gj_Book ⟨rfl,rfl,rfl⟩ hr (by decide) rfl m_Book (@pa_cons _ _ _ _ _ (pv 0) (@pa_cons _ _ _ _ _ (@pe_comp _ _ (["_law_name","_law_rules"]) ([]) _ _ _ _ _ _ _ _ _ rfl (COk.of (out:=defScope s__law_told) (N:=["_law_default","_law_chains_here","_law_told_here","e"]) rfl rfl (by decide +kernel)) (pi_listK (K:=K) rfl (pv 1)) (fun _ _ _=>(@pg_tupK _ (K) _ _ _ _ (2) rfl rfl (@pgs_cons _ _ _ _ _ (@pg_name _ _ (0) _ (show List.Nodup (["_law_name","_law_rules"]:List Str) by decide +kernel) rfl (Or.inl rfl) (by first | exact .inl rfl | exact .inr rfl | assumption)) (@pgs_cons _ _ _ _ _ (@pg_name _ _ (1) _ (show List.Nodup (["_law_name","_law_rules"]:List Str) by decide +kernel) rfl (Or.inl rfl) (by first | exact .inl rfl | exact .inr rfl | assumption)) pgs_nil (by rfl)) (by rfl)) (by rfl) (by rfl))) (fun _ _ _=>pifs_nil) (fun _ _ _=>(@pe_tup _ _ _ _ _ (@pa_cons _ _ _ _ _ (pv 0) (@pa_cons _ _ _ _ _ (@pe_callTy _ _ _ _ _ _ _ _ _ (call_listRK (K:=K) rfl) rfl b_list bo_list (@pa_cons _ _ _ _ _ (pv 1) pa_nil (by rfl)) (by decide) (by decide) (by rfl) (by rfl)) pa_nil (by rfl)) (by rfl)))) (by intro _; rfl)) pa_nil (by rfl)) (by rfl)) (by decide) (by rfl) (by rfl)) (by rfl)))) (fun _ _=>(@pss_one _ _ _ (@ps_set _ _ (2) _ _ _ _ sc__law_told.nd rfl (Or.inl rfl) (pv 3) (by rfl) (by first | exact .inl rfl | exact .inr rfl | assumption)))) (by decide)) (@pss_one _ _ _ (@ps_ret _ _ _ _ (pv 2))))),?_⟩
 rw [st__law_told]
 walk_at "sv"
 refine ⟨?_,fun cls dd σ' H' xa r hx=>?_⟩
 ·walk_at "sv"
  rw [makeT_]
  walk_at "sv"
  refine IlR.go (SqL.of ch.lst) ?_
  refine CmpR.relT (CpR H) (fun D H' H'' p v kp r=>?_) itl ch.tt (by rw [ch.vl]; omega) (fun H' s=>SqL.of (s _ _ ch.lst)) (fun D p H' ys Q' hp nD sm hD k=>?_) fun D H8 vs nD s8 hD al=>?_
  ·obtain ⟨z,l,t,l2,ts,e1,e2,e3,nt,nl,nf,ht,hl⟩:=r
   exact ⟨z,l,t,l2,ts,e1,e2,e3,nt,nl,nf,kp _ _ nt ht,kp _ _ nl hl⟩
  ·obtain ⟨i,hi⟩:=List.getElem?_of_mem hp
   obtain ⟨c,l,g1,g2,rfl⟩:=prs_at hi
   obtain ⟨t0,ts,_,_,hl,hts⟩:=ch.aj i c l g1 g2
   walk_at "sv"
   refine LstOf.lst (SqL.of (sm _ _ hl)) fun l2 nl2=>?_
   have z2:=same_new nl2 (.lst ts)
   have hl2:upd H' l2 (.lst ts) l2=some (.lst ts):=upd_same
   have hD2:=z2 _ _ hD
   have nlD:l2≠D:=fun e=>by rw [e,hD] at nl2; cases nl2
   have nf:H l2=none:=sm.free nl2
   generalize upd H' l2 (.lst ts)=Ha at *
   refine TupR.go (by simp) fun t nt=>?_
   have z3:=same_new nt (.tup [.str c.1,.ref l2])
   have ntD:t≠D:=fun e=>by rw [e,hD2] at nt; cases nt
   exact k _ _ (z2.trans z3) ⟨c.1,l,t,l2,ts,rfl,hl,rfl,ntD,nlD,nf,upd_same,z3 _ _ hl2⟩
  have ha:=cp_all ch s8 (fun c hc=>Nat.le_trans (sz c hc).2 (by decide)) al
  intro x dx nx ndx nexd
  have z1:=same_new ndx (.own x)
  have nx1:upd H8 dx (.own x) x=none:=(upd_ne nexd.symm).trans nx
  have z12:=z1.trans (same_new nx1 (.ins C_Book dx []))
  have s9:=s8.trans z12
  refine book_ask upd_same (z12 _ _ hD) (All2.imp ha fun _ _ r=>r.same z12) c20 sz mn (fun z e d H9 s10 hd=>?_) (fun f1 n e d H9 s10 hd=>?_) (fun f1 f2 g le H9 kp bk=>⟨rfl,?_⟩) (fun f1 f2 g lt d H9 s10 hd=>?_) (fun f1 f2 g l d rs H9 s10 hd hl=>?_)
  ·exact ⟨d,rfl,s9.trans s10,.inl ⟨rfl,z,e,hd⟩,rfl⟩
  ·exact ⟨d,rfl,s9.trans s10,.inr (.inl ⟨rfl,f1,n,e,hd⟩),rfl⟩
  ·have sF:Same H H9:=fun a o e=>kp a o (fun z=>by
    have:=s8 _ _ e
    rw [z,nx] at this
    cases this) (s9 _ _ e)
   walk_at "sv"
   exact q .non H9 sF (.inr (.inr (.inr (.inr ⟨f1,f2,g,le,rfl⟩))))
  ·exact ⟨d,rfl,s9.trans s10,.inr (.inr (.inr ⟨rfl,f1,f2,g,lt,hd⟩)),rfl⟩
  ·exact ⟨d,rfl,s9.trans s10,.inr (.inr (.inl ⟨rfl,f1,f2,g,l,_,hd,hl⟩)),rfl⟩
 ·obtain ⟨d,rfl,sm,ex,rfl⟩:=r
  have z:=same_new hx (excO xa cls (some d))
  have hxa:upd H' xa (excO xa cls (some d)) xa=some (excO xa cls (some d)):=upd_same
  generalize upd H' xa (excO xa cls (some d))=H8 at *
  walk_at "sv"
  refine q (.ref xa) H8 (sm.trans z) ?_
  rcases ex with ⟨rfl,y,e,hd⟩ | ⟨rfl,f1,n,e,hd⟩ | ⟨rfl,f1,f2,g,l,rs,hd,hl⟩ | ⟨rfl,f1,f2,g,lt,hd⟩
  ·exact .inl ⟨y,e,xa,d,rfl,IsExc.of hxa,z _ _ hd⟩
  ·exact .inr (.inl ⟨f1,n,e,xa,d,rfl,IsExc.of hxa,z _ _ hd⟩)
  ·exact .inr (.inr (.inl ⟨f1,f2,g,l,rs,⟨xa,d,rfl,IsExc.of hxa,z _ _ hd⟩,z _ _ hl⟩))
  ·exact .inr (.inr (.inr (.inl ⟨f1,f2,g,lt,xa,d,rfl,IsExc.of hxa,z _ _ hd⟩)))
end
--CUT--
theorem bools_eqv:∀ bs cs:List Bool,PyData.eqvAll (bs.map .bool) (cs.map .bool)=decide (bs=cs)
 | [],[]=>rfl
 | [],_::_=>rfl
 | _::_,[]=>rfl
 | b::bs,c::cs=>by
  have ih:=bools_eqv bs cs
  rw [List.map_cons,List.map_cons,PyData.eqvAll,ih]
  cases b <;> cases c <;> simp [PyData.eqv]
theorem bools_dt {H:Hp}{a:Addr}{bs:List Bool}(h:H a=some (.lst (bs.map V.bl))):Dt H (.ref a) (.list (bs.map .bool)):=by
 refine .lst (.inl h) ?_
 clear h
 induction bs with
 | nil=>exact .nil
 | cons b bs ih=>exact .cons (.bl b) ih
theorem bools_sh (bs:List Bool):SeqAt.shaped (.list (bs.map .bool))=true:=by
 have a:=canLayAll_of PyData.bool (fun b=>by simp [PyData.canLay0]) bs
 have b:=depthAll_of PyData.bool (n:=1) (fun b=>by simp [PyData.depth]) bs
 exact shaped_of (by simp [PyData.canLay0,a]) (by simp only [PyData.depth]; omega)
theorem bools_go {H:Hp}{Q:VK}{neg:Bool}{a b:Addr}{bs cs:List Bool}(ha:H a=some (.lst (bs.map V.bl)))(hb:H b=some (.lst (cs.map V.bl)))(q:Q (.bl (if neg=true then !decide (bs=cs) else decide (bs=cs))) H):rEqD neg (.ref a) (.ref b) H Q:=by
 refine ⟨_,_,bools_dt ha,bools_dt hb,bools_sh bs,bools_sh cs,?_⟩
 have e:PyData.eqv (.list (bs.map .bool)) (.list (cs.map .bool))=decide (bs=cs):=by
  rw [← bools_eqv]
  simp [PyData.eqv]
 rw [e]
 exact q
theorem str_non (z:Str):decide (V.str z=V.non)=false:=decide_eq_false fun h=>by cases h
structure X8 (K:PySem.W.Frag)(C C1 C2 C3 C4 C5 C6 C7:Addr)(b1 b2 b3 b4:Bool):Prop where
 z:ExcI K C
 ve:PySem.W.kitOne K (.ref C) (.type "ValueError")=some true
 i1:PySem.W.kitOne K (.ref C) (.ref C1)=some b1
 i2:PySem.W.kitOne K (.ref C) (.ref C2)=some b2
 i3:PySem.W.kitOne K (.ref C) (.ref C3)=some b3
 i4:PySem.W.kitOne K (.ref C) (.ref C4)=some b4
 i5:PySem.W.kitOne K (.ref C) (.ref C5)=some false
 i6:PySem.W.kitOne K (.ref C) (.ref C6)=some false
 i7:PySem.W.kitOne K (.ref C) (.ref C7)=some false
section
variable {C_Ring C_TooLong C_TwoChains C_NoChain C_NoRow C_NoRule C_NoName:Addr}
def Ans (cs:Chs)(bits total:Int):Prop:=fdup [] (nms cs)=none→flack (nms cs) cs=none→(bits / 4 % 2=1→¬ good cs)∧(bits / 4 % 2≠1→good cs∧valT (tsOf cs) "main"=total)
def spAns18:Sp:=fun vs H Q _=>∃ (L:Addr) (us:List V) (ls:List Addr) (cs:Chs) (bits total:Int),vs=[.ref L,.int bits,.int total]∧ChW H L us ls cs∧cs.length≤20∧(∀ c∈cs,NmOk c.1∧c.2.length≤400)∧("main":Str)∈nms cs∧Ans cs bits total∧∀ H',Same H H'→Q (.bl true) H'
theorem ok_ans18 (F:Fun K "_law_answers" "_law_answers" s__law_answers f fd)(g__law_told:Fn P w K mg base "_law_told" 7 ["_law_default","_law_chains_here"] (spTold18 C_Ring C_TooLong C_TwoChains C_NoChain))(g__law_twice:Fn P w K mg base "_law_twice" 1 ["_law_chains_here"] spTwice18)(g__law_lacks:Fn P w K mg base "_law_lacks" 1 ["_law_chains_here"] spLacks18)(g__law_whole:Fn P w K mg base "_law_whole" 1 ["_law_found"] spWhole)(b_isinstance:mg "isinstance"=none)(b_ValueError:mg "ValueError"=none)(b_str:mg "str"=none)(b_list:mg "list"=none)(m_TwoChains:mg "TwoChains"=some (.ref C_TwoChains))(m_NoChain:mg "NoChain"=some (.ref C_NoChain))(m_Ring:mg "Ring"=some (.ref C_Ring))(m_TooLong:mg "TooLong"=some (.ref C_TooLong))(m_NoRow:mg "NoRow"=some (.ref C_NoRow))(m_NoRule:mg "NoRule"=some (.ref C_NoRule))(m_NoName:mg "NoName"=some (.ref C_NoName))
  (x1:X8 K C_TwoChains C_TwoChains C_NoChain C_Ring C_TooLong C_NoRow C_NoRule C_NoName true false false false) (x2:X8 K C_NoChain C_TwoChains C_NoChain C_Ring C_TooLong C_NoRow C_NoRule C_NoName false true false false) (x3:X8 K C_Ring C_TwoChains C_NoChain C_Ring C_TooLong C_NoRow C_NoRule C_NoName false false true false) (x4:X8 K C_TooLong C_TwoChains C_NoChain C_Ring C_TooLong C_NoRow C_NoRule C_NoName false false false true)
  (n1:PySem.W.kitOne K (.type "NoneType") (.ref C_TwoChains)=some false) (n2:PySem.W.kitOne K (.type "NoneType") (.ref C_NoChain)=some false) (n3:PySem.W.kitOne K (.type "NoneType") (.ref C_Ring)=some false) (n4:PySem.W.kitOne K (.type "NoneType") (.ref C_TooLong)=some false) (na1:NoAttr K C_TwoChains "name") (na2:NoAttr K C_NoChain "name") (na3:NoAttr K C_Ring "names") (na4:NoAttr K C_TooLong "total"):FnOk P w K mg base CX0 8 f fd ["_law_chains_here","_law_bits","_law_total"] spAns18:=by
 refine F.ok sc__law_answers (fun vs H Q E h=>?_) (fun cdv A outer s H vs Q E hr h=>?_)
 ·obtain ⟨_,_,_,_,_,_,rfl,_⟩:=h
  rfl
 obtain ⟨L,us,ls,cs,bits,total,rfl,ch,c20,sz,mn,ans,q⟩:=h
 refine ⟨_,(@pss_cons _ _ _ _ _ (@ps_set _ _ (3) _ _ _ _ sc__law_answers.nd rfl (Or.inl rfl) (@pe_fn _ _ _ _ _ _ _ _ _ _ _ g__law_told hr (by decide) rfl (@pa_cons _ _ _ _ _ pe_str (@pa_cons _ _ _ _ _ (pv 0) pa_nil (by rfl)) (by rfl)) (by decide) (by rfl) (by rfl)) (by rfl) (by first | exact .inl rfl | exact .inr rfl | assumption)) (@pss_cons _ _ _ _ _ (@ps_set _ _ (4) _ _ _ _ sc__law_answers.nd rfl (Or.inl rfl) (@pe_fn _ _ _ _ _ _ _ _ _ _ _ g__law_twice hr (by decide) rfl (@pa_cons _ _ _ _ _ (pv 0) pa_nil (by rfl)) (by decide) (by rfl) (by rfl)) (by rfl) (by first | exact .inl rfl | exact .inr rfl | assumption)) (@pss_cons _ _ _ _ _ (@ps_set _ _ (5) _ _ _ _ sc__law_answers.nd rfl (Or.inl rfl) (@pe_fn _ _ _ _ _ _ _ _ _ _ _ g__law_lacks hr (by decide) rfl (@pa_cons _ _ _ _ _ (pv 0) pa_nil (by rfl)) (by decide) (by rfl) (by rfl)) (by rfl) (by first | exact .inl rfl | exact .inr rfl | assumption)) (@pss_cons _ _ _ _ _ (@ps_set _ _ (6) _ _ _ _ sc__law_answers.nd rfl (Or.inl rfl) (@pe_cmpR _ _ _ _ _ _ _ _ op_eq (@pe_op _ _ _ _ _ _ _ _ op_mod (@pe_op _ _ _ _ _ _ _ _ op_divW (pv 1) pe_int) pe_int) pe_int (nomark _)) (by rfl) (by first | exact .inl rfl | exact .inr rfl | assumption)) (@pss_cons _ _ _ _ _ (@ps_set _ _ (7) _ _ _ _ sc__law_answers.nd rfl (Or.inl rfl) (@pe_lst _ _ _ _ (@pa_cons _ _ _ _ _ (@pe_cmpR _ _ _ _ _ _ _ _ op_notN (pv 4) pe_non (nomark _)) (@pa_cons _ _ _ _ _ (@pe_and _ _ _ _ _ _ _ (@pe_cmpR _ _ _ _ _ _ _ _ op_isN (pv 4) pe_non (nomark _)) (@pe_one _ _ _ _ _ (@pe_cmpR _ _ _ _ _ _ _ _ op_notN (pv 5) pe_non (nomark _)))) pa_nil (by rfl)) (by rfl))) (by rfl) (by first | exact .inl rfl | exact .inr rfl | assumption)) (@pss_cons _ _ _ _ _ (@ps_set _ _ (7) _ _ _ _ sc__law_answers.nd rfl (Or.inl rfl) (@pe_op _ _ _ _ _ _ _ _ op_catQ (pv 7) (@pe_lst _ _ _ _ (@pa_cons _ _ _ _ _ (@pe_and _ _ _ _ _ _ _ (@pe_cmpR _ _ _ _ _ _ _ _ (op_eqD hr.units) (pv 7) (@pe_lst _ _ _ _ (@pa_cons _ _ _ _ _ pe_bl (@pa_cons _ _ _ _ _ pe_bl pa_nil (by rfl)) (by rfl))) (nomark _)) (@pe_one _ _ _ _ _ (pv 6))) (@pa_cons _ _ _ _ _ (@pe_and _ _ _ _ _ _ _ (@pe_cmpR _ _ _ _ _ _ _ _ (op_eqD hr.units) (pv 7) (@pe_lst _ _ _ _ (@pa_cons _ _ _ _ _ pe_bl (@pa_cons _ _ _ _ _ pe_bl pa_nil (by rfl)) (by rfl))) (nomark _)) (@pe_and _ _ _ _ _ _ _ (@pe_not _ _ _ _ (pv 6)) (@pe_one _ _ _ _ _ (@pe_cmpR _ _ _ _ _ _ _ _ op_gt (pv 2) pe_int (nomark _))))) pa_nil (by rfl)) (by rfl)))) (by rfl) (by first | exact .inl rfl | exact .inr rfl | assumption)) (@pss_cons _ _ _ _ _ (@ps_set _ _ (8) _ _ _ _ sc__law_answers.nd rfl (Or.inl rfl) (@pe_lst _ _ _ _ (@pa_cons _ _ _ _ _ (@pe_callB _ _ _ _ _ _ _ _ _ call_isiN rfl b_isinstance bo_isinstance (@pa_cons _ _ _ _ _ (pv 3) (@pa_cons _ _ _ _ _ (@pe_glob _ _ (.ref C_TwoChains) _ _ rfl m_TwoChains rfl (by decide)) pa_nil (by rfl)) (by rfl)) (by decide) (by decide) (by rfl) (by rfl)) (@pa_cons _ _ _ _ _ (@pe_callB _ _ _ _ _ _ _ _ _ call_isiN rfl b_isinstance bo_isinstance (@pa_cons _ _ _ _ _ (pv 3) (@pa_cons _ _ _ _ _ (@pe_glob _ _ (.ref C_NoChain) _ _ rfl m_NoChain rfl (by decide)) pa_nil (by rfl)) (by rfl)) (by decide) (by decide) (by rfl) (by rfl)) (@pa_cons _ _ _ _ _ (@pe_callB _ _ _ _ _ _ _ _ _ call_isiN rfl b_isinstance bo_isinstance (@pa_cons _ _ _ _ _ (pv 3) (@pa_cons _ _ _ _ _ (@pe_glob _ _ (.ref C_Ring) _ _ rfl m_Ring rfl (by decide)) pa_nil (by rfl)) (by rfl)) (by decide) (by decide) (by rfl) (by rfl)) (@pa_cons _ _ _ _ _ (@pe_callB _ _ _ _ _ _ _ _ _ call_isiN rfl b_isinstance bo_isinstance (@pa_cons _ _ _ _ _ (pv 3) (@pa_cons _ _ _ _ _ (@pe_glob _ _ (.ref C_TooLong) _ _ rfl m_TooLong rfl (by decide)) pa_nil (by rfl)) (by rfl)) (by decide) (by decide) (by rfl) (by rfl)) pa_nil (by rfl)) (by rfl)) (by rfl)) (by rfl))) (by rfl) (by first | exact .inl rfl | exact .inr rfl | assumption)) (@pss_cons _ _ _ _ _ (@ps_if _ _ _ _ _ _ _ _ (@pt_cmpR _ _ _ _ _ _ _ _ (op_neD hr.units) (pv 8) (pv 7) (nomark _)) (@pss_one _ _ _ (@ps_ret _ _ _ _ pe_bl)) pss_nil) (@pss_cons _ _ _ _ _ (@ps_if _ _ _ _ _ _ _ _ (@pt_cmpR _ _ _ _ _ _ _ _ (op_eqD hr.units) (pv 7) (@pe_lst _ _ _ _ (@pa_cons _ _ _ _ _ pe_bl (@pa_cons _ _ _ _ _ pe_bl (@pa_cons _ _ _ _ _ pe_bl (@pa_cons _ _ _ _ _ pe_bl pa_nil (by rfl)) (by rfl)) (by rfl)) (by rfl))) (nomark _)) (@pss_one _ _ _ (@ps_ret _ _ _ _ (@pe_cmpR _ _ _ _ _ _ _ _ op_isN (pv 3) pe_non (nomark _)))) pss_nil) (@pss_cons _ _ _ _ _ (@ps_if _ _ _ _ _ _ _ _ (@PW.pt _ _ _ (@pw_or _ _ _ _ _ _ _ (@pt_not _ _ _ _ (@pt_val _ _ _ (@pe_callB _ _ _ _ _ _ _ _ _ call_isiE rfl b_isinstance bo_isinstance (@pa_cons _ _ _ _ _ (pv 3) (@pa_cons _ _ _ _ _ (@pe_bltn _ _ (.ty "ValueError") (.type "ValueError") _ rfl b_ValueError bo_ValueError rfl (by decide) (by decide)) pa_nil (by rfl)) (by rfl)) (by decide) (by decide) (by rfl) (by rfl)) (by intro _; rfl))) (@pw_or1 _ _ _ _ (@pt_val _ _ _ (@pe_callB _ _ _ _ _ _ _ _ _ call_isiE rfl b_isinstance bo_isinstance (@pa_cons _ _ _ _ _ (pv 3) (@pa_cons _ _ _ _ _ (@pe_glob _ _ (.ref C_NoRow) _ _ rfl m_NoRow rfl (by decide)) pa_nil (by rfl)) (by rfl)) (by decide) (by decide) (by rfl) (by rfl)) (by intro _; rfl))))) (@pss_one _ _ _ (@ps_ret _ _ _ _ pe_bl)) pss_nil) (@pss_cons _ _ _ _ _ (@ps_if _ _ _ _ _ _ _ _ (@PW.pt _ _ _ (@pw_or _ _ _ _ _ _ _ (@pt_val _ _ _ (@pe_callB _ _ _ _ _ _ _ _ _ call_isiE rfl b_isinstance bo_isinstance (@pa_cons _ _ _ _ _ (pv 3) (@pa_cons _ _ _ _ _ (@pe_glob _ _ (.ref C_NoRule) _ _ rfl m_NoRule rfl (by decide)) pa_nil (by rfl)) (by rfl)) (by decide) (by decide) (by rfl) (by rfl)) (by intro _; rfl)) (@pw_or1 _ _ _ _ (@pt_val _ _ _ (@pe_callB _ _ _ _ _ _ _ _ _ call_isiE rfl b_isinstance bo_isinstance (@pa_cons _ _ _ _ _ (pv 3) (@pa_cons _ _ _ _ _ (@pe_glob _ _ (.ref C_NoName) _ _ rfl m_NoName rfl (by decide)) pa_nil (by rfl)) (by rfl)) (by decide) (by decide) (by rfl) (by rfl)) (by intro _; rfl))))) (@pss_one _ _ _ (@ps_ret _ _ _ _ pe_bl)) pss_nil) (@pss_cons _ _ _ _ _ (@ps_if _ _ _ _ _ _ _ _ (@pt_val _ _ _ (@pe_ix _ _ _ _ _ _ _ ix_list (pv 7) pe_int (fun _ _=>rfl)) (by intro _; rfl)) (@pss_one _ _ _ (@ps_ret _ _ _ _ (@pe_and _ _ _ _ _ _ _ (@pe_callB _ _ _ _ _ _ _ _ _ call_isi rfl b_isinstance bo_isinstance (@pa_cons _ _ _ _ _ (@pe_fldE _ _ _ _ _ (pv 3) rfl) (@pa_cons _ _ _ _ _ (@pe_bltn _ _ (.ty "str") (.type "str") _ rfl b_str bo_str rfl (by decide) (by decide)) pa_nil (by rfl)) (by rfl)) (by decide) (by decide) (by rfl) (by rfl)) (@pe_one _ _ _ _ _ (@pe_cmpR _ _ _ _ _ _ _ _ op_eq (@pe_fldE _ _ _ _ _ (pv 3) rfl) (pv 4) (nomark _)))))) pss_nil) (@pss_cons _ _ _ _ _ (@ps_if _ _ _ _ _ _ _ _ (@pt_val _ _ _ (@pe_ix _ _ _ _ _ _ _ ix_list (pv 7) pe_int (fun _ _=>rfl)) (by intro _; rfl)) (@pss_one _ _ _ (@ps_ret _ _ _ _ (@pe_and _ _ _ _ _ _ _ (@pe_callB _ _ _ _ _ _ _ _ _ call_isi rfl b_isinstance bo_isinstance (@pa_cons _ _ _ _ _ (@pe_fldE _ _ _ _ _ (pv 3) rfl) (@pa_cons _ _ _ _ _ (@pe_bltn _ _ (.ty "str") (.type "str") _ rfl b_str bo_str rfl (by decide) (by decide)) pa_nil (by rfl)) (by rfl)) (by decide) (by decide) (by rfl) (by rfl)) (@pe_one _ _ _ _ _ (@pe_cmpR _ _ _ _ _ _ _ _ op_eq (@pe_fldE _ _ _ _ _ (pv 3) rfl) (pv 5) (nomark _)))))) pss_nil) (@pss_cons _ _ _ _ _ (@ps_if _ _ _ _ _ _ _ _ (@pt_val _ _ _ (@pe_ix _ _ _ _ _ _ _ ix_list (pv 7) pe_int (fun _ _=>rfl)) (by intro _; rfl)) (@pss_one _ _ _ (@ps_ret _ _ _ _ (@pe_callB _ _ _ _ _ _ _ _ _ call_isi rfl b_isinstance bo_isinstance (@pa_cons _ _ _ _ _ (@pe_fldE _ _ _ _ _ (pv 3) rfl) (@pa_cons _ _ _ _ _ (@pe_bltn _ _ (.ty "list") (.type "list") _ rfl b_list bo_list rfl (by decide) (by decide)) pa_nil (by rfl)) (by rfl)) (by decide) (by decide) (by rfl) (by rfl)))) pss_nil) (@pss_one _ _ _ (@ps_ret _ _ _ _ (@pe_and _ _ _ _ _ _ _ (@pe_fn _ _ _ _ _ _ _ _ _ _ _ g__law_whole hr (by decide) rfl (@pa_cons _ _ _ _ _ (@pe_fldE _ _ _ _ _ (pv 3) rfl) pa_nil (by rfl)) (by decide) (by rfl) (by rfl)) (@pe_one _ _ _ _ _ (@pe_cmpR _ _ _ _ _ _ _ _ op_eq (@pe_fldE _ _ _ _ _ (pv 3) rfl) (pv 2) (nomark _)))))))))))))))))))),?_⟩
 rw [st__law_answers]
 refine seq_hid fun N go=>?_
 walk_at "sv"
 refine ⟨"stop",L,us,ls,cs,rfl,ch,c20,sz,mn,fun tv H1 s1 out=>?_⟩
 refine go _ _ ?_
 clear go
 have ch1:=ch.same s1
 refine seq_hid fun N go=>?_
 walk_at "sv"
 refine ⟨L,us,ls,cs,rfl,ch1,c20,fun H2 s2=>?_⟩
 refine go _ _ ?_
 clear go
 refine seq_hid fun N go=>?_
 walk_at "sv"
 refine ⟨L,us,ls,cs,rfl,ch1.same s2,c20,fun H3 s3=>?_⟩
 refine go _ _ ?_
 clear go
 have s13:=s2.trans s3
 have s03:=s1.trans s13
 refine seq_hid fun N go=>?_
 walk_at "sv"
 refine ⟨⟨by decide,by decide⟩,by decide,?_⟩
 refine go _ _ ?_
 clear go
 rcases out with ⟨z,e1,ex⟩ | ⟨e1,n,e2,ex⟩ | ⟨e1,e2,g,l,rs,ex,hl⟩ | ⟨e1,e2,g,lt,ex⟩ | ⟨e1,e2,g,le,rfl⟩
 ·obtain ⟨xa,d,rfl,ie,hd⟩:=ex.same s13
  rw [e1]
  unfold ovS
  refine seq_hid fun N go=>?_
  walk_at "sv"
  simp only [str_non]
  walk_at "sv"
  refine LstR.go (by simp) fun l1 nl1=>?_
  have z1:=same_new nl1 (.lst ([true,false].map V.bl))
  have h1:upd H3 l1 (.lst [.bl true,.bl false]) l1=some (.lst ([true,false].map V.bl)):=upd_same
  have z1:Same H3 (upd H3 l1 (.lst [.bl true,.bl false])):=z1
  generalize upd H3 l1 (.lst [.bl true,.bl false])=H4 at *
  refine go _ _ ?_
  clear go
  refine seq_hid fun N go=>?_
  walk_at "sv"
  refine LstR.go (by simp) fun l2 nl2=>?_
  have z2:=same_new nl2 (.lst ([false,false].map V.bl))
  refine bools_go (bs:=[true,false]) (cs:=[false,false]) (z2 _ _ h1) upd_same ?_
  have z2:Same H4 (upd H4 l2 (.lst [.bl false,.bl false])):=z2
  have h2:=z2 _ _ h1
  generalize upd H4 l2 (.lst [.bl false,.bl false])=H5 at *
  rw [if_neg Bool.false_ne_true,show decide ([true,false]=[false,false])=false from rfl]
  walk_at "sv"
  refine LstR.go (by simp) fun l3 nl3=>?_
  have z3:=same_new nl3 (.lst ([false,false].map V.bl))
  refine bools_go (bs:=[true,false]) (cs:=[false,false]) (z3 _ _ h2) upd_same ?_
  have z3:Same H5 (upd H5 l3 (.lst [.bl false,.bl false])):=z3
  have h3:=z3 _ _ h2
  generalize upd H5 l3 (.lst [.bl false,.bl false])=H6 at *
  rw [if_neg Bool.false_ne_true,show decide ([true,false]=[false,false])=false from rfl]
  walk_at "sv"
  refine LstR.go (by simp) fun l4 nl4=>?_
  have z4:=same_new nl4 (.lst ([false,false].map V.bl))
  have h4:upd H6 l4 (.lst [.bl false,.bl false]) l4=some (.lst ([false,false].map V.bl)):=upd_same
  have z4:Same H6 (upd H6 l4 (.lst [.bl false,.bl false])):=z4
  generalize upd H6 l4 (.lst [.bl false,.bl false])=H7 at *
  refine catQ_go (SqL.of (z4 _ _ h3)) (SqL.of h4) (by simp) fun l5 nl5=>?_
  have z5:=same_new nl5 (.lst ([true,false,false,false].map V.bl))
  have h5:upd H7 l5 (.lst ([true,false].map V.bl++[false,false].map V.bl)) l5=some (.lst ([true,false,false,false].map V.bl)):=upd_same
  have z5:Same H7 (upd H7 l5 (.lst ([true,false].map V.bl++[false,false].map V.bl))):=z5
  generalize upd H7 l5 (.lst ([true,false].map V.bl++[false,false].map V.bl))=H8 at *
  have s38:=z1.trans (z2.trans (z3.trans (z4.trans z5)))
  refine go _ _ ?_
  clear go
  have ie8:=exc_same ie s38
  have hd8:=s38 _ _ hd
  have xd:∀ d',some d=some d'→∃ fs,H8 d'=some (.xd fs):=fun d' e=>⟨_,by cases e; exact hd8⟩
  refine seq_hid fun N go=>?_
  walk_at "sv"
  refine .inl ⟨xa,C_TwoChains,some d,.ref C_TwoChains,_,rfl,.inr ⟨_,rfl⟩,ie8,xd,x1.z,x1.i1,?_⟩
  walk_at "sv"
  refine .inl ⟨xa,C_TwoChains,some d,.ref C_NoChain,_,rfl,.inr ⟨_,rfl⟩,ie8,xd,x1.z,x1.i2,?_⟩
  walk_at "sv"
  refine .inl ⟨xa,C_TwoChains,some d,.ref C_Ring,_,rfl,.inr ⟨_,rfl⟩,ie8,xd,x1.z,x1.i3,?_⟩
  walk_at "sv"
  refine .inl ⟨xa,C_TwoChains,some d,.ref C_TooLong,_,rfl,.inr ⟨_,rfl⟩,ie8,xd,x1.z,x1.i4,?_⟩
  refine LstR.go (by simp) fun l6 nl6=>?_
  have z6:=same_new nl6 (.lst ([true,false,false,false].map V.bl))
  have h6:upd H8 l6 (.lst [.bl true,.bl false,.bl false,.bl false]) l6=some (.lst ([true,false,false,false].map V.bl)):=upd_same
  have z6:Same H8 (upd H8 l6 (.lst [.bl true,.bl false,.bl false,.bl false])):=z6
  generalize upd H8 l6 (.lst [.bl true,.bl false,.bl false,.bl false])=H9 at *
  refine go _ _ ?_
  clear go
  walk_at "sv"
  refine bools_go (bs:=[true,false,false,false]) (cs:=[true,false,false,false]) h6 (z6 _ _ h5) ?_
  rw [if_pos rfl,decide_eq_true rfl]
  walk_at "sv"
  refine LstR.go (by simp) fun l7 nl7=>?_
  have z7:=same_new nl7 (.lst ([false,false,false,false].map V.bl))
  refine bools_go (bs:=[true,false,false,false]) (cs:=[false,false,false,false]) (z7 _ _ (z6 _ _ h5)) upd_same ?_
  rw [if_neg Bool.false_ne_true,show decide ([true,false,false,false]=[false,false,false,false])=false from rfl]
  have z7:Same H9 (upd H9 l7 (.lst [.bl false,.bl false,.bl false,.bl false])):=z7
  generalize upd H9 l7 (.lst [.bl false,.bl false,.bl false,.bl false])=Ha at *
  have z67:=z6.trans z7
  have iea:=exc_same ie8 z67
  have hda:=z67 _ _ hd8
  have h5a:=z67 _ _ h5
  have xda:∀ d',some d=some d'→∃ fs,Ha d'=some (.xd fs):=fun d' e=>⟨_,by cases e; exact hda⟩
  have sF:=s03.trans (s38.trans z67)
  walk_at "sv"
  refine ⟨xa,C_TwoChains,some d,.ty "ValueError",true,rfl,.inl ⟨_,rfl⟩,iea,xda,x1.z,x1.ve,?_⟩
  walk_at "sv"
  refine ⟨xa,C_TwoChains,some d,.ref C_NoRow,false,rfl,.inr ⟨_,rfl⟩,iea,xda,x1.z,x1.i5,?_⟩
  walk_at "sv"
  refine ⟨xa,C_TwoChains,some d,.ref C_NoRule,false,rfl,.inr ⟨_,rfl⟩,iea,xda,x1.z,x1.i6,?_⟩
  walk_at "sv"
  refine ⟨xa,C_TwoChains,some d,.ref C_NoName,false,rfl,.inr ⟨_,rfl⟩,iea,xda,x1.z,x1.i7,?_⟩
  walk_at "sv"
  refine ixL_go (i:=0) (SqL.of h5a) rfl ?_
  walk_at "sv"
  refine ⟨xa,C_TwoChains,d,_,.str _,rfl,iea,hda,x1.z,na1,look_one _ _ _,?_⟩
  refine isi_str ?_
  walk_at "sv"
  refine ⟨xa,C_TwoChains,d,_,.str _,rfl,iea,hda,x1.z,na1,look_one _ _ _,?_⟩
  walk_at "sv"
  exact q _ sF
 ·obtain ⟨xa,d,rfl,ie,hd⟩:=ex.same s13
  rw [e1,e2]
  unfold ovS
  refine seq_hid fun N go=>?_
  walk_at "sv"
  simp only [str_non]
  walk_at "sv"
  refine LstR.go (by simp) fun l1 nl1=>?_
  have z1:=same_new nl1 (.lst ([false,true].map V.bl))
  have h1:upd H3 l1 (.lst [.bl false,.bl true]) l1=some (.lst ([false,true].map V.bl)):=upd_same
  have z1:Same H3 (upd H3 l1 (.lst [.bl false,.bl true])):=z1
  generalize upd H3 l1 (.lst [.bl false,.bl true])=H4 at *
  refine go _ _ ?_
  clear go
  refine seq_hid fun N go=>?_
  walk_at "sv"
  refine LstR.go (by simp) fun l2 nl2=>?_
  have z2:=same_new nl2 (.lst ([false,false].map V.bl))
  refine bools_go (bs:=[false,true]) (cs:=[false,false]) (z2 _ _ h1) upd_same ?_
  have z2:Same H4 (upd H4 l2 (.lst [.bl false,.bl false])):=z2
  have h2:=z2 _ _ h1
  generalize upd H4 l2 (.lst [.bl false,.bl false])=H5 at *
  rw [if_neg Bool.false_ne_true,show decide ([false,true]=[false,false])=false from rfl]
  walk_at "sv"
  refine LstR.go (by simp) fun l3 nl3=>?_
  have z3:=same_new nl3 (.lst ([false,false].map V.bl))
  refine bools_go (bs:=[false,true]) (cs:=[false,false]) (z3 _ _ h2) upd_same ?_
  have z3:Same H5 (upd H5 l3 (.lst [.bl false,.bl false])):=z3
  have h3:=z3 _ _ h2
  generalize upd H5 l3 (.lst [.bl false,.bl false])=H6 at *
  rw [if_neg Bool.false_ne_true,show decide ([false,true]=[false,false])=false from rfl]
  walk_at "sv"
  refine LstR.go (by simp) fun l4 nl4=>?_
  have z4:=same_new nl4 (.lst ([false,false].map V.bl))
  have h4:upd H6 l4 (.lst [.bl false,.bl false]) l4=some (.lst ([false,false].map V.bl)):=upd_same
  have z4:Same H6 (upd H6 l4 (.lst [.bl false,.bl false])):=z4
  generalize upd H6 l4 (.lst [.bl false,.bl false])=H7 at *
  refine catQ_go (SqL.of (z4 _ _ h3)) (SqL.of h4) (by simp) fun l5 nl5=>?_
  have z5:=same_new nl5 (.lst ([false,true,false,false].map V.bl))
  have h5:upd H7 l5 (.lst ([false,true].map V.bl++[false,false].map V.bl)) l5=some (.lst ([false,true,false,false].map V.bl)):=upd_same
  have z5:Same H7 (upd H7 l5 (.lst ([false,true].map V.bl++[false,false].map V.bl))):=z5
  generalize upd H7 l5 (.lst ([false,true].map V.bl++[false,false].map V.bl))=H8 at *
  have s38:=z1.trans (z2.trans (z3.trans (z4.trans z5)))
  refine go _ _ ?_
  clear go
  have ie8:=exc_same ie s38
  have hd8:=s38 _ _ hd
  have xd:∀ d',some d=some d'→∃ fs,H8 d'=some (.xd fs):=fun d' e=>⟨_,by cases e; exact hd8⟩
  refine seq_hid fun N go=>?_
  walk_at "sv"
  refine .inl ⟨xa,C_NoChain,some d,.ref C_TwoChains,_,rfl,.inr ⟨_,rfl⟩,ie8,xd,x2.z,x2.i1,?_⟩
  walk_at "sv"
  refine .inl ⟨xa,C_NoChain,some d,.ref C_NoChain,_,rfl,.inr ⟨_,rfl⟩,ie8,xd,x2.z,x2.i2,?_⟩
  walk_at "sv"
  refine .inl ⟨xa,C_NoChain,some d,.ref C_Ring,_,rfl,.inr ⟨_,rfl⟩,ie8,xd,x2.z,x2.i3,?_⟩
  walk_at "sv"
  refine .inl ⟨xa,C_NoChain,some d,.ref C_TooLong,_,rfl,.inr ⟨_,rfl⟩,ie8,xd,x2.z,x2.i4,?_⟩
  refine LstR.go (by simp) fun l6 nl6=>?_
  have z6:=same_new nl6 (.lst ([false,true,false,false].map V.bl))
  have h6:upd H8 l6 (.lst [.bl false,.bl true,.bl false,.bl false]) l6=some (.lst ([false,true,false,false].map V.bl)):=upd_same
  have z6:Same H8 (upd H8 l6 (.lst [.bl false,.bl true,.bl false,.bl false])):=z6
  generalize upd H8 l6 (.lst [.bl false,.bl true,.bl false,.bl false])=H9 at *
  refine go _ _ ?_
  clear go
  walk_at "sv"
  refine bools_go (bs:=[false,true,false,false]) (cs:=[false,true,false,false]) h6 (z6 _ _ h5) ?_
  rw [if_pos rfl,decide_eq_true rfl]
  walk_at "sv"
  refine LstR.go (by simp) fun l7 nl7=>?_
  have z7:=same_new nl7 (.lst ([false,false,false,false].map V.bl))
  refine bools_go (bs:=[false,true,false,false]) (cs:=[false,false,false,false]) (z7 _ _ (z6 _ _ h5)) upd_same ?_
  rw [if_neg Bool.false_ne_true,show decide ([false,true,false,false]=[false,false,false,false])=false from rfl]
  have z7:Same H9 (upd H9 l7 (.lst [.bl false,.bl false,.bl false,.bl false])):=z7
  generalize upd H9 l7 (.lst [.bl false,.bl false,.bl false,.bl false])=Ha at *
  have z67:=z6.trans z7
  have iea:=exc_same ie8 z67
  have hda:=z67 _ _ hd8
  have h5a:=z67 _ _ h5
  have xda:∀ d',some d=some d'→∃ fs,Ha d'=some (.xd fs):=fun d' e=>⟨_,by cases e; exact hda⟩
  have sF:=s03.trans (s38.trans z67)
  walk_at "sv"
  refine ⟨xa,C_NoChain,some d,.ty "ValueError",true,rfl,.inl ⟨_,rfl⟩,iea,xda,x2.z,x2.ve,?_⟩
  walk_at "sv"
  refine ⟨xa,C_NoChain,some d,.ref C_NoRow,false,rfl,.inr ⟨_,rfl⟩,iea,xda,x2.z,x2.i5,?_⟩
  walk_at "sv"
  refine ⟨xa,C_NoChain,some d,.ref C_NoRule,false,rfl,.inr ⟨_,rfl⟩,iea,xda,x2.z,x2.i6,?_⟩
  walk_at "sv"
  refine ⟨xa,C_NoChain,some d,.ref C_NoName,false,rfl,.inr ⟨_,rfl⟩,iea,xda,x2.z,x2.i7,?_⟩
  walk_at "sv"
  refine ixL_go (i:=0) (SqL.of h5a) rfl ?_
  walk_at "sv"
  refine ixL_go (i:=1) (SqL.of h5a) rfl ?_
  walk_at "sv"
  refine ⟨xa,C_NoChain,d,_,.str _,rfl,iea,hda,x2.z,na2,look_one _ _ _,?_⟩
  refine isi_str ?_
  walk_at "sv"
  refine ⟨xa,C_NoChain,d,_,.str _,rfl,iea,hda,x2.z,na2,look_one _ _ _,?_⟩
  walk_at "sv"
  exact q _ sF
 ·obtain ⟨xa,d,rfl,ie,hd⟩:=ex.same s13
  have rg:bits / 4 % 2=1:=Classical.byContradiction fun n=>g ((ans e1 e2).2 n).1
  rw [e1,e2,decide_eq_true rg]
  have hl3:=s13 _ _ hl
  unfold ovS
  refine seq_hid fun N go=>?_
  walk_at "sv"
  refine LstR.go (by simp) fun l1 nl1=>?_
  have z1:=same_new nl1 (.lst ([false,false].map V.bl))
  have h1:upd H3 l1 (.lst [.bl false,.bl false]) l1=some (.lst ([false,false].map V.bl)):=upd_same
  have z1:Same H3 (upd H3 l1 (.lst [.bl false,.bl false])):=z1
  generalize upd H3 l1 (.lst [.bl false,.bl false])=H4 at *
  refine go _ _ ?_
  clear go
  refine seq_hid fun N go=>?_
  walk_at "sv"
  refine LstR.go (by simp) fun l2 nl2=>?_
  have z2:=same_new nl2 (.lst ([false,false].map V.bl))
  refine bools_go (bs:=[false,false]) (cs:=[false,false]) (z2 _ _ h1) upd_same ?_
  have z2:Same H4 (upd H4 l2 (.lst [.bl false,.bl false])):=z2
  have h2:=z2 _ _ h1
  generalize upd H4 l2 (.lst [.bl false,.bl false])=H5 at *
  rw [if_neg Bool.false_ne_true,show decide ([false,false]=[false,false])=true from rfl]
  walk_at "sv"
  refine LstR.go (by simp) fun l3 nl3=>?_
  have z3:=same_new nl3 (.lst ([false,false].map V.bl))
  refine bools_go (bs:=[false,false]) (cs:=[false,false]) (z3 _ _ h2) upd_same ?_
  have z3:Same H5 (upd H5 l3 (.lst [.bl false,.bl false])):=z3
  have h3:=z3 _ _ h2
  generalize upd H5 l3 (.lst [.bl false,.bl false])=H6 at *
  rw [if_neg Bool.false_ne_true,show decide ([false,false]=[false,false])=true from rfl]
  walk_at "sv"
  refine LstR.go (by simp) fun l4 nl4=>?_
  have z4:=same_new nl4 (.lst ([true,false].map V.bl))
  have h4:upd H6 l4 (.lst [.bl true,.bl false]) l4=some (.lst ([true,false].map V.bl)):=upd_same
  have z4:Same H6 (upd H6 l4 (.lst [.bl true,.bl false])):=z4
  generalize upd H6 l4 (.lst [.bl true,.bl false])=H7 at *
  refine catQ_go (SqL.of (z4 _ _ h3)) (SqL.of h4) (by simp) fun l5 nl5=>?_
  have z5:=same_new nl5 (.lst ([false,false,true,false].map V.bl))
  have h5:upd H7 l5 (.lst ([false,false].map V.bl++[true,false].map V.bl)) l5=some (.lst ([false,false,true,false].map V.bl)):=upd_same
  have z5:Same H7 (upd H7 l5 (.lst ([false,false].map V.bl++[true,false].map V.bl))):=z5
  generalize upd H7 l5 (.lst ([false,false].map V.bl++[true,false].map V.bl))=H8 at *
  have s38:=z1.trans (z2.trans (z3.trans (z4.trans z5)))
  refine go _ _ ?_
  clear go
  have ie8:=exc_same ie s38
  have hd8:=s38 _ _ hd
  have xd:∀ d',some d=some d'→∃ fs,H8 d'=some (.xd fs):=fun d' e=>⟨_,by cases e; exact hd8⟩
  refine seq_hid fun N go=>?_
  walk_at "sv"
  refine .inl ⟨xa,C_Ring,some d,.ref C_TwoChains,_,rfl,.inr ⟨_,rfl⟩,ie8,xd,x3.z,x3.i1,?_⟩
  walk_at "sv"
  refine .inl ⟨xa,C_Ring,some d,.ref C_NoChain,_,rfl,.inr ⟨_,rfl⟩,ie8,xd,x3.z,x3.i2,?_⟩
  walk_at "sv"
  refine .inl ⟨xa,C_Ring,some d,.ref C_Ring,_,rfl,.inr ⟨_,rfl⟩,ie8,xd,x3.z,x3.i3,?_⟩
  walk_at "sv"
  refine .inl ⟨xa,C_Ring,some d,.ref C_TooLong,_,rfl,.inr ⟨_,rfl⟩,ie8,xd,x3.z,x3.i4,?_⟩
  refine LstR.go (by simp) fun l6 nl6=>?_
  have z6:=same_new nl6 (.lst ([false,false,true,false].map V.bl))
  have h6:upd H8 l6 (.lst [.bl false,.bl false,.bl true,.bl false]) l6=some (.lst ([false,false,true,false].map V.bl)):=upd_same
  have z6:Same H8 (upd H8 l6 (.lst [.bl false,.bl false,.bl true,.bl false])):=z6
  generalize upd H8 l6 (.lst [.bl false,.bl false,.bl true,.bl false])=H9 at *
  refine go _ _ ?_
  clear go
  walk_at "sv"
  refine bools_go (bs:=[false,false,true,false]) (cs:=[false,false,true,false]) h6 (z6 _ _ h5) ?_
  rw [if_pos rfl,decide_eq_true rfl]
  walk_at "sv"
  refine LstR.go (by simp) fun l7 nl7=>?_
  have z7:=same_new nl7 (.lst ([false,false,false,false].map V.bl))
  refine bools_go (bs:=[false,false,true,false]) (cs:=[false,false,false,false]) (z7 _ _ (z6 _ _ h5)) upd_same ?_
  rw [if_neg Bool.false_ne_true,show decide ([false,false,true,false]=[false,false,false,false])=false from rfl]
  have z7:Same H9 (upd H9 l7 (.lst [.bl false,.bl false,.bl false,.bl false])):=z7
  generalize upd H9 l7 (.lst [.bl false,.bl false,.bl false,.bl false])=Ha at *
  have z67:=z6.trans z7
  have iea:=exc_same ie8 z67
  have hda:=z67 _ _ hd8
  have h5a:=z67 _ _ h5
  have xda:∀ d',some d=some d'→∃ fs,Ha d'=some (.xd fs):=fun d' e=>⟨_,by cases e; exact hda⟩
  have sF:=s03.trans (s38.trans z67)
  walk_at "sv"
  refine ⟨xa,C_Ring,some d,.ty "ValueError",true,rfl,.inl ⟨_,rfl⟩,iea,xda,x3.z,x3.ve,?_⟩
  walk_at "sv"
  refine ⟨xa,C_Ring,some d,.ref C_NoRow,false,rfl,.inr ⟨_,rfl⟩,iea,xda,x3.z,x3.i5,?_⟩
  walk_at "sv"
  refine ⟨xa,C_Ring,some d,.ref C_NoRule,false,rfl,.inr ⟨_,rfl⟩,iea,xda,x3.z,x3.i6,?_⟩
  walk_at "sv"
  refine ⟨xa,C_Ring,some d,.ref C_NoName,false,rfl,.inr ⟨_,rfl⟩,iea,xda,x3.z,x3.i7,?_⟩
  walk_at "sv"
  refine ixL_go (i:=0) (SqL.of h5a) rfl ?_
  walk_at "sv"
  refine ixL_go (i:=1) (SqL.of h5a) rfl ?_
  walk_at "sv"
  refine ixL_go (i:=2) (SqL.of h5a) rfl ?_
  walk_at "sv"
  refine ⟨xa,C_Ring,d,_,.ref l,rfl,iea,hda,x3.z,na3,look_one _ _ _,?_⟩
  refine isi_lst (z67 _ _ (s38 _ _ hl3)) ?_
  exact q _ sF
 ·obtain ⟨xa,d,rfl,ie,hd⟩:=ex.same s13
  have rg:¬ bits / 4 % 2=1:=fun n=>(ans e1 e2).1 n g
  have ev:=((ans e1 e2).2 rg).2
  rw [e1,e2,decide_eq_false rg]
  rw [ev] at hd lt
  unfold ovS
  refine seq_hid fun N go=>?_
  walk_at "sv"
  refine LstR.go (by simp) fun l1 nl1=>?_
  have z1:=same_new nl1 (.lst ([false,false].map V.bl))
  have h1:upd H3 l1 (.lst [.bl false,.bl false]) l1=some (.lst ([false,false].map V.bl)):=upd_same
  have z1:Same H3 (upd H3 l1 (.lst [.bl false,.bl false])):=z1
  generalize upd H3 l1 (.lst [.bl false,.bl false])=H4 at *
  refine go _ _ ?_
  clear go
  refine seq_hid fun N go=>?_
  walk_at "sv"
  refine LstR.go (by simp) fun l2 nl2=>?_
  have z2:=same_new nl2 (.lst ([false,false].map V.bl))
  refine bools_go (bs:=[false,false]) (cs:=[false,false]) (z2 _ _ h1) upd_same ?_
  have z2:Same H4 (upd H4 l2 (.lst [.bl false,.bl false])):=z2
  have h2:=z2 _ _ h1
  generalize upd H4 l2 (.lst [.bl false,.bl false])=H5 at *
  rw [if_neg Bool.false_ne_true,show decide ([false,false]=[false,false])=true from rfl]
  walk_at "sv"
  refine LstR.go (by simp) fun l3 nl3=>?_
  have z3:=same_new nl3 (.lst ([false,false].map V.bl))
  refine bools_go (bs:=[false,false]) (cs:=[false,false]) (z3 _ _ h2) upd_same ?_
  have z3:Same H5 (upd H5 l3 (.lst [.bl false,.bl false])):=z3
  have h3:=z3 _ _ h2
  generalize upd H5 l3 (.lst [.bl false,.bl false])=H6 at *
  rw [if_neg Bool.false_ne_true,show decide ([false,false]=[false,false])=true from rfl]
  walk_at "sv"
  rw [decide_eq_true (show total > 120 by omega)]
  refine LstR.go (by simp) fun l4 nl4=>?_
  have z4:=same_new nl4 (.lst ([false,true].map V.bl))
  have h4:upd H6 l4 (.lst [.bl false,.bl true]) l4=some (.lst ([false,true].map V.bl)):=upd_same
  have z4:Same H6 (upd H6 l4 (.lst [.bl false,.bl true])):=z4
  generalize upd H6 l4 (.lst [.bl false,.bl true])=H7 at *
  refine catQ_go (SqL.of (z4 _ _ h3)) (SqL.of h4) (by simp) fun l5 nl5=>?_
  have z5:=same_new nl5 (.lst ([false,false,false,true].map V.bl))
  have h5:upd H7 l5 (.lst ([false,false].map V.bl++[false,true].map V.bl)) l5=some (.lst ([false,false,false,true].map V.bl)):=upd_same
  have z5:Same H7 (upd H7 l5 (.lst ([false,false].map V.bl++[false,true].map V.bl))):=z5
  generalize upd H7 l5 (.lst ([false,false].map V.bl++[false,true].map V.bl))=H8 at *
  have s38:=z1.trans (z2.trans (z3.trans (z4.trans z5)))
  refine go _ _ ?_
  clear go
  have ie8:=exc_same ie s38
  have hd8:=s38 _ _ hd
  have xd:∀ d',some d=some d'→∃ fs,H8 d'=some (.xd fs):=fun d' e=>⟨_,by cases e; exact hd8⟩
  refine seq_hid fun N go=>?_
  walk_at "sv"
  refine .inl ⟨xa,C_TooLong,some d,.ref C_TwoChains,_,rfl,.inr ⟨_,rfl⟩,ie8,xd,x4.z,x4.i1,?_⟩
  walk_at "sv"
  refine .inl ⟨xa,C_TooLong,some d,.ref C_NoChain,_,rfl,.inr ⟨_,rfl⟩,ie8,xd,x4.z,x4.i2,?_⟩
  walk_at "sv"
  refine .inl ⟨xa,C_TooLong,some d,.ref C_Ring,_,rfl,.inr ⟨_,rfl⟩,ie8,xd,x4.z,x4.i3,?_⟩
  walk_at "sv"
  refine .inl ⟨xa,C_TooLong,some d,.ref C_TooLong,_,rfl,.inr ⟨_,rfl⟩,ie8,xd,x4.z,x4.i4,?_⟩
  refine LstR.go (by simp) fun l6 nl6=>?_
  have z6:=same_new nl6 (.lst ([false,false,false,true].map V.bl))
  have h6:upd H8 l6 (.lst [.bl false,.bl false,.bl false,.bl true]) l6=some (.lst ([false,false,false,true].map V.bl)):=upd_same
  have z6:Same H8 (upd H8 l6 (.lst [.bl false,.bl false,.bl false,.bl true])):=z6
  generalize upd H8 l6 (.lst [.bl false,.bl false,.bl false,.bl true])=H9 at *
  refine go _ _ ?_
  clear go
  walk_at "sv"
  refine bools_go (bs:=[false,false,false,true]) (cs:=[false,false,false,true]) h6 (z6 _ _ h5) ?_
  rw [if_pos rfl,decide_eq_true rfl]
  walk_at "sv"
  refine LstR.go (by simp) fun l7 nl7=>?_
  have z7:=same_new nl7 (.lst ([false,false,false,false].map V.bl))
  refine bools_go (bs:=[false,false,false,true]) (cs:=[false,false,false,false]) (z7 _ _ (z6 _ _ h5)) upd_same ?_
  rw [if_neg Bool.false_ne_true,show decide ([false,false,false,true]=[false,false,false,false])=false from rfl]
  have z7:Same H9 (upd H9 l7 (.lst [.bl false,.bl false,.bl false,.bl false])):=z7
  generalize upd H9 l7 (.lst [.bl false,.bl false,.bl false,.bl false])=Ha at *
  have z67:=z6.trans z7
  have iea:=exc_same ie8 z67
  have hda:=z67 _ _ hd8
  have h5a:=z67 _ _ h5
  have xda:∀ d',some d=some d'→∃ fs,Ha d'=some (.xd fs):=fun d' e=>⟨_,by cases e; exact hda⟩
  have sF:=s03.trans (s38.trans z67)
  walk_at "sv"
  refine ⟨xa,C_TooLong,some d,.ty "ValueError",true,rfl,.inl ⟨_,rfl⟩,iea,xda,x4.z,x4.ve,?_⟩
  walk_at "sv"
  refine ⟨xa,C_TooLong,some d,.ref C_NoRow,false,rfl,.inr ⟨_,rfl⟩,iea,xda,x4.z,x4.i5,?_⟩
  walk_at "sv"
  refine ⟨xa,C_TooLong,some d,.ref C_NoRule,false,rfl,.inr ⟨_,rfl⟩,iea,xda,x4.z,x4.i6,?_⟩
  walk_at "sv"
  refine ⟨xa,C_TooLong,some d,.ref C_NoName,false,rfl,.inr ⟨_,rfl⟩,iea,xda,x4.z,x4.i7,?_⟩
  walk_at "sv"
  refine ixL_go (i:=0) (SqL.of h5a) rfl ?_
  walk_at "sv"
  refine ixL_go (i:=1) (SqL.of h5a) rfl ?_
  walk_at "sv"
  refine ixL_go (i:=2) (SqL.of h5a) rfl ?_
  walk_at "sv"
  refine ⟨xa,C_TooLong,d,_,.int _,rfl,iea,hda,x4.z,na4,look_one _ _ _,?_⟩
  refine spWhole.go ?_
  walk_at "sv"
  refine ⟨xa,C_TooLong,d,_,.int _,rfl,iea,hda,x4.z,na4,look_one _ _ _,?_⟩
  walk_at "sv"
  exact q _ sF
 ·have rg:¬ bits / 4 % 2=1:=fun n=>(ans e1 e2).1 n g
  have ev:=((ans e1 e2).2 rg).2
  rw [e1,e2,decide_eq_false rg]
  rw [ev] at le
  unfold ovS
  refine seq_hid fun N go=>?_
  walk_at "sv"
  refine LstR.go (by simp) fun l1 nl1=>?_
  have z1:=same_new nl1 (.lst ([false,false].map V.bl))
  have h1:upd H3 l1 (.lst [.bl false,.bl false]) l1=some (.lst ([false,false].map V.bl)):=upd_same
  have z1:Same H3 (upd H3 l1 (.lst [.bl false,.bl false])):=z1
  generalize upd H3 l1 (.lst [.bl false,.bl false])=H4 at *
  refine go _ _ ?_
  clear go
  refine seq_hid fun N go=>?_
  walk_at "sv"
  refine LstR.go (by simp) fun l2 nl2=>?_
  have z2:=same_new nl2 (.lst ([false,false].map V.bl))
  refine bools_go (bs:=[false,false]) (cs:=[false,false]) (z2 _ _ h1) upd_same ?_
  have z2:Same H4 (upd H4 l2 (.lst [.bl false,.bl false])):=z2
  have h2:=z2 _ _ h1
  generalize upd H4 l2 (.lst [.bl false,.bl false])=H5 at *
  rw [if_neg Bool.false_ne_true,decide_eq_true rfl]
  walk_at "sv"
  refine LstR.go (by simp) fun l3 nl3=>?_
  have z3:=same_new nl3 (.lst ([false,false].map V.bl))
  refine bools_go (bs:=[false,false]) (cs:=[false,false]) (z3 _ _ h2) upd_same ?_
  have z3:Same H5 (upd H5 l3 (.lst [.bl false,.bl false])):=z3
  have h3:=z3 _ _ h2
  generalize upd H5 l3 (.lst [.bl false,.bl false])=H6 at *
  rw [if_neg Bool.false_ne_true,decide_eq_true rfl]
  walk_at "sv"
  rw [decide_eq_false (show ¬ total > 120 by omega)]
  refine LstR.go (by simp) fun l4 nl4=>?_
  have z4:=same_new nl4 (.lst ([false,false].map V.bl))
  have h4:upd H6 l4 (.lst [.bl false,.bl false]) l4=some (.lst ([false,false].map V.bl)):=upd_same
  have z4:Same H6 (upd H6 l4 (.lst [.bl false,.bl false])):=z4
  generalize upd H6 l4 (.lst [.bl false,.bl false])=H7 at *
  refine catQ_go (SqL.of (z4 _ _ h3)) (SqL.of h4) (by simp) fun l5 nl5=>?_
  have z5:=same_new nl5 (.lst ([false,false,false,false].map V.bl))
  have h5:upd H7 l5 (.lst ([false,false].map V.bl++[false,false].map V.bl)) l5=some (.lst ([false,false,false,false].map V.bl)):=upd_same
  have z5:Same H7 (upd H7 l5 (.lst ([false,false].map V.bl++[false,false].map V.bl))):=z5
  generalize upd H7 l5 (.lst ([false,false].map V.bl++[false,false].map V.bl))=H8 at *
  have s38:=z1.trans (z2.trans (z3.trans (z4.trans z5)))
  refine go _ _ ?_
  clear go
  refine seq_hid fun N go=>?_
  walk_at "sv"
  refine isiN_non n1 ?_
  walk_at "sv"
  refine isiN_non n2 ?_
  walk_at "sv"
  refine isiN_non n3 ?_
  walk_at "sv"
  refine isiN_non n4 ?_
  refine LstR.go (by simp) fun l6 nl6=>?_
  have z6:=same_new nl6 (.lst ([false,false,false,false].map V.bl))
  have h6:upd H8 l6 (.lst [.bl false,.bl false,.bl false,.bl false]) l6=some (.lst ([false,false,false,false].map V.bl)):=upd_same
  have z6:Same H8 (upd H8 l6 (.lst [.bl false,.bl false,.bl false,.bl false])):=z6
  generalize upd H8 l6 (.lst [.bl false,.bl false,.bl false,.bl false])=H9 at *
  refine go _ _ ?_
  clear go
  walk_at "sv"
  refine bools_go (bs:=[false,false,false,false]) (cs:=[false,false,false,false]) h6 (z6 _ _ h5) ?_
  rw [if_pos rfl,decide_eq_true rfl]
  walk_at "sv"
  refine LstR.go (by simp) fun l7 nl7=>?_
  have z7:=same_new nl7 (.lst ([false,false,false,false].map V.bl))
  refine bools_go (bs:=[false,false,false,false]) (cs:=[false,false,false,false]) (z7 _ _ (z6 _ _ h5)) upd_same ?_
  rw [if_neg Bool.false_ne_true,decide_eq_true rfl]
  walk_at "sv"
  exact q _ (s03.trans (s38.trans (z6.trans z7)))
end
--CUT--
theorem ins_get {α:Type}{l:List α}{p:Nat}{x:α}(hp:p≤l.length)(i:Nat):(l.take p++x::l.drop p)[i]?=if i<p then l[i]? else if i=p then some x else l[i - 1]?:=by
 by_cases c:i<p
 ·rw [if_pos c,List.getElem?_append_left (by rw [List.length_take]; omega),List.getElem?_take,if_pos c]
 ·rw [if_neg c,List.getElem?_append_right (by rw [List.length_take]; omega),List.length_take,Nat.min_eq_left hp]
  by_cases c2:i=p
  ·rw [if_pos c2,c2,Nat.sub_self]
   rfl
  ·rw [if_neg c2]
   obtain ⟨j,e⟩:∃ j,i - p=j+1:=⟨i - p - 1,by omega⟩
   rw [e,List.getElem?_cons_succ,List.getElem?_drop]
   congr 1
   omega
def insC (cs:Chs)(p:Nat)(c:Str×List Ru):Chs:=cs.take p++c::cs.drop p
theorem ChL.ins {H:Hp}{L:Addr}{vs:List V}{ls:List Addr}{cs:Chs}{p:Nat}{c:Str×List Ru}{l t:Addr}{ts:List V}(h:ChL H L vs ls cs)(hp:p≤cs.length)(ht:H t=some (.tup [.str c.1,.ref l]))(hl:H l=some (.lst ts))(al:All2 (RtAt H) ts c.2)(nl:l∉ls)(nL:l≠L):ChL (upd H L (.lst (vs.take p++.ref t::vs.drop p))) L (vs.take p++.ref t::vs.drop p) (ls.take p++l::ls.drop p) (insC cs p c):=by
 have k:=upd_tupT (ts':=vs.take p++.ref t::vs.drop p) h.lst
 have h1:=h.vl
 have h2:=h.ll
 have pm:(ls.take p++l::ls.drop p).Perm (l::ls):=by
  have:=List.perm_middle (a:=l) (l₁:=ls.take p) (l₂:=ls.drop p)
  rwa [List.take_append_drop] at this
 refine ⟨⟨upd_same,?_,?_,fun i c' l' e1 e2=>?_⟩,pm.nodup_iff.mpr (List.nodup_cons.mpr ⟨nl,h.nd⟩),fun m=>?_⟩
 ·unfold insC
  simp only [List.length_append,List.length_cons,List.length_take,List.length_drop]
  omega
 ·unfold insC
  simp only [List.length_append,List.length_cons,List.length_take,List.length_drop]
  omega
 ·unfold insC at e1
  rw [ins_get hp] at e1
  rw [ins_get (by omega)] at e2
  rw [ins_get (by omega)]
  have old:∀ j,cs[j]?=some c'→ls[j]?=some l'→∃ (t0:Addr) (ts0:List V),vs[j]?=some (V.ref t0)∧upd H L (.lst (vs.take p++.ref t::vs.drop p)) t0=some (.tup [.str c'.1,.ref l'])∧upd H L (.lst (vs.take p++.ref t::vs.drop p)) l'=some (.lst ts0)∧All2 (RtAt (upd H L (.lst (vs.take p++.ref t::vs.drop p)))) ts0 c'.2:=fun j f1 f2=>by
   obtain ⟨t0,ts0,a,b,d,e⟩:=h.aj j c' l' f1 f2
   exact ⟨t0,ts0,a,k _ _ b,(upd_ne (show l'≠L from fun z=>h.nL (z▸List.mem_of_getElem? f2))).trans d,All2.imp e fun _ _ r=>r.mono k⟩
  by_cases c1:i<p
  ·rw [if_pos c1] at e1 e2 ⊢
   exact old i e1 e2
  ·rw [if_neg c1] at e1 e2 ⊢
   by_cases c2:i=p
   ·rw [if_pos c2] at e1 e2 ⊢
    cases e1
    cases e2
    exact ⟨t,ts,rfl,k _ _ ht,(upd_ne nL).trans hl,All2.imp al fun _ _ r=>r.mono k⟩
   ·rw [if_neg c2] at e1 e2 ⊢
    exact old (i - 1) e1 e2
 ·rcases List.mem_cons.mp (pm.mem_iff.mp m) with e | m
  ·exact nL e.symm
  ·exact h.nL m
theorem callsOf_ins (us:List Ru)(p:Nat)(u:Ru)(n:Str):n∈callsOf (insR us p u)↔n∈callsOf us∨callOf u=some n:=by
 have e:callsOf us=callsOf (us.take p)++callsOf (us.drop p):=by
  unfold callsOf
  rw [← List.filterMap_append,List.take_append_drop]
 rw [e]
 unfold insR callsOf
 rw [List.filterMap_append,List.mem_append,List.mem_append]
 cases c:callOf u with
 | none =>
  rw [List.filterMap_cons_none c]
  simp
 | some m =>
  rw [List.filterMap_cons_some c,List.mem_cons]
  constructor
  ·rintro (h | h | h)
   ·exact .inl (.inl h)
   ·exact .inr (by rw [h])
   ·exact .inl (.inr h)
  ·rintro ((h | h) | h)
   ·exact .inl h
   ·exact .inr (.inr h)
   ·exact .inr (.inl (Option.some.inj h).symm)
theorem insR_len (us:List Ru)(p:Nat)(u:Ru):(insR us p u).length=us.length+1:=by
 unfold insR
 have:=congrArg List.length (List.take_append_drop p us)
 rw [List.length_append] at this
 rw [List.length_append,List.length_cons]
 omega
theorem nms_set {cs:Chs}{a:Nat}{c:Str×List Ru}{us:List Ru}(e:cs[a]?=some c):nms (cs.set a (c.1,us))=nms cs:=by
 refine List.ext_getElem? fun i=>?_
 rw [List.getElem?_map,List.getElem?_map]
 by_cases h:a=i
 ·subst h
  rw [List.getElem?_set_self (List.getElem?_eq_some_iff.mp e).1,e]
  rfl
 ·rw [List.getElem?_set_ne h]
structure Gw (cs cs':Chs)(k:Nat):Prop where
 nms:nms cs'=K18.nms cs
 ge:∀ (i:Nat) (c:Str×List Ru),cs[i]?=some c→∃ c',cs'[i]?=some c'∧c'.1=c.1∧(∀ n∈callsOf c.2,n∈callsOf c'.2)∧c'.2.length≤c.2.length+k
theorem Gw.refl (cs:Chs):Gw cs cs 0:=⟨rfl,fun i c e=>⟨c,e,rfl,fun n h=>h,Nat.le_refl _⟩⟩
theorem Gw.trans {cs cs1 cs2:Chs}{k k2:Nat}(h:Gw cs cs1 k)(h2:Gw cs1 cs2 k2):Gw cs cs2 (k+k2):=⟨h2.nms.trans h.nms,fun i c e=>by
 obtain ⟨c1,e1,n1,s1,l1⟩:=h.ge i c e
 obtain ⟨c2,e2,n2,s2,l2⟩:=h2.ge i c1 e1
 exact ⟨c2,e2,n2.trans n1,fun n hn=>s2 n (s1 n hn),by omega⟩⟩
theorem Gw.up {cs cs1:Chs}{k k2:Nat}(h:Gw cs cs1 k)(l:k≤k2):Gw cs cs1 k2:=⟨h.nms,fun i c e=>by
 obtain ⟨c1,e1,n1,s1,l1⟩:=h.ge i c e
 exact ⟨c1,e1,n1,s1,by omega⟩⟩
theorem Gw.put {cs:Chs}{a p:Nat}{c:Str×List Ru}{u:Ru}(e:cs[a]?=some c):Gw cs (cs.set a (c.1,insR c.2 p u)) 1:=⟨nms_set e,fun i c' e'=>by
 by_cases h:a=i
 ·subst h
  rw [e] at e'
  cases e'
  exact ⟨_,List.getElem?_set_self (List.getElem?_eq_some_iff.mp e).1,rfl,fun n hn=>(callsOf_ins _ _ _ _).mpr (.inl hn),by rw [insR_len]; exact Nat.le_refl _⟩
 ·exact ⟨c',by rw [List.getElem?_set_ne h]; exact e',rfl,fun n hn=>hn,Nat.le_succ _⟩⟩
theorem Gw.len {cs cs1:Chs}{k:Nat}(h:Gw cs cs1 k):cs1.length=cs.length:=by
 have:=congrArg List.length h.nms
 unfold K18.nms at this
 rwa [List.length_map,List.length_map] at this
theorem Gw.sz {cs cs1:Chs}{k m:Nat}(h:Gw cs cs1 k)(b:∀ c∈cs,NmOk c.1∧c.2.length≤m):∀ c∈cs1,NmOk c.1∧c.2.length≤m+k:=fun c hc=>by
 obtain ⟨i,hi⟩:=List.getElem?_of_mem hc
 have li:i<cs.length:=by rw [← h.len]; exact (List.getElem?_eq_some_iff.mp hi).1
 obtain ⟨c',e',n',_,l'⟩:=h.ge i _ (List.getElem?_eq_getElem li)
 rw [hi] at e'
 cases e'
 have:=b _ (List.getElem_mem li)
 exact ⟨by rw [n']; exact this.1,by omega⟩
structure Spo (cs cs':Chs)(bits:Int):Prop where
 len:cs'.length≤7
 sz:∀ c∈cs',NmOk c.1∧c.2.length≤400
 mn:("main":Str)∈nms cs'
 d0:bits % 2=1→¬ (nms cs').Nodup
 d1:bits % 2≠1→bits / 2 % 2=1→∃ c∈cs',∃ n∈callsOf c.2,n∉nms cs'
 d2:bits % 2≠1→bits / 2 % 2≠1→bits / 4 % 2=1→∃ c1∈cs',∃ c2∈cs',c2.1∈callsOf c1.2∧c1.1∈callsOf c2.2
 d3:bits % 2≠1→bits / 2 % 2≠1→bits / 4 % 2≠1→cs'=cs
def spSpo18:Sp:=fun vs H Q _=>∃ (L sl ld:Addr) (us:List V) (ls:List Addr) (cs:Chs) (ss:List Str) (ds:List Int) (bits:Int),vs=[.ref L,.ref sl,.ref ld,.int bits]∧ChL H L us ls cs∧H sl=some (.lst (ss.map V.str))∧ss.length=2∧(∀ z∈ss,NmOk z∧z∉nms cs)∧H ld=some (.lst (ds.map V.int))∧ds.length=18∧(∀ d∈ds,0≤d)∧sl≠L∧sl∉ls∧ld≠L∧ld∉ls∧2≤cs.length∧cs.length≤5∧(∀ c∈cs,NmOk c.1∧c.2.length≤200)∧("main":Str)∈nms cs ∧
 ∀ us' ls' cs' H',(∀ a o,a≠L→a∉ls→H a=some o→H' a=some o)→ChL H' L us' ls' cs'→Spo cs cs' bits→Q .non H'
theorem ok_spo18 (F:Fun K "_law_spoiled" "_law_spoiled" s__law_spoiled f fd)(g__law_box:Fn P w K mg base "_law_box" 1 ["_law_draw"] spBox18)(g__law_put:Fn P w K mg base "_law_put" 1 ["_law_chains_here","_law_at","_law_where","_law_rule"] spPut18)(b_len:mg "len"=none)(b_range:mg "range"=none):FnOk P w K mg base CX0 2 f fd ["_law_chains_here","_law_strange","_law_draws","_law_bits"] spSpo18:=by
 refine F.ok sc__law_spoiled (fun vs H Q E h=>?_) (fun cdv A outer s H vs Q E hr h=>?_)
 ·obtain ⟨_,_,_,_,_,_,_,_,_,rfl,_⟩:=h
  rfl
 obtain ⟨L,sl,ld,us,ls,cs,ss,ds,bits,rfl,ch,hsl,sl2,sok,hld,dl,dp,nsL,nsl,ndL,ndl,c2,c5,sz,mn,q⟩:=h
 /- what stays -/
 let Fr:Hp→Hp→Prop:=fun H H'=>∀ a o,a≠L→a∉ls→H a=some o→H' a=some o
 have frS:∀ {H1 H2 H3:Hp},Fr H1 H2→Same H2 H3→Fr H1 H3:=fun f s a o n1 n2 e=>s _ _ (f a o n1 n2 e)
 have frP:∀ {H1 H2 H3:Hp} {l:Addr},Fr H1 H2→l∈ls→(∀ b o,b≠l→H2 b=some o→H3 b=some o)→Fr H1 H3:=fun f hl k a o n1 n2 e=>k a o (fun z=>n2 (z▸hl)) (f a o n1 n2 e)
 have dsi:∀ {i:Nat},i<18→∃ d,(ds.map V.int)[i]?=some (.int d):=fun {i} h=>⟨ds[i]'(by omega),by rw [List.getElem?_map,List.getElem?_eq_getElem (by omega)]; rfl⟩
 have idx:∀ d:Int,∃ a:Nat,d % (cs.length:Int)=(a:Int)∧a<cs.length:=fun d=>by
  have h0:=Int.emod_nonneg d (show (cs.length:Int)≠0 by omega)
  have h1:=Int.emod_lt_of_pos d (show (0:Int)<(cs.length:Int) by omega)
  exact ⟨(d % (cs.length:Int)).toNat,by omega,by omega⟩
 obtain ⟨d0,e0⟩:=dsi (i:=0) (by decide)
 obtain ⟨d1,e1⟩:=dsi (i:=1) (by decide)
 obtain ⟨d2,e2⟩:=dsi (i:=2) (by decide)
 obtain ⟨d3,e3⟩:=dsi (i:=3) (by decide)
 obtain ⟨d4,e4⟩:=dsi (i:=4) (by decide)
 obtain ⟨d5,e5⟩:=dsi (i:=5) (by decide)
 obtain ⟨d6,e6⟩:=dsi (i:=6) (by decide)
 obtain ⟨d15,e15⟩:=dsi (i:=15) (by decide)
 obtain ⟨a,ea,al⟩:=idx d0
 obtain ⟨b,eb,bl⟩:=idx d1
 refine ⟨_,(@pss_cons _ _ _ _ _ (@ps_set _ _ (4) _ _ _ _ sc__law_spoiled.nd rfl (Or.inl rfl) (@pe_callB _ _ _ _ _ _ _ _ _ call_lenR rfl b_len bo_len (@pa_cons _ _ _ _ _ (pv 0) pa_nil (by rfl)) (by decide) (by decide) (by rfl) (by rfl)) (by rfl) (by first | exact .inl rfl | exact .inr rfl | assumption)) (@pss_cons _ _ _ _ _ (@ps_set _ _ (5) _ _ _ _ sc__law_spoiled.nd rfl (Or.inl rfl) (@pe_op _ _ _ _ _ _ _ _ op_mod (@pe_ix _ _ _ _ _ _ _ ix_list (pv 2) pe_int (fun _ _=>rfl)) (pv 4)) (by rfl) (by first | exact .inl rfl | exact .inr rfl | assumption)) (@pss_cons _ _ _ _ _ (@ps_set _ _ (6) _ _ _ _ sc__law_spoiled.nd rfl (Or.inl rfl) (@pe_op _ _ _ _ _ _ _ _ op_mod (@pe_ix _ _ _ _ _ _ _ ix_list (pv 2) pe_int (fun _ _=>rfl)) (pv 4)) (by rfl) (by first | exact .inl rfl | exact .inr rfl | assumption)) (@pss_cons _ _ _ _ _ (@ps_if _ _ _ _ _ _ _ _ (@pt_cmpR _ _ _ _ _ _ _ _ op_eq (@pe_op _ _ _ _ _ _ _ _ op_mod (@pe_op _ _ _ _ _ _ _ _ op_divW (pv 3) pe_int) pe_int) pe_int (nomark _)) (@pss_cons _ _ _ _ _ (@ps_expr _ _ _ _ (@pe_fn _ _ _ _ _ _ _ _ _ _ _ g__law_put hr (by decide) rfl (@pa_cons _ _ _ _ _ (pv 0) (@pa_cons _ _ _ _ _ (pv 5) (@pa_cons _ _ _ _ _ (@pe_ix _ _ _ _ _ _ _ ix_list (pv 2) pe_int (fun _ _=>rfl)) (@pa_cons _ _ _ _ _ (@pe_tup _ _ _ _ _ (@pa_cons _ _ _ _ _ pe_str (@pa_cons _ _ _ _ _ (@pe_fn _ _ _ _ _ _ _ _ _ _ _ g__law_box hr (by decide) rfl (@pa_cons _ _ _ _ _ (@pe_ix _ _ _ _ _ _ _ ix_list (pv 2) pe_int (fun _ _=>rfl)) pa_nil (by rfl)) (by decide) (by rfl) (by rfl)) (@pa_cons _ _ _ _ _ (@pe_ix _ _ _ _ _ _ _ ix_tup (@pe_ix _ _ _ _ _ _ _ ix_list (pv 0) (pv 6) (fun _ _=>rfl)) pe_int (fun _ _=>rfl)) pa_nil (by rfl)) (by rfl)) (by rfl))) pa_nil (by rfl)) (by rfl)) (by rfl)) (by rfl)) (by decide) (by rfl) (by rfl)) (by rfl)) (@pss_one _ _ _ (@ps_expr _ _ _ _ (@pe_fn _ _ _ _ _ _ _ _ _ _ _ g__law_put hr (by decide) rfl (@pa_cons _ _ _ _ _ (pv 0) (@pa_cons _ _ _ _ _ (pv 6) (@pa_cons _ _ _ _ _ (@pe_ix _ _ _ _ _ _ _ ix_list (pv 2) pe_int (fun _ _=>rfl)) (@pa_cons _ _ _ _ _ (@pe_tup _ _ _ _ _ (@pa_cons _ _ _ _ _ pe_str (@pa_cons _ _ _ _ _ (@pe_fn _ _ _ _ _ _ _ _ _ _ _ g__law_box hr (by decide) rfl (@pa_cons _ _ _ _ _ (@pe_ix _ _ _ _ _ _ _ ix_list (pv 2) pe_int (fun _ _=>rfl)) pa_nil (by rfl)) (by decide) (by rfl) (by rfl)) (@pa_cons _ _ _ _ _ (@pe_ix _ _ _ _ _ _ _ ix_tup (@pe_ix _ _ _ _ _ _ _ ix_list (pv 0) (pv 5) (fun _ _=>rfl)) pe_int (fun _ _=>rfl)) pa_nil (by rfl)) (by rfl)) (by rfl))) pa_nil (by rfl)) (by rfl)) (by rfl)) (by rfl)) (by decide) (by rfl) (by rfl)) (by rfl)))) pss_nil) (@pss_cons _ _ _ _ _ (@ps_if _ _ _ _ _ _ _ _ (@pt_cmpR _ _ _ _ _ _ _ _ op_eq (@pe_op _ _ _ _ _ _ _ _ op_mod (@pe_op _ _ _ _ _ _ _ _ op_divW (pv 3) pe_int) pe_int) pe_int (nomark _)) (@pss_one _ _ _ (@ps_for _ _ _ _ _ _ _ _ PassesOwn.never rfl (@pi_range1 _ _ _ _ _ _ rfl b_range (@pa_cons _ _ _ _ _ (@pe_op _ _ _ _ _ _ _ _ op_add pe_int (@pe_op _ _ _ _ _ _ _ _ op_mod (@pe_ix _ _ _ _ _ _ _ ix_list (pv 2) pe_int (fun _ _=>rfl)) pe_int)) pa_nil (by rfl)) (by rfl)) (@pg_name _ _ (7) _ sc__law_spoiled.nd rfl (Or.inl rfl) (by first | exact .inl rfl | exact .inr rfl | assumption)) (@pss_one _ _ _ (@ps_expr _ _ _ _ (@pe_fn _ _ _ _ _ _ _ _ _ _ _ g__law_put hr (by decide) rfl (@pa_cons _ _ _ _ _ (pv 0) (@pa_cons _ _ _ _ _ (@pe_op _ _ _ _ _ _ _ _ op_mod (@pe_ix _ _ _ _ _ _ _ ix_list (pv 2) (@pe_op _ _ _ _ _ _ _ _ op_add pe_int (pv 7)) (fun _ _=>rfl)) (pv 4)) (@pa_cons _ _ _ _ _ (@pe_ix _ _ _ _ _ _ _ ix_list (pv 2) (@pe_op _ _ _ _ _ _ _ _ op_add pe_int (pv 7)) (fun _ _=>rfl)) (@pa_cons _ _ _ _ _ (@pe_tup _ _ _ _ _ (@pa_cons _ _ _ _ _ pe_str (@pa_cons _ _ _ _ _ (@pe_fn _ _ _ _ _ _ _ _ _ _ _ g__law_box hr (by decide) rfl (@pa_cons _ _ _ _ _ (@pe_ix _ _ _ _ _ _ _ ix_list (pv 2) (@pe_op _ _ _ _ _ _ _ _ op_add pe_int (pv 7)) (fun _ _=>rfl)) pa_nil (by rfl)) (by decide) (by rfl) (by rfl)) (@pa_cons _ _ _ _ _ (@pe_ix _ _ _ _ _ _ _ ix_list (pv 1) (pv 7) (fun _ _=>rfl)) pa_nil (by rfl)) (by rfl)) (by rfl))) pa_nil (by rfl)) (by rfl)) (by rfl)) (by rfl)) (by decide) (by rfl) (by rfl)) (by rfl))) (by intro _; rfl))) pss_nil) (@pss_one _ _ _ (@ps_if _ _ _ _ _ _ _ _ (@pt_cmpR _ _ _ _ _ _ _ _ op_eq (@pe_op _ _ _ _ _ _ _ _ op_mod (pv 3) pe_int) pe_int (nomark _)) (@pss_one _ _ _ (@ps_for _ _ _ _ _ _ _ _ PassesOwn.never rfl (@pi_range1 _ _ _ _ _ _ rfl b_range (@pa_cons _ _ _ _ _ (@pe_op _ _ _ _ _ _ _ _ op_add pe_int (@pe_op _ _ _ _ _ _ _ _ op_mod (@pe_ix _ _ _ _ _ _ _ ix_list (pv 2) pe_int (fun _ _=>rfl)) pe_int)) pa_nil (by rfl)) (by rfl)) (@pg_name _ _ (7) _ sc__law_spoiled.nd rfl (Or.inl rfl) (by first | exact .inl rfl | exact .inr rfl | assumption)) (@pss_cons _ _ _ _ _ (@ps_set _ _ (8) _ _ _ _ sc__law_spoiled.nd rfl (Or.inl rfl) (@pe_ix _ _ _ _ _ _ _ ix_tup (@pe_ix _ _ _ _ _ _ _ ix_list (pv 0) (@pe_op _ _ _ _ _ _ _ _ op_mod (@pe_ix _ _ _ _ _ _ _ ix_list (pv 2) (@pe_op _ _ _ _ _ _ _ _ op_add pe_int (@pe_op _ _ _ _ _ _ _ _ op_mul pe_int (pv 7))) (fun _ _=>rfl)) (pv 4)) (fun _ _=>rfl)) pe_int (fun _ _=>rfl)) (by rfl) (by first | exact .inl rfl | exact .inr rfl | assumption)) (@pss_one _ _ _ (@ps_expr _ _ _ _ (@pe_bm _ _ _ _ _ _ _ _ _ _ _ _ PySem.F.plainAttrs_list PySem.F.slot_list_insert PySem.F.type_list_insert mt_insert (pv 0) (@pa_cons _ _ _ _ _ (@pe_op _ _ _ _ _ _ _ _ op_add pe_int (@pe_op _ _ _ _ _ _ _ _ op_mod (@pe_ix _ _ _ _ _ _ _ ix_list (pv 2) (@pe_op _ _ _ _ _ _ _ _ op_add pe_int (@pe_op _ _ _ _ _ _ _ _ op_mul pe_int (pv 7))) (fun _ _=>rfl)) (pv 4))) (@pa_cons _ _ _ _ _ (@pe_tup _ _ _ _ _ (@pa_cons _ _ _ _ _ (pv 8) (@pa_cons _ _ _ _ _ (@pe_lst _ _ _ _ (@pa_cons _ _ _ _ _ (@pe_tup _ _ _ _ _ (@pa_cons _ _ _ _ _ pe_str (@pa_cons _ _ _ _ _ (@pe_fn _ _ _ _ _ _ _ _ _ _ _ g__law_box hr (by decide) rfl (@pa_cons _ _ _ _ _ (@pe_ix _ _ _ _ _ _ _ ix_list (pv 2) pe_int (fun _ _=>rfl)) pa_nil (by rfl)) (by decide) (by rfl) (by rfl)) pa_nil (by rfl)) (by rfl))) pa_nil (by rfl))) pa_nil (by rfl)) (by rfl))) pa_nil (by rfl)) (by rfl)) (by rfl) (by rfl) (by rfl) (by rfl) (by rfl)) (by rfl)))) (by intro _; rfl))) pss_nil))))))),?_⟩
 rw [st__law_spoiled]
 refine seq_hid fun N go=>?_
 walk_at "sv"
 refine LenR.lst (SqL.of ch.lst) ?_
 rw [ch.vl]
 refine go _ _ ?_
 clear go
 refine seq_hid fun N go=>?_
 walk_at "sv"
 refine ixL_go (i:=0) (SqL.of hld) e0 ?_
 walk_at "sv"
 refine ⟨by omega,?_⟩
 rw [ea]
 refine go _ _ ?_
 clear go
 refine seq_hid fun N go=>?_
 walk_at "sv"
 refine ixL_go (i:=1) (SqL.of hld) e1 ?_
 walk_at "sv"
 refine ⟨by omega,?_⟩
 rw [eb]
 refine go _ _ ?_
 clear go
 /- calls that come round -/
 refine seq_hid fun N go=>?_
 suffices rest:∀ (cs1:Chs) (H1:Hp),Fr H H1→ChL H1 L us ls cs1→Gw cs cs1 2→(bits / 4 % 2=1→∃ (i j:Nat) (c1 c2:Str×List Ru),cs1[i]?=some c1∧cs1[j]?=some c2∧c2.1∈callsOf c1.2∧c1.1∈callsOf c2.2)→(bits / 4 % 2≠1→cs1=cs)→N [some (.ref L),some (.ref sl),some (.ref ld),some (.int bits),some (.int (cs.length:Int)),some (.int (a:Int)),some (.int (b:Int)),none,none] H1 by
  walk_at "sv"
  refine ⟨⟨by decide,by decide⟩,by decide,?_⟩
  refine BrS.dec (fun c4=>?_) fun c4=>?_
  rotate_left
  ·walk_at "sv"
   exact rest cs H (fun a o _ _ e=>e) ch ((Gw.refl cs).up (by decide)) (fun e=>absurd e c4) fun _=>rfl
  obtain ⟨ca,eca⟩:∃ c,cs[a]?=some c:=⟨cs[a],List.getElem?_eq_getElem al⟩
  obtain ⟨cb,ecb⟩:∃ c,cs[b]?=some c:=⟨cs[b],List.getElem?_eq_getElem bl⟩
  have na:=(sz ca (List.mem_of_getElem? eca)).1
  have nb:=(sz cb (List.mem_of_getElem? ecb)).1
  refine seq_hid fun N2 go2=>?_
  walk_at "sv"
  refine ixL_go (i:=2) (SqL.of hld) e2 ?_
  walk_at "sv"
  refine ixL_go (i:=3) (SqL.of hld) e3 ?_
  refine ⟨d3,rfl,fun p H1 s1=>?_⟩
  have ch1:=ch.same s1
  obtain ⟨lb,tb,tsb,elb,evb,htb,hlb,alb⟩:=ch1.get ecb
  walk_at "sv"
  refine ixL_go (SqL.of ch1.lst) evb ?_
  walk_at "sv"
  refine ixT_go (i:=0) (SqT.of htb) rfl ?_
  refine TupR.go (by simp) fun t nt=>?_
  have s2:=same_new nt (.tup [.str "call",.ref p,.str cb.1])
  have ht:upd H1 t (.tup [.str "call",.ref p,.str cb.1]) t=some (.tup [.str "call",.ref p,.str cb.1]):=upd_same
  generalize upd H1 t (.tup [.str "call",.ref p,.str cb.1])=H2 at *
  refine ⟨L,a,_,.ref t,us,ls,cs,ca,(.call cb.1,p),rfl,ch1.same s2,eca,by have:=(sz ca (List.mem_of_getElem? eca)).2; omega,⟨t,rfl,ht,by have:=nb.2; omega,nb.1⟩,fun pp l H3 pl el kp ch3=>?_⟩
  refine go2 _ _ ?_
  clear go2
  have f3:Fr H H3:=frP (frS (frS (fun a o _ _ e=>e) s1) s2) (List.mem_of_getElem? el) kp
  have g3:Gw cs (cs.set a (ca.1,insR ca.2 pp (.call cb.1,p))) 1:=Gw.put eca
  have hld3:=f3 _ _ ndL ndl hld
  obtain ⟨cb3,ecb3,nb3,_,lb3⟩:=g3.ge b cb ecb
  obtain ⟨ca3,eca3,na3,_,_⟩:=g3.ge a ca eca
  walk_at "sv"
  refine ixL_go (i:=4) (SqL.of hld3) e4 ?_
  walk_at "sv"
  refine ixL_go (i:=5) (SqL.of hld3) e5 ?_
  refine ⟨d5,rfl,fun p4 H4 s4=>?_⟩
  have ch4:=ch3.same s4
  obtain ⟨la,ta,tsa,ela,eva,hta,hla,ala⟩:=ch4.get eca3
  walk_at "sv"
  refine ixL_go (SqL.of ch4.lst) eva ?_
  walk_at "sv"
  refine ixT_go (i:=0) (SqT.of hta) rfl ?_
  refine TupR.go (by simp) fun t5 nt5=>?_
  have s5:=same_new nt5 (.tup [.str "call",.ref p4,.str ca3.1])
  have ht5:upd H4 t5 (.tup [.str "call",.ref p4,.str ca3.1]) t5=some (.tup [.str "call",.ref p4,.str ca3.1]):=upd_same
  generalize upd H4 t5 (.tup [.str "call",.ref p4,.str ca3.1])=H5 at *
  refine ⟨L,b,_,.ref t5,us,ls,_,cb3,(.call ca3.1,p4),rfl,ch4.same s5,ecb3,by have:=(sz cb (List.mem_of_getElem? ecb)).2; omega,⟨t5,rfl,ht5,by rw [na3]; have:=na.2; omega,by rw [na3]; exact na.1⟩,fun pp6 l6 H6 pl6 el6 kp6 ch6=>?_⟩
  have g6:=Gw.put (p:=pp6) (u:=(.call ca3.1,p4)) ecb3
  refine rest _ H6 (frP (frS (frS f3 s4) s5) (List.mem_of_getElem? el6) kp6) ch6 (g3.trans g6) (fun _=>?_) fun e=>absurd c4 e
  obtain ⟨c1,ec1,n1,sub1,_⟩:=g6.ge a ca3 eca3
  refine ⟨a,b,c1,_,ec1,List.getElem?_set_self (List.getElem?_eq_some_iff.mp ecb3).1,?_,?_⟩
  ·refine sub1 _ ?_
   rw [List.getElem?_set_self al] at eca3
   cases eca3
   show cb3.1∈_
   rw [nb3]
   exact (callsOf_ins _ _ _ _).mpr (.inr rfl)
  ·rw [n1]
   exact (callsOf_ins _ _ _ _).mpr (.inr rfl)
 intro cs1 H1 f1 ch1 g1 r2 r3
 refine go _ _ ?_
 clear go
 /- names that lack -/
 refine seq_hid fun N go=>?_
 suffices rest:∀ (cs2:Chs) (H2:Hp) (y:Option V),Fr H H2→ChL H2 L us ls cs2→Gw cs1 cs2 2→(bits / 2 % 2=1→∃ (i:Nat) (c:Str×List Ru) (n:Str),cs2[i]?=some c∧n∈callsOf c.2∧n∉nms cs)→(bits / 2 % 2≠1→cs2=cs1)→N [some (.ref L),some (.ref sl),some (.ref ld),some (.int bits),some (.int (cs.length:Int)),some (.int (a:Int)),some (.int (b:Int)),y,none] H2 by
  walk_at "sv"
  refine ⟨⟨by decide,by decide⟩,by decide,?_⟩
  refine BrS.dec (fun c4=>?_) fun c4=>?_
  rotate_left
  ·walk_at "sv"
   exact rest cs1 H1 _ f1 ch1 ((Gw.refl cs1).up (by decide)) (fun e=>absurd e c4) fun _=>rfl
  walk_at "sv"
  refine ixL_go (i:=6) (SqL.of (f1 _ _ ndL ndl hld)) e6 ?_
  walk_at "sv"
  refine ⟨by decide,?_⟩
  obtain ⟨k,ek,k1,k2⟩:∃ k:Nat,1+d6 % 2=(k:Int)∧1≤k∧k≤2:=⟨(1+d6 % 2).toNat,by omega,by omega,by omega⟩
  rw [ek]
  refine RngR.go (by omega) (by omega) ?_
  rw [Int.toNat_natCast]
  refine ForR.range (n:=k) (fun i σ H'=>∃ (cs2:Chs) (y:Option V),Fr H H'∧ChL H' L us ls cs2∧Gw cs1 cs2 i∧(1≤i→∃ (i:Nat) (c:Str×List Ru) (n:Str),cs2[i]?=some c∧n∈callsOf c.2∧n∉nms cs)∧σ=[some (.ref L),some (.ref sl),some (.ref ld),some (.int bits),some (.int (cs.length:Int)),some (.int (a:Int)),some (.int (b:Int)),y,none]) ⟨cs1,_,f1,ch1,Gw.refl cs1,fun e=>absurd e (by decide),rfl⟩ (fun i σ H2 hi pv=>?_) (fun σ H2 pv=>?_)
  rotate_left
  ·obtain ⟨cs2,y,f2,ch2,g2,lk,rfl⟩:=pv
   walk_at "sv"
   exact rest cs2 H2 _ f2 ch2 (g2.up k2) (fun _=>lk k1) fun e=>absurd c4 e
  obtain ⟨cs2,y,f2,ch2,g2,lk,rfl⟩:=pv
  have hld2:=f2 _ _ ndL ndl hld
  have hsl2:=f2 _ _ nsL nsl hsl
  obtain ⟨d7,e7⟩:=dsi (i:=7+i) (by omega)
  obtain ⟨d9,e9⟩:=dsi (i:=9+i) (by omega)
  obtain ⟨d11,e11⟩:=dsi (i:=11+i) (by omega)
  obtain ⟨m,em,ml⟩:=idx d7
  have cl2:cs2.length=cs.length:=g2.len.trans g1.len
  obtain ⟨cm,ecm⟩:∃ c,cs2[m]?=some c:=⟨cs2[m]'(by omega),List.getElem?_eq_getElem _⟩
  obtain ⟨z,ez⟩:∃ z,ss[i]?=some z:=⟨ss[i]'(by omega),List.getElem?_eq_getElem _⟩
  obtain ⟨zk,zn⟩:=sok z (List.mem_of_getElem? ez)
  have szm:=(g2.sz (g1.sz sz)) cm (List.mem_of_getElem? ecm)
  rw [Int.zero_add]
  walk_at "sv"
  rw [show (7:Int)+(i:Int)=((7+i:Nat):Int) by omega]
  refine ixL_go (SqL.of hld2) e7 ?_
  walk_at "sv"
  refine ⟨by omega,?_⟩
  rw [em,show (9:Int)+(i:Int)=((9+i:Nat):Int) by omega]
  refine ixL_go (SqL.of hld2) e9 ?_
  walk_at "sv"
  rw [show (11:Int)+(i:Int)=((11+i:Nat):Int) by omega]
  refine ixL_go (SqL.of hld2) e11 ?_
  refine ⟨d11,rfl,fun p H3 s3=>?_⟩
  walk_at "sv"
  refine ixL_go (SqL.of (s3 _ _ hsl2)) (v:=.str z) (by rw [List.getElem?_map,ez]; rfl) ?_
  refine TupR.go (by simp) fun t nt=>?_
  have s4:=same_new nt (.tup [.str "call",.ref p,.str z])
  have ht:upd H3 t (.tup [.str "call",.ref p,.str z]) t=some (.tup [.str "call",.ref p,.str z]):=upd_same
  generalize upd H3 t (.tup [.str "call",.ref p,.str z])=H4 at *
  refine ⟨L,m,_,.ref t,us,ls,cs2,cm,(.call z,p),rfl,(ch2.same s3).same s4,ecm,by omega,⟨t,rfl,ht,by have:=zk.2; omega,zk.1⟩,fun pp l H5 pl el kp ch5=>?_⟩
  refine ⟨_,_,frP (frS (frS f2 s3) s4) (List.mem_of_getElem? el) kp,ch5,g2.trans (Gw.put ecm),fun _=>⟨m,_,z,List.getElem?_set_self (List.getElem?_eq_some_iff.mp ecm).1,(callsOf_ins _ _ _ _).mpr (.inr rfl),zn⟩,rfl⟩
 intro cs2 H2 y2 f2 ch2 g2 r4 r5
 refine go _ _ ?_
 clear go
 have g02:=g1.trans g2
 have cl2:cs2.length=cs.length:=g02.len
 have sz2:=g02.sz sz
 have fin:bits % 2≠1→Spo cs cs2 bits:=fun n0=>⟨by omega,fun c hc=>⟨(sz2 c hc).1,by have:=(sz2 c hc).2; omega⟩,by rw [g02.nms]; exact mn,fun e=>absurd e n0,fun _ e=>?_,fun _ e1 e4=>?_,fun _ e1 e4=>(r5 e1).trans (r3 e4)⟩
 rotate_left
 ·obtain ⟨i,c,n,ec,hn,nn⟩:=r4 e
  exact ⟨c,List.mem_of_getElem? ec,n,hn,by rw [g02.nms]; exact nn⟩
 ·obtain ⟨i,j,c1,c2,ec1,ec2,h1,h2⟩:=r2 e4
  rw [← r5 e1] at ec1 ec2
  exact ⟨c1,List.mem_of_getElem? ec1,c2,List.mem_of_getElem? ec2,h1,h2⟩
 walk_at "sv"
 refine ⟨by decide,?_⟩
 refine BrS.dec (fun c4=>?_) fun c4=>?_
 rotate_left
 ·walk_at "sv"
  exact q us ls cs2 H2 f2 ch2 (fin c4)
 walk_at "sv"
 refine ixL_go (i:=15) (SqL.of (f2 _ _ ndL ndl hld)) e15 ?_
 walk_at "sv"
 refine ⟨by decide,?_⟩
 obtain ⟨k,ek,k1,k2⟩:∃ k:Nat,1+d15 % 2=(k:Int)∧1≤k∧k≤2:=⟨(1+d15 % 2).toNat,by omega,by omega,by omega⟩
 rw [ek]
 refine RngR.go (by omega) (by omega) ?_
 rw [Int.toNat_natCast]
 refine ForR.range (n:=k) (fun i σ H'=>∃ (us':List V) (ls':List Addr) (cs':Chs) (y1 y2:Option V),Fr H H'∧ChL H' L us' ls' cs'∧cs'.length=cs.length+i∧(∀ c∈cs',NmOk c.1∧c.2.length≤204)∧("main":Str)∈nms cs'∧(1≤i→¬ (nms cs').Nodup)∧σ=[some (.ref L),some (.ref sl),some (.ref ld),some (.int bits),some (.int (cs.length:Int)),some (.int (a:Int)),some (.int (b:Int)),y1,y2]) ⟨us,ls,cs2,_,_,f2,ch2,cl2,sz2,by rw [g02.nms]; exact mn,fun e=>absurd e (by decide),rfl⟩ (fun i σ H3 hi pv=>?_) (fun σ H3 pv=>?_)
 rotate_left
 ·obtain ⟨us',ls',cs',y1,y2,f3,ch3,l3,sz3,mn3,dup,rfl⟩:=pv
  walk_at "sv"
  exact q us' ls' cs' H3 f3 ch3 ⟨by omega,fun c hc=>⟨(sz3 c hc).1,by have:=(sz3 c hc).2; omega⟩,mn3,fun _=>dup k1,fun e=>absurd c4 e,fun e=>absurd c4 e,fun e=>absurd c4 e⟩
 obtain ⟨us',ls',cs',y1,y2,f3,ch3,l3,sz3,mn3,dup,rfl⟩:=pv
 have hld3:=f3 _ _ ndL ndl hld
 obtain ⟨d13,e13⟩:=dsi (i:=13+3 * i) (by omega)
 obtain ⟨d14,e14⟩:=dsi (i:=14+3 * i) (by omega)
 obtain ⟨m,em,ml⟩:=idx d13
 obtain ⟨m2,em2,ml2⟩:=idx d14
 obtain ⟨cm,ecm⟩:∃ c,cs'[m]?=some c:=⟨cs'[m]'(by omega),List.getElem?_eq_getElem _⟩
 obtain ⟨l0,t0,ts0,_,ev0,ht0,_⟩:=ch3.get ecm
 have cmk:=sz3 cm (List.mem_of_getElem? ecm)
 rw [Int.zero_add]
 refine seq_hid fun N go=>?_
 walk_at "sv"
 refine ⟨.inl ⟨by decide,by decide⟩,?_⟩
 rw [show (13:Int)+3 * (i:Int)=((13+3 * i:Nat):Int) by omega]
 refine ixL_go (SqL.of hld3) e13 ?_
 walk_at "sv"
 refine ⟨by omega,?_⟩
 rw [em]
 refine ixL_go (SqL.of ch3.lst) ev0 ?_
 walk_at "sv"
 refine ixT_go (i:=0) (SqT.of ht0) rfl ?_
 refine go _ _ ?_
 clear go
 walk_at "sv"
 refine ⟨ty_lst ch3.lst,?_⟩
 refine ⟨.inl ⟨by decide,by decide⟩,?_⟩
 rw [show (14:Int)+3 * (i:Int)=((14+3 * i:Nat):Int) by omega]
 refine ixL_go (SqL.of hld3) e14 ?_
 walk_at "sv"
 refine ⟨by omega,?_⟩
 rw [em2,show (1:Int)+(m2:Int)=((1+m2:Nat):Int) by omega]
 refine ixL_go (i:=15) (SqL.of hld3) e15 ?_
 refine ⟨d15,rfl,fun p H4 s4=>?_⟩
 refine TupR.go (by simp) fun t nt=>?_
 have s5:=same_new nt (.tup [.str "stop",.ref p])
 have ht:upd H4 t (.tup [.str "stop",.ref p]) t=some (.tup [.str "stop",.ref p]):=upd_same
 generalize upd H4 t (.tup [.str "stop",.ref p])=H5 at *
 refine LstR.go (by simp) fun l6 nl6=>?_
 have s6:=same_new nl6 (.lst [.ref t])
 have hl6:upd H5 l6 (.lst [.ref t]) l6=some (.lst [.ref t]):=upd_same
 have ch5:=(ch3.same s4).same s5
 have nl6s:l6∉ls':=fun hm=>by
  obtain ⟨j,hj⟩:=List.getElem?_of_mem hm
  have lj:j<cs'.length:=by rw [← ch5.ll]; exact (List.getElem?_eq_some_iff.mp hj).1
  obtain ⟨_,_,_,_,hh,_⟩:=ch5.aj j _ l6 (List.getElem?_eq_getElem lj) hj
  rw [nl6] at hh
  cases hh
 have nl6L:l6≠L:=fun e=>by
  rw [e,ch5.lst] at nl6
  cases nl6
 generalize upd H5 l6 (.lst [.ref t])=H6 at *
 refine TupR.go (by simp) fun t7 nt7=>?_
 have s7:=same_new nt7 (.tup [.str cm.1,.ref l6])
 have ht7:upd H6 t7 (.tup [.str cm.1,.ref l6]) t7=some (.tup [.str cm.1,.ref l6]):=upd_same
 generalize upd H6 t7 (.tup [.str cm.1,.ref l6])=H7 at *
 have ch7:=(ch5.same s6).same s7
 have ul:=ch7.vl
 have s37:=s4.trans (s5.trans (s6.trans s7))
 have hp:1+m2≤cs'.length:=by omega
 refine ⟨L,us',1+m2,.ref t7,rfl,rfl,ch7.lst,by omega,by omega,?_⟩
 have chF:=ch7.ins (p:=1+m2) (c:=(cm.1,[(.word "stop",p)])) hp ht7 (s7 _ _ hl6) (.cons ⟨t,rfl,(s6.trans s7) _ _ ht,by decide,by decide,by decide,by decide +kernel⟩ .nil) nl6s nl6L
 have pmN:(nms (insC cs' (1+m2) (cm.1,[(.word "stop",p)]))).Perm (cm.1::nms cs'):=by
  unfold nms insC
  rw [List.map_append,List.map_cons]
  have:=List.perm_middle (a:=cm.1) (l₁:=(cs'.take (1+m2)).map (·.1)) (l₂:=(cs'.drop (1+m2)).map (·.1))
  rwa [← List.map_append,List.take_append_drop] at this
 refine ⟨_,_,_,_,_,fun x o n1 n2 e=>(upd_ne n1).trans (s37 _ _ (f3 x o n1 n2 e)),chF,?_,fun c hc=>?_,pmN.mem_iff.mpr (List.mem_cons_of_mem _ mn3),fun _ nd=>?_,rfl⟩
 ·unfold insC
  simp only [List.length_append,List.length_cons,List.length_take,List.length_drop]
  omega
 ·unfold insC at hc
  rcases List.mem_append.mp hc with hc | hc
  ·exact sz3 c (List.mem_of_mem_take hc)
  ·rcases List.mem_cons.mp hc with rfl | hc
   ·exact ⟨cmk.1,(show 1≤204 by decide)⟩
   ·exact sz3 c (List.mem_of_mem_drop hc)
 ·have:=pmN.nodup_iff.mp nd
  rw [List.nodup_cons] at this
  exact this.1 (List.mem_map.mpr ⟨cm,List.mem_of_getElem? ecm,rfl⟩)
--CUT--
theorem filt_two {α:Type}(p:α→Bool):∀ l:List α,(l.filter p).length+(l.filter fun x=>!p x).length=l.length
 | []=>rfl
 | x::l=>by
  have ih:=filt_two p l
  rw [List.filter_cons,List.filter_cons,List.length_cons]
  cases p x <;> simp <;> omega
def lits:List Str:=["z","y","x","w","v","mains","mai"]
theorem lits_ok:lits.Nodup∧∀ z∈lits,PyData.strOk z=true∧z.length≤40:=by decide +kernel
theorem lack_two {zs:List Str}(h:zs.length≤5):2≤(lits.filter fun z=>!decide (z∈zs)).length:=by
 have a:=filt_two (fun z=>decide (z∈zs)) lits
 have b:=List.Nodup.length_le_of_subset (lits_ok.1.sublist (List.filter_sublist (p:=fun z=>decide (z∈zs)))) (l₂:=zs) fun z hz=>of_decide_eq_true (List.mem_filter.mp hz).2
 have c:lits.length=7:=rfl
 omega
structure Fil (cs cs':Chs)(k:Nat):Prop where
 nms:nms cs'=K18.nms cs
 aj:∀ (i:Nat) (c':Str×List Ru),cs'[i]?=some c'→∃ c,cs[i]?=some c∧c'.1=c.1∧callsOf c'.2=callsOf c.2∧c'.2.length=c.2.length+if i=0 then k else 0
theorem Fil.len {cs cs':Chs}{k:Nat}(h:Fil cs cs' k):cs'.length=cs.length:=by
 have:=congrArg List.length h.nms
 unfold K18.nms at this
 rwa [List.length_map,List.length_map] at this
theorem callsOf_stop (us:List Ru)(q:Nat)(p:Addr):callsOf (insR us q (.word "stop",p))=callsOf us:=by
 have e:callsOf us=callsOf (us.take q)++callsOf (us.drop q):=by
  unfold callsOf
  rw [← List.filterMap_append,List.take_append_drop]
 rw [e]
 unfold insR callsOf
 rw [List.filterMap_append,List.filterMap_cons_none rfl]
theorem Fil.put {cs cs':Chs}{k q:Nat}{c':Str×List Ru}{p:Addr}(h:Fil cs cs' k)(e:cs'[0]?=some c'):Fil cs (cs'.set 0 (c'.1,insR c'.2 q (.word "stop",p))) (k+1):=⟨(nms_set e).trans h.nms,fun i c1 e1=>by
 by_cases z:0=i
 ·subst z
  rw [List.getElem?_set_self (List.getElem?_eq_some_iff.mp e).1] at e1
  cases e1
  obtain ⟨c,ec,n1,s1,l1⟩:=h.aj 0 c' e
  refine ⟨c,ec,n1,?_,?_⟩
  ·rw [callsOf_stop]
   exact s1
  ·rw [insR_len,l1,if_pos rfl,if_pos rfl]
   omega
 ·rw [List.getElem?_set_ne z] at e1
  obtain ⟨c,ec,n1,s1,l1⟩:=h.aj i c1 e1
  exact ⟨c,ec,n1,s1,by rw [l1,if_neg fun e=>z e.symm,if_neg fun e=>z e.symm]⟩⟩
theorem fil_len {cs cs':Chs}{k m:Nat}{ts:Tots}(bs:Bs cs m)(ti:TInv cs ts)(full:∀ c∈cs,c.1∈ts.map (·.1))(fi:Fil cs cs' k):Closed cs'∧good cs'∧valT (tsOf cs') "main"=valT ts "main"+k:=by
 have n1:(K18.nms cs').Nodup:=by rw [fi.nms]; exact bs.nd
 have rd:readyOf cs (ts.map (·.1))=[]:=rounds_done ti.nd ti.sub (.inr (by
  have:=List.Nodup.length_le_of_subset bs.nd (l₂:=ts.map (·.1)) fun z hz=>by
   obtain ⟨c,hc,rfl⟩:=List.mem_map.mp hz
   exact full c hc
  rwa [List.length_map] at this))
 have lg:=ti.lenG bs.nd rd
 have main0:∀ (i:Nat) (c:Str×List Ru),cs[i]?=some c→(c.1="main"↔i=0):=fun i c e=>by
  have e1:(cs.map (·.1))[i]?=some c.1:=by rw [List.getElem?_map,e]; rfl
  constructor
  ·intro h
   rw [h] at e1
   have li:=(List.getElem?_eq_some_iff.mp e1).1
   exact (List.getElem?_inj li bs.nd).mp (e1.trans bs.main.symm)
  ·intro h
   rw [h,bs.main] at e1
   exact (Option.some.inj e1).symm
 have cl:Closed cs':=fun c' hc' n hn=>by
  obtain ⟨i,hi⟩:=List.getElem?_of_mem hc'
  obtain ⟨c,ec,_,s1,_⟩:=fi.aj i c' hi
  rw [s1] at hn
  obtain ⟨j,_,ej⟩:=bs.dn i c ec n hn
  have:n∈K18.nms cs:=List.mem_of_getElem? ej
  rw [← fi.nms] at this
  exact this
 have lg':LenG cs' (GT ts) (fun z=>valT ts z+if z="main" then (k:Int) else 0) (rkT ts):=by
  refine ⟨fun c' hc' _=>?_,fun c' hc' g n hn=>?_⟩
  ·obtain ⟨i,hi⟩:=List.getElem?_of_mem hc'
   obtain ⟨c,ec,e1,s1,l1⟩:=fi.aj i c' hi
   have hc:=List.mem_of_getElem? ec
   have gc:GT ts c.1=true:=decide_eq_true (full c hc)
   refine ⟨by rw [e1]; exact gc,?_⟩
   have ev:=(lg.up c hc fun n hn=>(lg.dn c hc gc n hn).1).2
   have em:(callsOf c'.2).map (fun z=>valT ts z+if z="main" then (k:Int) else 0)=(callsOf c.2).map (valT ts):=by
    rw [s1]
    refine List.map_congr_left fun n hn=>?_
    obtain ⟨j,lt,ej⟩:=bs.dn i c ec n hn
    rw [List.getElem?_map] at ej
    obtain ⟨c2,ec2,e2⟩:=Option.map_eq_some_iff.mp ej
    have ne:n≠"main":=fun z=>by
     have:=(main0 j c2 ec2).mp (e2.trans z)
     omega
    rw [if_neg ne,Int.add_zero]
   rw [em,e1,ev,l1]
   by_cases z:i=0
   ·rw [if_pos ((main0 i c ec).mpr z),if_pos z]
    omega
   ·rw [if_neg fun h=>z ((main0 i c ec).mp h),if_neg z]
    omega
  ·obtain ⟨i,hi⟩:=List.getElem?_of_mem hc'
   obtain ⟨c,ec,e1,s1,l1⟩:=fi.aj i c' hi
   rw [s1] at hn
   rw [e1] at g ⊢
   exact lg.dn c (List.mem_of_getElem? ec) g n hn
 obtain ⟨ti',rd'⟩:=tsOf_is cs'
 have lg2:=ti'.lenG n1 rd'
 have un:∀ c'∈cs',GT (tsOf cs') c'.1=true∧valT ts c'.1+(if c'.1="main" then (k:Int) else 0)=valT (tsOf cs') c'.1:=fun c' hc'=>by
  obtain ⟨i,hi⟩:=List.getElem?_of_mem hc'
  obtain ⟨c,ec,e1,_⟩:=fi.aj i c' hi
  exact LenG.uni lg' lg2 cl _ c' hc' (by rw [e1]; exact decide_eq_true (full c (List.mem_of_getElem? ec))) (Nat.lt_succ_self _)
 refine ⟨cl,fun c' hc'=>(un c' hc').1,?_⟩
 have mm:("main":Str)∈K18.nms cs':=by rw [fi.nms]; exact List.mem_of_getElem? bs.main
 obtain ⟨c',hc',e⟩:=List.mem_map.mp mm
 have:=(un c' hc').2
 rw [e,if_pos rfl] at this
 exact this.symm
theorem spo_ans {cs cs':Chs}{bits total:Int}(sp:Spo cs cs' bits)(g:good cs)(v:valT (tsOf cs) "main"=total):Ans cs' bits total:=fun f1 f2=>by
 have nd:=fdup_nd f1
 have b0:bits % 2≠1:=fun e=>sp.d0 e nd
 have b1:bits / 2 % 2≠1:=fun e=>by
  obtain ⟨c,hc,n,hn,no⟩:=sp.d1 b0 e
  exact no (flack_none.mp f2 c hc n hn)
 refine ⟨fun e gd=>?_,fun e=>?_⟩
 ·obtain ⟨c1,h1,c2,h2,m1,m2⟩:=sp.d2 b0 b1 e
  obtain ⟨ti,rd⟩:=tsOf_is cs'
  have lg:=ti.lenG nd rd
  have r1:=(lg.dn c1 h1 (gd c1 h1) _ m1).2
  have r2:=(lg.dn c2 h2 (gd c2 h2) _ m2).2
  omega
 ·rw [sp.d3 b0 b1 e]
  exact ⟨g,v⟩
theorem fdup_of {zs:List Str}(h:zs.Nodup):fdup [] zs=none:=fdup_end fun j z e m=>by
 obtain ⟨i,hi⟩:=List.getElem?_of_mem m
 rw [List.getElem?_take] at hi
 split at hi
 ·have lj:=(List.getElem?_eq_some_iff.mp e).1
  have:=(List.getElem?_inj lj h).mp (e.trans hi.symm)
  omega
 ·cases hi
def l2Of (H:Hp):V→Addr
 | .ref t=>match H t with
  | some (.tup [_,.ref l])=>l
  | _=>0
 | _=>0
theorem cp_ch {H H':Hp}{D L:Addr}{us vs:List V}{ls:List Addr}{cs:Chs}(ch:ChW H L us ls cs)(sm:Same H H')(hD:H' D=some (.lst vs))(h:All2 (CpR H D H') (prsOf cs ls) vs):ChW H' D vs (vs.map (l2Of H')) cs∧(∀ l∈vs.map (l2Of H'),H l=none):=by
 have pl:(prsOf cs ls).length=cs.length:=by
  have h2:=ch.ll
  unfold prsOf
  rw [List.length_map,List.length_zip]
  omega
 have vl:vs.length=cs.length:=by rw [← All2.len h,pl]
 refine ⟨⟨hD,vl,by rw [List.length_map]; exact vl,fun i c l e1 e2=>?_⟩,fun l hl=>?_⟩
 ·rw [List.getElem?_map] at e2
  obtain ⟨v,ev,el⟩:=Option.map_eq_some_iff.mp e2
  obtain ⟨p,ep,z,l1,t,l2,ts,f1,f2,rfl,_,_,_,f4,f5⟩:=All2.ix h ev
  obtain ⟨c',l',g1,g2,g3⟩:=prs_at ep
  rw [e1] at g1
  cases g1
  rw [g3] at f1
  injection f1 with f1 f6
  injection f1 with f1
  injection f6 with f6
  have e3:l2=l:=by
   rw [← el]
   simp only [l2Of,f4]
  obtain ⟨t0,ts0,_,_,h3,h4⟩:=ch.aj i c l' e1 g2
  rw [f6,f2] at h3
  cases h3
  refine ⟨t,ts,ev,?_,?_,All2.imp h4 fun _ _ r=>r.same sm⟩
  ·rw [f1,← e3]
   exact f4
  ·rw [← e3]
   exact f5
 ·obtain ⟨v,hv,rfl⟩:=List.mem_map.mp hl
  obtain ⟨i,hi⟩:=List.getElem?_of_mem hv
  obtain ⟨p,ep,z,l1,t,l2,ts,f1,f2,rfl,_,_,nf,f4,f5⟩:=All2.ix h hi
  have e3:l2Of H' (.ref t)=l2:=by simp only [l2Of,f4]
  rw [e3]
  exact nf
theorem ChW.ha {H:Hp}{L:Addr}{us:List V}{ls:List Addr}{cs:Chs}(ch:ChW H L us ls cs)(sz:∀ c∈cs,c.2.length≤1000):All2 (HaAt H) us cs:=all2_of ch.vl fun i v c e1 e2=>by
 obtain ⟨l,t,ts,_,ev,ht,hl,al⟩:=ch.get e2
 rw [e1] at ev
 cases ev
 exact ⟨t,l,ts,rfl,ht,hl,al,sz c (List.mem_of_getElem? e2)⟩
--CUT--
def calmSp (sp:Sp):Sp:=fun vs H Q _=>sp vs H Q fun _ _ _=>False
theorem calm_ok {k:Nat}{ps:List Str}{sp:Sp}(F:FnOk P w K mg base (CXe P w) k f fd ps sp):FnOk P w K mg base CX0 k f fd ps (calmSp sp) :=
 ⟨fun vs H Q _ h=>F.len vs H Q _ h,fun A outer s H args us vs Q E hr e0 hb hv h=>codeAny_mono (F.run A outer s H args us vs Q _ hr e0 hb hv h) fun r s' hq=>by
  cases r with
  | ok fl=>cases fl <;> exact hq
  | error e =>
   obtain ⟨_,_,_,_,_,_,z⟩:=hq
   exact z.elim⟩
section
variable {C_Rule C_Word C_Back C_Call C_Book C_Ring C_TooLong C_TwoChains C_NoChain:Addr}
theorem ok_law (F:Fun K "law" "law" s_law f fd)(g__law_cell_at:Fn P w K mg base "_law_cell_at" 1 ["_law_script","_law_k"] (spCell K))(g__law_stream:Fn P w K mg base "_law_stream" 1 ["_law_cell","_law_many"] spStream)(g__law_names:Fn P w K mg base "_law_names" 2 ["_law_cell","_law_many"] spNms)(g__law_chains:Fn P w K mg base "_law_chains" 2 ["_law_cells","_law_names_here"] spChains18)(g__law_totals:Fn P w K mg base "_law_totals" 1 ["_law_chains_here"] spTot18)(g__law_box:Fn P w K mg base "_law_box" 1 ["_law_draw"] spBox18)(g__law_put:Fn P w K mg base "_law_put" 1 ["_law_chains_here","_law_at","_law_where","_law_rule"] spPut18)(g__law_spoiled:Fn P w K mg base "_law_spoiled" 2 ["_law_chains_here","_law_strange","_law_draws","_law_bits"] spSpo18)(g__law_told:Fn P w K mg base "_law_told" 7 ["_law_default","_law_chains_here"] (spTold18 C_Ring C_TooLong C_TwoChains C_NoChain))(g__law_answers:Fn P w K mg base "_law_answers" 8 ["_law_chains_here","_law_bits","_law_total"] spAns18)(gi_Book:FnI P w K mg base C_Book 5 ["self","default","chains"] (calmSp (spBookX C_Word C_Back C_Call C_Book C_Ring C_TooLong C_TwoChains C_NoChain)))(gm_Book_length:FnM P w K mg base C_Book "length" 1 ["self"] (spLength C_Word C_Back C_Call C_Book))
  (b_range:mg "range"=none) (b_max:mg "max"=none) (b_list:mg "list"=none) (m_Book:mg "Book"=some (.ref C_Book)) (T:TxB K C_Rule C_Word C_Back C_Call C_Book):FnOk P w K mg base CX0 9 f fd ["_law_script"] (spLaw K):=by
 refine F.ok sc_law (fun vs H Q E h=>?_) (fun cdv A outer s H vs Q E hr h=>?_)
 ·obtain ⟨_,_,rfl,_⟩:=h
  rfl
 obtain ⟨sc,ns,rfl,hS,h63,q⟩:=h
 refine ⟨_,(@pss_cons _ _ _ _ _ (@ps_set _ _ (1) _ _ _ _ sc_law.nd rfl (Or.inr rfl) (@pe_fn _ _ _ _ _ _ _ _ _ _ _ g__law_names hr (by decide) rfl (@pa_cons _ _ _ _ _ (@pe_fn _ _ _ _ _ _ _ _ _ _ _ g__law_cell_at hr (by decide) rfl (@pa_cons _ _ _ _ _ (pv 0) (@pa_cons _ _ _ _ _ pe_int pa_nil (by rfl)) (by rfl)) (by decide) (by rfl) (by rfl)) (@pa_cons _ _ _ _ _ (@pe_op _ _ _ _ _ _ _ _ op_add pe_int (@pe_op _ _ _ _ _ _ _ _ op_mod (@pe_fn _ _ _ _ _ _ _ _ _ _ _ g__law_cell_at hr (by decide) rfl (@pa_cons _ _ _ _ _ (pv 0) (@pa_cons _ _ _ _ _ pe_int pa_nil (by rfl)) (by rfl)) (by decide) (by rfl) (by rfl)) pe_int)) pa_nil (by rfl)) (by rfl)) (by decide) (by rfl) (by rfl)) (by rfl) (by first | exact .inl rfl | exact .inr rfl | assumption)) (@pss_cons _ _ _ _ _ (@ps_set _ _ (2) _ _ _ _ sc_law.nd rfl (Or.inl rfl) (@pe_fn _ _ _ _ _ _ _ _ _ _ _ g__law_chains hr (by decide) rfl (@pa_cons _ _ _ _ _ (@pe_slice _ _ _ _ _ _ _ _ _ _ sl_list (pv 0) (@po_some _ _ _ pe_int) (@po_some _ _ _ pe_int)) (@pa_cons _ _ _ _ _ (pv 1) pa_nil (by rfl)) (by rfl)) (by decide) (by rfl) (by rfl)) (by rfl) (by first | exact .inl rfl | exact .inr rfl | assumption)) (@pss_cons _ _ _ _ _ (@ps_set _ _ (3) _ _ _ _ sc_law.nd rfl (Or.inl rfl) (@pe_op _ _ _ _ _ _ _ _ op_mod (@pe_fn _ _ _ _ _ _ _ _ _ _ _ g__law_cell_at hr (by decide) rfl (@pa_cons _ _ _ _ _ (pv 0) (@pa_cons _ _ _ _ _ pe_int pa_nil (by rfl)) (by rfl)) (by decide) (by rfl) (by rfl)) pe_int) (by rfl) (by first | exact .inl rfl | exact .inr rfl | assumption)) (@pss_cons _ _ _ _ _ (@ps_set _ _ (4) _ _ _ _ sc_law.nd rfl (Or.inl rfl) (@pe_fn _ _ _ _ _ _ _ _ _ _ _ g__law_stream hr (by decide) rfl (@pa_cons _ _ _ _ _ (@pe_fn _ _ _ _ _ _ _ _ _ _ _ g__law_cell_at hr (by decide) rfl (@pa_cons _ _ _ _ _ (pv 0) (@pa_cons _ _ _ _ _ pe_int pa_nil (by rfl)) (by rfl)) (by decide) (by rfl) (by rfl)) (@pa_cons _ _ _ _ _ pe_int pa_nil (by rfl)) (by rfl)) (by decide) (by rfl) (by rfl)) (by rfl) (by first | exact .inl rfl | exact .inr rfl | assumption)) (@pss_cons _ _ _ _ _ (@ps_set _ _ (5) _ _ _ _ sc_law.nd rfl (Or.inl rfl) (@pe_slice _ _ _ _ _ _ _ _ _ _ sl_list (@pe_comp _ _ (["_law_name"]) ([1]) _ _ _ _ _ _ _ _ _ rfl (COk.of (out:=defScope s_law) (N:=["_law_script","_law_names_here","_law_chains_here","_law_bits","_law_draws","_law_lack","_law_total","_law_fill","_law_k","_law_kept"]) rfl rfl (by decide +kernel)) (@pi_list _ _ _ _ (@pe_lst _ _ _ _ (@pa_consts _ _ _ rfl))) (fun _ _ _=>(@pg_name _ _ (0) _ (show List.Nodup (["_law_name","_law_names_here"]:List Str) by decide +kernel) rfl (Or.inl rfl) (by first | exact .inl rfl | exact .inr rfl | assumption))) (fun _ _ _=>(@pifs_one _ _ _ (@pt_cmpR _ _ _ _ _ _ _ _ (op_notinL (K:=K) rfl) (pv 0) (pv 1) (by with_unfolding_all rfl)))) (fun _ _ _=>(pv 0)) (by intro _; rfl)) po_none (@po_some _ _ _ pe_int)) (by rfl) (by first | exact .inl rfl | exact .inr rfl | assumption)) (@pss_cons _ _ _ _ _ (@ps_set _ _ (6) _ _ _ _ sc_law.nd rfl (Or.inl rfl) (@pe_dget _ _ _ _ _ _ (hu_of hr) (@pe_fn _ _ _ _ _ _ _ _ _ _ _ g__law_totals hr (by decide) rfl (@pa_cons _ _ _ _ _ (pv 2) pa_nil (by rfl)) (by decide) (by rfl) (by rfl)) pe_str (fun _ _=>rfl)) (by rfl) (by first | exact .inl rfl | exact .inr rfl | assumption)) (@pss_cons _ _ _ _ _ (@ps_if _ _ _ _ _ _ _ _ (@pt_cmpR _ _ _ _ _ _ _ _ op_eq (@pe_op _ _ _ _ _ _ _ _ op_divW (pv 3) pe_int) pe_int (nomark _)) (@pss_cons _ _ _ _ _ (@ps_set _ _ (7) _ _ _ _ sc_law.nd rfl (Or.inl rfl) (@pe_callB _ _ _ _ _ _ _ _ _ (call_maxR rfl) rfl b_max bo_max (@pa_cons _ _ _ _ _ pe_int (@pa_cons _ _ _ _ _ (@pe_op _ _ _ _ _ _ _ _ op_sub (@pe_op _ _ _ _ _ _ _ _ op_add pe_int (@pe_op _ _ _ _ _ _ _ _ op_mod (@pe_op _ _ _ _ _ _ _ _ op_divW (@pe_fn _ _ _ _ _ _ _ _ _ _ _ g__law_cell_at hr (by decide) rfl (@pa_cons _ _ _ _ _ (pv 0) (@pa_cons _ _ _ _ _ pe_int pa_nil (by rfl)) (by rfl)) (by decide) (by rfl) (by rfl)) pe_int) pe_int)) (pv 6)) pa_nil (by rfl)) (by rfl)) (by decide) (by decide) (by rfl) (by rfl)) (by rfl) (by first | exact .inl rfl | exact .inr rfl | assumption)) (@pss_cons _ _ _ _ _ (@ps_for _ _ _ _ _ _ _ _ PassesOwn.never rfl (@pi_range1 _ _ _ _ _ _ rfl b_range (@pa_cons _ _ _ _ _ (pv 7) pa_nil (by rfl)) (by rfl)) (@pg_name _ _ (8) _ sc_law.nd rfl (Or.inl rfl) (by first | exact .inl rfl | exact .inr rfl | assumption)) (@pss_one _ _ _ (@ps_expr _ _ _ _ (@pe_fn _ _ _ _ _ _ _ _ _ _ _ g__law_put hr (by decide) rfl (@pa_cons _ _ _ _ _ (pv 2) (@pa_cons _ _ _ _ _ pe_int (@pa_cons _ _ _ _ _ (@pe_op _ _ _ _ _ _ _ _ op_add (@pe_ix _ _ _ _ _ _ _ ix_list (pv 4) (@pe_op _ _ _ _ _ _ _ _ op_mod (pv 8) pe_int) (fun _ _=>rfl)) (pv 8)) (@pa_cons _ _ _ _ _ (@pe_tup _ _ _ _ _ (@pa_cons _ _ _ _ _ pe_str (@pa_cons _ _ _ _ _ (@pe_fn _ _ _ _ _ _ _ _ _ _ _ g__law_box hr (by decide) rfl (@pa_cons _ _ _ _ _ (@pe_ix _ _ _ _ _ _ _ ix_list (pv 4) (@pe_op _ _ _ _ _ _ _ _ op_mod (pv 8) pe_int) (fun _ _=>rfl)) pa_nil (by rfl)) (by decide) (by rfl) (by rfl)) pa_nil (by rfl)) (by rfl))) pa_nil (by rfl)) (by rfl)) (by rfl)) (by rfl)) (by decide) (by rfl) (by rfl)) (by rfl))) (by intro _; rfl)) (@pss_one _ _ _ (@ps_set _ _ (6) _ _ _ _ sc_law.nd rfl (Or.inl rfl) (@pe_op _ _ _ _ _ _ _ _ op_add (pv 6) (pv 7)) (by rfl) (by first | exact .inl rfl | exact .inr rfl | assumption))))) pss_nil) (@pss_cons _ _ _ _ _ (@ps_setComp _ _ (["_law_name","_law_rules"]) ([]) _ _ _ _ _ _ _ _ _ (9) _ _ _ rfl (COk.of (out:=defScope s_law) (N:=["_law_script","_law_names_here","_law_chains_here","_law_bits","_law_draws","_law_lack","_law_total","_law_fill","_law_k","_law_kept"]) rfl rfl (by decide +kernel)) sc_law.nd rfl (Or.inl rfl) (@pi_list _ _ _ _ (pv 2)) (fun _ _ _=>(@pg_tupK _ (K) _ _ _ _ (2) rfl rfl (@pgs_cons _ _ _ _ _ (@pg_name _ _ (0) _ (show List.Nodup (["_law_name","_law_rules"]:List Str) by decide +kernel) rfl (Or.inl rfl) (by first | exact .inl rfl | exact .inr rfl | assumption)) (@pgs_cons _ _ _ _ _ (@pg_name _ _ (1) _ (show List.Nodup (["_law_name","_law_rules"]:List Str) by decide +kernel) rfl (Or.inl rfl) (by first | exact .inl rfl | exact .inr rfl | assumption)) pgs_nil (by rfl)) (by rfl)) (by rfl) (by rfl))) (fun _ _ _=>pifs_nil) (fun _ _ _=>(@pe_tup _ _ _ _ _ (@pa_cons _ _ _ _ _ (pv 0) (@pa_cons _ _ _ _ _ (@pe_callTy _ _ _ _ _ _ _ _ _ (call_listRK (K:=K) rfl) rfl b_list bo_list (@pa_cons _ _ _ _ _ (pv 1) pa_nil (by rfl)) (by decide) (by decide) (by rfl) (by rfl)) pa_nil (by rfl)) (by rfl)))) (by rfl) (by first | exact .inl rfl | exact .inr rfl | assumption) (by intro _; rfl)) (@pss_cons _ _ _ _ _ (@ps_expr _ _ _ _ (@pe_fn _ _ _ _ _ _ _ _ _ _ _ g__law_spoiled hr (by decide) rfl (@pa_cons _ _ _ _ _ (pv 2) (@pa_cons _ _ _ _ _ (pv 5) (@pa_cons _ _ _ _ _ (pv 4) (@pa_cons _ _ _ _ _ (pv 3) pa_nil (by rfl)) (by rfl)) (by rfl)) (by rfl)) (by decide) (by rfl) (by rfl)) (by rfl)) (@pss_cons _ _ _ _ _ (@ps_if _ _ _ _ _ _ _ _ (@pt_not _ _ _ _ (@pt_val _ _ _ (@pe_fn _ _ _ _ _ _ _ _ _ _ _ g__law_answers hr (by decide) rfl (@pa_cons _ _ _ _ _ (pv 2) (@pa_cons _ _ _ _ _ (pv 3) (@pa_cons _ _ _ _ _ (pv 6) pa_nil (by rfl)) (by rfl)) (by rfl)) (by decide) (by rfl) (by rfl)) (by intro _; rfl))) (@pss_one _ _ _ (@ps_ret _ _ _ _ pe_bl)) pss_nil) (@pss_cons _ _ _ _ _ (@ps_if _ _ _ _ _ _ _ _ (@pt_cmpR _ _ _ _ _ _ _ _ op_gt (pv 6) pe_int (nomark _)) (@pss_one _ _ _ (@ps_ret _ _ _ _ (@pe_fn _ _ _ _ _ _ _ _ _ _ _ g__law_answers hr (by decide) rfl (@pa_cons _ _ _ _ _ (pv 9) (@pa_cons _ _ _ _ _ pe_int (@pa_cons _ _ _ _ _ (pv 6) pa_nil (by rfl)) (by rfl)) (by rfl)) (by decide) (by rfl) (by rfl)))) pss_nil) (@pss_one _ _ _ (@ps_ret _ _ _ _ (@pe_and _ _ _ _ _ _ _ (@pe_cmpR _ _ _ _ _ _ _ _ op_isN (@pe_fn _ _ _ _ _ _ _ _ _ _ _ g__law_told hr (by decide) rfl (@pa_cons _ _ _ _ _ pe_str (@pa_cons _ _ _ _ _ (pv 9) pa_nil (by rfl)) (by rfl)) (by decide) (by rfl) (by rfl)) pe_non (nomark _)) (@pe_one _ _ _ _ _ (@pe_cmpR _ _ _ _ _ _ _ _ op_eq (@pe_methA0 _ _ _ _ _ _ _ _ (@pe_new _ _ _ _ _ _ _ _ _ _ _ _ gi_Book hr (by decide) rfl m_Book (@pa_cons _ _ _ _ _ pe_str (@pa_cons _ _ _ _ _ (pv 9) pa_nil (by rfl)) (by rfl)) (by decide) (by rfl) (by rfl)) hr (by rfl)) (pv 6) (nomark _))))))))))))))))),?_⟩
 rw [st_law]
 refine seq_hid fun N go=>?_
 walk_at "sv"
 refine spCell.go hS (by omega) ?_
 walk_at "sv"
 refine spCell.go hS (by omega) ?_
 walk_at "sv"
 refine ⟨by decide,?_⟩
 obtain ⟨k,ek,k4⟩:∃ k:Nat,cell ns 0 % 4=(k:Int)∧k<4:=⟨(cell ns 0 % 4).toNat,by omega,by omega⟩
 rw [ek,show (2:Int)+(k:Int)=((k+2:Nat):Int) by omega]
 refine ⟨_,k+2,rfl,by omega,by omega,fun nl zs H1 nnl s1 hnl zl znd z0 zok=>?_⟩
 refine go _ _ ?_
 clear go
 refine seq_hid fun N go=>?_
 walk_at "sv"
 refine PartR.go ?_
 refine PartR.go ?_
 refine slMidA_go (k:=4) (j:=64) (s1.seq hS) fun cl ncl=>?_
 have e1:((ns.map V.int).drop 4).take (64 - 4)=((ns.drop 4).take 60).map V.int:=by rw [List.map_take,List.map_drop]
 rw [e1]
 have s2:=same_new ncl (.lst (((ns.drop 4).take 60).map V.int))
 have hcl:upd H1 cl (.lst (((ns.drop 4).take 60).map V.int)) cl=some (.lst (((ns.drop 4).take 60).map V.int)):=upd_same
 generalize upd H1 cl (.lst (((ns.drop 4).take 60).map V.int))=H2 at *
 refine ⟨cl,nl,_,zs,rfl,hcl,List.length_take_le _ _,s2 _ _ hnl,znd,z0,zok,by omega,by omega,fun L us ls cs H3 s3 ch lfr Lfr ekeys bs=>?_⟩
 have s13:=s2.trans s3
 have hS3:=(s1.trans s13).seq hS
 have hnl3:=s13 _ _ hnl
 refine go _ _ ?_
 clear go
 refine seq_hid fun N go=>?_
 walk_at "sv"
 refine spCell.go hS3 (by omega) ?_
 walk_at "sv"
 refine ⟨by decide,?_⟩
 refine go _ _ ?_
 clear go
 refine seq_hid fun N go=>?_
 walk_at "sv"
 refine spCell.go hS3 (by omega) ?_
 refine ⟨_,18,rfl,by decide,fun ld ds H4 nld s4 hld dl dal=>?_⟩
 have ch4:=ch.same s4
 refine go _ _ ?_
 clear go
 refine seq_hid fun N go=>?_
 walk_at "sv"
 refine LstR.go (by simp) fun l5 nl5=>?_
 have s5:=same_new nl5 (.lst (lits.map V.str))
 have hl5:upd H4 l5 (.lst [.str "z",.str "y",.str "x",.str "w",.str "v",.str "mains",.str "mai"]) l5=some (.lst (lits.map V.str)):=upd_same
 have s5:Same H4 (upd H4 l5 (.lst [.str "z",.str "y",.str "x",.str "w",.str "v",.str "mains",.str "mai"])):=s5
 generalize upd H4 l5 (.lst [.str "z",.str "y",.str "x",.str "w",.str "v",.str "mains",.str "mai"])=H5 at *
 have hnl5:=(s4.trans s5) _ _ hnl3
 walk_at "sv"
 refine IlR.go (SqL.of hl5) ?_
 refine CmpR.filt (notIn zs) (fun v=>v) itl (by decide) (fun H' s=>SqL.of (s _ _ hl5)) (fun x H' Q' hx sm kk=>?_) (fun x H' Q' hx hp sm kk=>?_) fun D6 H6 nD6 s6 hD6=>?_
 ·obtain ⟨z,hz,rfl⟩:=List.mem_map.mp hx
  walk_at "sv"
  refine inR_go (SqL.of (sm _ _ hnl5)) ?_
  rw [if_pos rfl]
  walk_at "sv"
  exact kk H' (Same.refl _)
 ·obtain ⟨z,hz,rfl⟩:=List.mem_map.mp hx
  walk_at "sv"
  exact kk H' (Same.refl _)
 rw [notIn_list] at hD6
 walk_at "sv"
 refine PartR.go ?_
 refine slTakeA_go (k:=2) (SqL.of hD6) fun sl nsl=>?_
 rw [← List.map_take]
 have l2:=lack_two (zs:=zs) (by omega)
 obtain ⟨ss,ess⟩:∃ ss,(lits.filter fun z=>!decide (z∈zs)).take 2=ss:=⟨_,rfl⟩
 have ss2:ss.length=2:=by rw [← ess,List.length_take]; omega
 have sok:∀ z∈ss,NmOk z∧z∉zs:=fun z hz=>by
  rw [← ess] at hz
  obtain ⟨m1,m2⟩:=List.mem_filter.mp (List.mem_of_mem_take hz)
  exact ⟨lits_ok.2 z m1,by simpa using m2⟩
 rw [ess]
 have s7:=same_new nsl (.lst (ss.map V.str))
 have hsl:upd H6 sl (.lst (ss.map V.str)) sl=some (.lst (ss.map V.str)):=upd_same
 generalize upd H6 sl (.lst (ss.map V.str))=H7 at *
 have s47:=s5.trans (s6.trans s7)
 have ch7:=ch4.same s47
 have hld7:=s47 _ _ hld
 have hS7:=(s4.trans s47).seq hS3
 refine go _ _ ?_
 clear go
 refine seq_hid fun N go=>?_
 walk_at "sv"
 refine ⟨L,us,ls,cs,rfl,ch7,bs,fun td ts H8 s8 htd ti full=>?_⟩
 obtain ⟨cm,hcm,ecm⟩:=List.mem_map.mp (List.mem_of_getElem? bs.main)
 have mk:=full cm hcm
 rw [ecm] at mk
 refine dgetR_go (.inl htd) (dT_look ti.nd mk) ?_
 have ch8:=ch7.same s8
 have hld8:=s8 _ _ hld7
 have hsl8:=s8 _ _ hsl
 have hS8:=s8.seq hS7
 have tl:ts.length≤20:=by
  have:=List.Nodup.length_le_of_subset ti.nd (l₂:=cs.map (·.1)) fun z hz=>ti.sub z hz
  rw [List.length_map,List.length_map] at this
  have:=bs.n5
  omega
 have tb:=ti.valB (fun c hc=>Nat.le_trans (bs.len c hc) (by decide)) tl "main"
 /- lists that are none of the chains' -/
 have outL:∀ {x:Addr} {xs:List V} {H':Hp},H3 x=none→H' x=some (.lst xs)→x≠L∧x∉ls:=fun {x xs H'} n _=>⟨(fun e=>by rw [e,ch.lst] at n; cases n),fun m=>by
  obtain ⟨i,hi⟩:=List.getElem?_of_mem m
  have lc:i<cs.length:=by rw [← ch.ll]; exact (List.getElem?_eq_some_iff.mp hi).1
  obtain ⟨_,_,_,_,hh,_⟩:=ch.aj i _ x (List.getElem?_eq_getElem lc) hi
  rw [n] at hh
  cases hh⟩
 obtain ⟨nldL,nldl⟩:=outL nld hld
 obtain ⟨nslL,nsll⟩:=outL (s4.free (s5.free (s6.free nsl))) hsl
 refine go _ _ ?_
 clear go
 refine seq_hid fun N go=>?_
 suffices rest:∀ (cs1:Chs) (kf:Nat) (H9:Hp) (y1 y2:Option V),ChL H9 L us ls cs1→Fil cs cs1 kf→kf≤130→H9 ld=some (.lst (ds.map V.int))→H9 sl=some (.lst (ss.map V.str))→N [some (.ref sc),some (.ref nl),some (.ref L),some (.int (cell ns 3 % 16)),some (.ref ld),some (.ref sl),some (.int (valT ts "main"+kf)),y1,y2,none] H9 by
  walk_at "sv"
  refine ⟨⟨by decide,by decide⟩,?_⟩
  refine BrS.dec (fun _=>?_) fun _=>?_
  rotate_left
  ·walk_at "sv"
   have:=rest cs 0 H8 none none ch8 ⟨rfl,fun i c e=>⟨c,e,rfl,rfl,by split <;> rfl⟩⟩ (by decide) hld8 hsl8
   rw [Int.natCast_zero,Int.add_zero] at this
   exact this
  refine seq_hid fun N2 go2=>?_
  walk_at "sv"
  refine spCell.go hS8 (by omega) ?_
  walk_at "sv"
  refine ⟨⟨by decide,by decide⟩,by decide,?_⟩
  obtain ⟨fl,efl,fl1⟩:∃ fl:Nat,max 0 (119+cell ns 3 / 16 % 4 - valT ts "main")=(fl:Int)∧fl≤122:=⟨(max 0 (119+cell ns 3 / 16 % 4 - valT ts "main")).toNat,by omega,by omega⟩
  rw [efl]
  refine go2 _ _ ?_
  clear go2
  refine seq_hid fun N2 go2=>?_
  walk_at "sv"
  refine RngR.go (by omega) (by omega) ?_
  rw [Int.toNat_natCast]
  refine ForR.range (n:=fl) (fun i σ H'=>∃ (cs1:Chs) (y:Option V),ChL H' L us ls cs1∧Fil cs cs1 i∧H' ld=some (.lst (ds.map V.int))∧H' sl=some (.lst (ss.map V.str))∧σ=[some (.ref sc),some (.ref nl),some (.ref L),some (.int (cell ns 3 % 16)),some (.ref ld),some (.ref sl),some (.int (valT ts "main")),some (.int (fl:Int)),y,none]) ⟨cs,_,ch8,⟨rfl,fun i c e=>⟨c,e,rfl,rfl,by split <;> rfl⟩⟩,hld8,hsl8,rfl⟩ (fun i σ H9 hi pv=>?_) (fun σ H9 pv=>?_)
  rotate_left
  ·obtain ⟨cs1,y,ch9,fi,hld9,hsl9,rfl⟩:=pv
   refine go2 _ _ ?_
   clear go2
   walk_at "sv"
   exact rest cs1 fl H9 _ _ ch9 fi (by omega) hld9 hsl9
  obtain ⟨cs1,y,ch9,fi,hld9,hsl9,rfl⟩:=pv
  obtain ⟨j,ej,j16⟩:∃ j:Nat,(i:Int) % 16=(j:Int)∧j<16:=⟨((i:Int) % 16).toNat,by omega,by omega⟩
  obtain ⟨d,ed⟩:∃ d,(ds.map V.int)[j]?=some (.int d):=⟨ds[j]'(by omega),by rw [List.getElem?_map,List.getElem?_eq_getElem (by omega)]; rfl⟩
  have c1l:0<cs1.length:=by rw [fi.len]; have:=bs.n2; omega
  obtain ⟨c1,ec1⟩:∃ c,cs1[0]?=some c:=⟨cs1[0],List.getElem?_eq_getElem c1l⟩
  obtain ⟨c0,ec0,_,_,l0⟩:=fi.aj 0 c1 ec1
  have c0l:=bs.len c0 (List.mem_of_getElem? ec0)
  rw [if_pos rfl] at l0
  rw [Int.zero_add]
  walk_at "sv"
  refine ⟨by decide,?_⟩
  rw [ej]
  refine ixL_go (SqL.of hld9) ed ?_
  walk_at "sv"
  refine ⟨by decide,?_⟩
  refine ixL_go (SqL.of hld9) ed ?_
  refine ⟨d,rfl,fun p Ha sa=>?_⟩
  refine TupR.go (by simp) fun t nt=>?_
  have sb:=same_new nt (.tup [.str "stop",.ref p])
  have ht:upd Ha t (.tup [.str "stop",.ref p]) t=some (.tup [.str "stop",.ref p]):=upd_same
  generalize upd Ha t (.tup [.str "stop",.ref p])=Hb at *
  refine ⟨L,0,_,.ref t,us,ls,cs1,c1,(.word "stop",p),rfl,(ch9.same sa).same sb,ec1,by omega,⟨t,rfl,ht,by decide,by decide,by decide,by decide +kernel⟩,fun pp l Hc pl el kp chc=>?_⟩
  have lm:=List.mem_of_getElem? el
  exact ⟨_,_,chc,fi.put ec1,kp _ _ (fun e=>nldl (e▸lm)) (sb _ _ (sa _ _ hld9)),kp _ _ (fun e=>nsll (e▸lm)) (sb _ _ (sa _ _ hsl9)),rfl⟩
 intro cs1 kf H9 y1 y2 ch9 fi kfl hld9 hsl9
 refine go _ _ ?_
 clear go
 obtain ⟨cl1,gd,val⟩:=fil_len bs ti full fi
 have nms1:nms cs1=zs:=fi.nms.trans ekeys
 have nd1:(nms cs1).Nodup:=by rw [nms1]; exact znd
 have len1:=fi.len
 have n2:=bs.n2
 have n5:=bs.n5
 have sz1:∀ c∈cs1,NmOk c.1∧c.2.length≤200:=fun c hc=>by
  obtain ⟨i,hi⟩:=List.getElem?_of_mem hc
  obtain ⟨c0,ec0,e1,_,l1⟩:=fi.aj i c hi
  have h0:=List.mem_of_getElem? ec0
  have:=bs.len c0 h0
  refine ⟨by rw [e1]; exact bs.nm c0 h0,?_⟩
  split at l1 <;> omega
 have mn1:("main":Str)∈nms cs1:=by rw [nms1]; exact List.mem_of_getElem? z0
 have f1:fdup [] (nms cs1)=none:=fdup_of nd1
 have f2:flack (nms cs1) cs1=none:=flack_none.mpr cl1
 obtain ⟨total,et⟩:∃ t,valT ts "main"+(kf:Int)=t:=⟨_,rfl⟩
 rw [et] at val ⊢
 refine seq_hid fun N go=>?_
 walk_at "sv"
 refine IlR.go (SqL.of ch9.lst) ?_
 refine CmpR.relT (CpR H9) (fun D H' H'' p v kp r=>?_) itl ch9.tt (by rw [ch9.vl]; omega) (fun H' s=>SqL.of (s _ _ ch9.lst)) (fun D p H' ys Q' hp nD sm hD k=>?_) fun D Ha vs nD sa hD al=>?_
 ·obtain ⟨z,l,t,l2,ts,e1,e2,e3,nt,nl,nf,ht,hl⟩:=r
  exact ⟨z,l,t,l2,ts,e1,e2,e3,nt,nl,nf,kp _ _ nt ht,kp _ _ nl hl⟩
 ·obtain ⟨i,hi⟩:=List.getElem?_of_mem hp
  obtain ⟨c,l,g1,g2,rfl⟩:=prs_at hi
  obtain ⟨t0,ts,_,_,hl,hts⟩:=ch9.aj i c l g1 g2
  walk_at "sv"
  refine LstOf.lst (SqL.of (sm _ _ hl)) fun l2 nl2=>?_
  have z2:=same_new nl2 (.lst ts)
  have hl2:upd H' l2 (.lst ts) l2=some (.lst ts):=upd_same
  have hD2:=z2 _ _ hD
  have nlD:l2≠D:=fun e=>by rw [e,hD] at nl2; cases nl2
  have nf:H9 l2=none:=sm.free nl2
  generalize upd H' l2 (.lst ts)=Hq at *
  refine TupR.go (by simp) fun t nt=>?_
  have z3:=same_new nt (.tup [.str c.1,.ref l2])
  have ntD:t≠D:=fun e=>by rw [e,hD2] at nt; cases nt
  exact k _ _ (z2.trans z3) ⟨c.1,l,t,l2,ts,rfl,hl,rfl,ntD,nlD,nf,upd_same,z3 _ _ hl2⟩
 obtain ⟨kc,kfr⟩:=cp_ch ch9.toChW sa hD al
 have cha:=ch9.same sa
 refine go _ _ ?_
 clear go
 have lsin:∀ x∈ls,H9 x≠none:=fun x hx n=>by
  obtain ⟨i,hi⟩:=List.getElem?_of_mem hx
  have lc:i<cs1.length:=by rw [← ch9.ll]; exact (List.getElem?_eq_some_iff.mp hi).1
  obtain ⟨_,_,_,_,hh,_⟩:=ch9.aj i _ x (List.getElem?_eq_getElem lc) hi
  rw [n] at hh
  cases hh
 refine seq_hid fun N go=>?_
 walk_at "sv"
 refine ⟨L,sl,ld,us,ls,cs1,ss,ds,_,rfl,cha,sa _ _ hsl9,ss2,fun z hz=>⟨(sok z hz).1,by rw [nms1]; exact (sok z hz).2⟩,sa _ _ hld9,dl,fun d hd=>(dal d hd).1,nslL,nsll,nldL,nldl,by omega,by omega,sz1,mn1,fun us' ls' cs' Hb fr chb spo=>?_⟩
 walk_at "sv"
 refine go _ _ ?_
 clear go
 have tupF:∀ a xs,Ha a=some (.tup xs)→Hb a=some (.tup xs):=fun a xs e=>fr a _ (fun z=>by
  rw [z,cha.lst] at e
  cases e) (fun m=>by
  obtain ⟨i,hi⟩:=List.getElem?_of_mem m
  have lc:i<cs1.length:=by rw [← cha.ll]; exact (List.getElem?_eq_some_iff.mp hi).1
  obtain ⟨_,_,_,_,hh,_⟩:=cha.aj i _ a (List.getElem?_eq_getElem lc) hi
  rw [e] at hh
  cases hh) e
 have kcb:ChW Hb D vs (vs.map (l2Of Ha)) cs1:=kc.fr tupF (fun l xs hl e=>fr l _ (fun z=>by
  have:=kfr l hl
  rw [z,ch9.lst] at this
  cases this) (fun m=>lsin l m (kfr l hl)) e) (fr D _ (fun z=>by
  rw [z,ch9.lst] at nD
  cases nD) (fun m=>lsin D m nD) kc.lst)
 refine seq_hid fun N go=>?_
 walk_at "sv"
 refine ⟨L,us',ls',cs',_,total,rfl,chb.toChW,by have:=spo.len; omega,spo.sz,spo.mn,spo_ans spo gd val,fun Hc sc'=>?_⟩
 walk_at "sv"
 refine go _ _ ?_
 clear go
 have kcc:=kcb.same sc'
 have sz4:∀ c∈cs1,NmOk c.1∧c.2.length≤400:=fun c hc=>⟨(sz1 c hc).1,by have:=(sz1 c hc).2; omega⟩
 walk_at "sv"
 refine BrS.dec (fun c1=>?_) fun c1=>?_
 ·walk_at "sv"
  exact ⟨D,vs,_,cs1,0,total,rfl,kcc,by omega,sz4,mn1,fun _ _=>⟨fun e=>absurd e (by decide),fun _=>⟨gd,val⟩⟩,fun H' _=>q H'⟩
 walk_at "sv"
 refine ⟨"stop",D,vs,_,cs1,rfl,kcc,by omega,sz4,mn1,fun tv Hd sd out=>?_⟩
 have le:valT (tsOf cs1) "main"≤120:=by rw [val]; omega
 have tvn:tv=.non:=by
  rcases out with ⟨z,e,_⟩ | ⟨_,n,e,_⟩ | ⟨_,_,g,_⟩ | ⟨_,_,_,lt,_⟩ | ⟨_,_,_,_,e⟩
  ·rw [f1] at e
   cases e
  ·rw [f2] at e
   cases e
  ·exact absurd gd g
  ·omega
  ·exact e
 rw [tvn]
 have kcd:=kcc.same sd
 walk_at "sv"
 intro x dx nx ndx nexd
 have z1:=same_new ndx (.own x)
 have nx1:upd Hd dx (.own x) x=none:=(upd_ne nexd.symm).trans nx
 have z12:=z1.trans (same_new nx1 (.ins C_Book dx []))
 have kce:=kcd.same z12
 refine book_ask upd_same kce.lst (kce.ha fun c hc=>Nat.le_trans (sz1 c hc).2 (by decide)) (by omega) sz4 mn1 (fun z e=>by rw [f1] at e; cases e) (fun _ n e=>by rw [f2] at e; cases e) (fun _ _ g le H9 kp bk=>⟨rfl,?_⟩) (fun _ _ _ lt=>by omega) (fun _ _ g=>absurd gd g)
 have bk':=bk.same fr_same
 obtain ⟨dx',kd,ob,ps',ld',ls',hb,_⟩:=id bk'
 refine MethR.go gm_Book_length hb T.cls (bk_no (by decide) (by decide) (by decide)) (by decide) ?_
 refine ⟨x,"pass",_,_,rfl,bk',mn1,?_⟩
 walk_at "sv"
 rw [val]
 walk_at "sv"
 exact q _
end
end
theorem asm {l:PySem.W.OpenLaw}{w:World}{K:PySem.W.Frag}{mg:Str→Option Value}{fa:Addr}(hfa:mg "law"=some (.ref fa)){C_Rule:Addr}{C_Word:Addr}{C_Back:Addr}{C_Call:Addr}{C_Book:Addr}{C_SieveError:Addr}{C_Ring:Addr}{C_TooLong:Addr}{C_TwoChains:Addr}{C_NoChain:Addr}{C_NoRow:Addr}{C_NoRule:Addr}{C_NoName:Addr}(D_rule_of:Def K mg "rule_of" s_rule_of)(D_called_names:Def K mg "called_names" s_called_names)(D_ready_names:Def K mg "ready_names" s_ready_names)(D_chain_lengths:Def K mg "chain_lengths" s_chain_lengths)(D_first_unmeasured:Def K mg "first_unmeasured" s_first_unmeasured)(D_ring_among:Def K mg "ring_among" s_ring_among)(D_refuse_two_chains:Def K mg "refuse_two_chains" s_refuse_two_chains)(D_refuse_missing_chains:Def K mg "refuse_missing_chains" s_refuse_missing_chains)(D__law_cell_at:Def K mg "_law_cell_at" s__law_cell_at)(D__law_whole:Def K mg "_law_whole" s__law_whole)(D__law_stream:Def K mg "_law_stream" s__law_stream)(D__law_names:Def K mg "_law_names" s__law_names)(D__law_box:Def K mg "_law_box" s__law_box)(D__law_put:Def K mg "_law_put" s__law_put)(D__law_chains:Def K mg "_law_chains" s__law_chains)(D__law_totals:Def K mg "_law_totals" s__law_totals)(D__law_twice:Def K mg "_law_twice" s__law_twice)(D__law_lacks:Def K mg "_law_lacks" s__law_lacks)(D__law_told:Def K mg "_law_told" s__law_told)(D__law_answers:Def K mg "_law_answers" s__law_answers)(D__law_spoiled:Def K mg "_law_spoiled" s__law_spoiled)(D_law:Def K mg "law" s_law)(c_MAIN:∃ u,mg "MAIN"=some u∧RelV (.str "main") u)(c_MOST_LENGTH:∃ u,mg "MOST_LENGTH"=some u∧RelV (.int 120) u)(b_len:mg "len"=none)(b_range:mg "range"=none)(b_max:mg "max"=none)(b_min:mg "min"=none)(b_isinstance:mg "isinstance"=none)(b_int:mg "int"=none)(b_bool:mg "bool"=none)(b_str:mg "str"=none)(b_tuple:mg "tuple"=none)(b_list:mg "list"=none)(b_zip:mg "zip"=none)(b_all:mg "all"=none)(b_sum:mg "sum"=none)(b_enumerate:mg "enumerate"=none)(b_reversed:mg "reversed"=none)(b_ValueError:mg "ValueError"=none)(m_Rule:mg "Rule"=some (.ref C_Rule))(m_Word:mg "Word"=some (.ref C_Word))(m_Back:mg "Back"=some (.ref C_Back))(m_Call:mg "Call"=some (.ref C_Call))(m_Book:mg "Book"=some (.ref C_Book))(m_SieveError:mg "SieveError"=some (.ref C_SieveError))(m_Ring:mg "Ring"=some (.ref C_Ring))(m_TooLong:mg "TooLong"=some (.ref C_TooLong))(m_TwoChains:mg "TwoChains"=some (.ref C_TwoChains))(m_NoChain:mg "NoChain"=some (.ref C_NoChain))(m_NoRow:mg "NoRow"=some (.ref C_NoRow))(m_NoRule:mg "NoRule"=some (.ref C_NoRule))(m_NoName:mg "NoName"=some (.ref C_NoName))(xb_SieveError:ExcB K C_SieveError)(f_d:PySem.W.hasDictIn K C_SieveError=true)(f_t:PySem.W.typeIn K (.ref C_SieveError)=some (.type "type"))(hb_SieveError:PySem.W.mroIn K C_SieveError (.type "BaseException")=some true)(xs_Ring:ExcS K C_Ring)(Z_Ring:ExcI K C_Ring)(na_Ring:PySem.W.findIn K (.ref C_Ring) "names"=some none)(f_s_Ring:PySem.W.subIn K (.ref C_Ring) (.ref C_SieveError)=some true)(xs_TooLong:ExcS K C_TooLong)(Z_TooLong:ExcI K C_TooLong)(na_TooLong:PySem.W.findIn K (.ref C_TooLong) "total"=some none)(f_s_TooLong:PySem.W.subIn K (.ref C_TooLong) (.ref C_SieveError)=some true)(xs_TwoChains:ExcS K C_TwoChains)(Z_TwoChains:ExcI K C_TwoChains)(na_TwoChains:PySem.W.findIn K (.ref C_TwoChains) "name"=some none)(f_s_TwoChains:PySem.W.subIn K (.ref C_TwoChains) (.ref C_SieveError)=some true)(xs_NoChain:ExcS K C_NoChain)(Z_NoChain:ExcI K C_NoChain)(na_NoChain:PySem.W.findIn K (.ref C_NoChain) "name"=some none)(f_s_NoChain:PySem.W.subIn K (.ref C_NoChain) (.ref C_SieveError)=some true)(i_TwoChains_TwoChains:PySem.W.kitOne K (.ref C_TwoChains) (.ref C_TwoChains)=some true)(i_TwoChains_NoChain:PySem.W.kitOne K (.ref C_TwoChains) (.ref C_NoChain)=some false)(i_TwoChains_Ring:PySem.W.kitOne K (.ref C_TwoChains) (.ref C_Ring)=some false)(i_TwoChains_TooLong:PySem.W.kitOne K (.ref C_TwoChains) (.ref C_TooLong)=some false)(i_TwoChains_NoRow:PySem.W.kitOne K (.ref C_TwoChains) (.ref C_NoRow)=some false)(i_TwoChains_NoRule:PySem.W.kitOne K (.ref C_TwoChains) (.ref C_NoRule)=some false)(i_TwoChains_NoName:PySem.W.kitOne K (.ref C_TwoChains) (.ref C_NoName)=some false)(i_TwoChains_ValueError:PySem.W.kitOne K (.ref C_TwoChains) (.type "ValueError")=some true)(i_NoChain_TwoChains:PySem.W.kitOne K (.ref C_NoChain) (.ref C_TwoChains)=some false)(i_NoChain_NoChain:PySem.W.kitOne K (.ref C_NoChain) (.ref C_NoChain)=some true)(i_NoChain_Ring:PySem.W.kitOne K (.ref C_NoChain) (.ref C_Ring)=some false)(i_NoChain_TooLong:PySem.W.kitOne K (.ref C_NoChain) (.ref C_TooLong)=some false)(i_NoChain_NoRow:PySem.W.kitOne K (.ref C_NoChain) (.ref C_NoRow)=some false)(i_NoChain_NoRule:PySem.W.kitOne K (.ref C_NoChain) (.ref C_NoRule)=some false)(i_NoChain_NoName:PySem.W.kitOne K (.ref C_NoChain) (.ref C_NoName)=some false)(i_NoChain_ValueError:PySem.W.kitOne K (.ref C_NoChain) (.type "ValueError")=some true)(i_Ring_TwoChains:PySem.W.kitOne K (.ref C_Ring) (.ref C_TwoChains)=some false)(i_Ring_NoChain:PySem.W.kitOne K (.ref C_Ring) (.ref C_NoChain)=some false)(i_Ring_Ring:PySem.W.kitOne K (.ref C_Ring) (.ref C_Ring)=some true)(i_Ring_TooLong:PySem.W.kitOne K (.ref C_Ring) (.ref C_TooLong)=some false)(i_Ring_NoRow:PySem.W.kitOne K (.ref C_Ring) (.ref C_NoRow)=some false)(i_Ring_NoRule:PySem.W.kitOne K (.ref C_Ring) (.ref C_NoRule)=some false)(i_Ring_NoName:PySem.W.kitOne K (.ref C_Ring) (.ref C_NoName)=some false)(i_Ring_ValueError:PySem.W.kitOne K (.ref C_Ring) (.type "ValueError")=some true)(i_TooLong_TwoChains:PySem.W.kitOne K (.ref C_TooLong) (.ref C_TwoChains)=some false)(i_TooLong_NoChain:PySem.W.kitOne K (.ref C_TooLong) (.ref C_NoChain)=some false)(i_TooLong_Ring:PySem.W.kitOne K (.ref C_TooLong) (.ref C_Ring)=some false)(i_TooLong_TooLong:PySem.W.kitOne K (.ref C_TooLong) (.ref C_TooLong)=some true)(i_TooLong_NoRow:PySem.W.kitOne K (.ref C_TooLong) (.ref C_NoRow)=some false)(i_TooLong_NoRule:PySem.W.kitOne K (.ref C_TooLong) (.ref C_NoRule)=some false)(i_TooLong_NoName:PySem.W.kitOne K (.ref C_TooLong) (.ref C_NoName)=some false)(i_TooLong_ValueError:PySem.W.kitOne K (.ref C_TooLong) (.type "ValueError")=some true)(n_TwoChains:PySem.W.kitOne K (.type "NoneType") (.ref C_TwoChains)=some false)(n_NoChain:PySem.W.kitOne K (.type "NoneType") (.ref C_NoChain)=some false)(n_Ring:PySem.W.kitOne K (.type "NoneType") (.ref C_Ring)=some false)(n_TooLong:PySem.W.kitOne K (.type "NoneType") (.ref C_TooLong)=some false)(N_Rule___init__:ClsDef K C_Rule "__init__" "Rule.__init__" s_Rule___init__)(I_Rule___init__:MDef K C_Rule "__init__" "Rule.__init__" s_Rule___init__)(I_Back___init__:MDef K C_Back "__init__" "Rule.__init__" s_Rule___init__)(I_Word___init__:MDef K C_Word "__init__" "Word.__init__" s_Word___init__)(I_Call___init__:MDef K C_Call "__init__" "Call.__init__" s_Call___init__)(J_Book___init__:MDef K C_Book "__init__" "Book.__init__" s_Book___init__)(I_Book___init__:MDef K C_Book "__init__" "Book.__init__" s_Book___init__)(M_Book_length:MDef K C_Book "length" "Book.length" s_Book_length)(T:TxB K C_Rule C_Word C_Back C_Call C_Book)(XD_Ring:XDef K mg "Ring" C_Ring "Ring.__init__" s_Ring___init__)(XD_TooLong:XDef K mg "TooLong" C_TooLong "TooLong.__init__" s_TooLong___init__)(XD_TwoChains:XDef K mg "TwoChains" C_TwoChains "TwoChains.__init__" s_TwoChains___init__)(XD_NoChain:XDef K mg "NoChain" C_NoChain "NoChain.__init__" s_NoChain___init__) :
  ∃ fd:FuncData,(∀ (s:Shared) (v:Value),BindsTo s fd ⟨[v],[]⟩ [("_law_script",v)])∧∀ base:Heap,K.In base→base.Ns mainGlobals mg→FnOk l.prog w K mg base CX0 9 fa fd ["_law_script"] (spLaw K):=by
 obtain ⟨f,fd,F,m⟩:=D_law.ex
 cases (hfa.symm.trans m)
 obtain ⟨oc,od,kV,doc,pm,an,cdv,ct,osl,e,lk,hcd⟩:=id F.ex
 subst e
 refine ⟨PySem.W.fnOf "law" "law" (defArgs s_law) (defBody s_law) (defScope s_law) .none kV doc pm an cdv ct,fun s v=>.of_eq rfl,fun base _ _=>?_⟩
 have X_Ring:XcI l.prog w K mg base "Ring" C_Ring 1 ["self","names"] (spXRing C_Ring):=XD_Ring.xci (fun _ _ _ _ _ _ us hl=>by obtain ⟨a0,a1,rfl⟩:=Sv.us2 hl; rfl) fun N _ _ k F=>ok_Ring_init F m_SieveError xb_SieveError k xs_Ring Z_Ring na_Ring b_list
 have X_TooLong:XcI l.prog w K mg base "TooLong" C_TooLong 1 ["self","total"] (spXTot C_TooLong):=XD_TooLong.xci (fun _ _ _ _ _ _ us hl=>by obtain ⟨a0,a1,rfl⟩:=Sv.us2 hl; rfl) fun N _ _ k F=>ok_TooLong_init F m_SieveError xb_SieveError k xs_TooLong na_TooLong
 have X_TwoChains:XcI l.prog w K mg base "TwoChains" C_TwoChains 1 ["self","name"] (spXName C_TwoChains):=XD_TwoChains.xci (fun _ _ _ _ _ _ us hl=>by obtain ⟨a0,a1,rfl⟩:=Sv.us2 hl; rfl) fun N _ _ k F=>ok_TwoChains_init F m_SieveError xb_SieveError k xs_TwoChains na_TwoChains
 have X_NoChain:XcI l.prog w K mg base "NoChain" C_NoChain 1 ["self","name"] (spXName C_NoChain):=XD_NoChain.xci (fun _ _ _ _ _ _ us hl=>by obtain ⟨a0,a1,rfl⟩:=Sv.us2 hl; rfl) fun N _ _ k F=>ok_NoChain_init F m_SieveError xb_SieveError k xs_NoChain na_NoChain
 have gc_Rule___init__:FnC l.prog w K mg base C_Rule "__init__" 1 ["self","box"] (spInit K):=N_Rule___init__.fnC (fun _ _ _ _ _ _ us hl=>by obtain ⟨a0,a1,rfl⟩:=Sv.us2 hl; rfl) fun _ _ F=>ok_Rule_init F
 have gi_Rule:FnI l.prog w K mg base C_Rule 1 ["self","box"] (spInit K):=I_Rule___init__.fnI T.mk_Rule T.kp_Rule (fun _ _ _ _ _ _ us hl=>by obtain ⟨a0,a1,rfl⟩:=Sv.us2 hl; rfl) fun _ _ F=>ok_Rule_init F
 have gi_Back:FnI l.prog w K mg base C_Back 1 ["self","box"] (spInit K):=I_Back___init__.fnI T.mk_Back T.kp_Back (fun _ _ _ _ _ _ us hl=>by obtain ⟨a0,a1,rfl⟩:=Sv.us2 hl; rfl) fun _ _ F=>ok_Rule_init F
 have gi_Word:FnI l.prog w K mg base C_Word 2 ["self","box","word"] (spInitW K C_Word "word"):=I_Word___init__.fnI T.mk_Word T.kp_Word (fun _ _ _ _ _ _ us hl=>by obtain ⟨a0,a1,a2,rfl⟩:=Sv.us3 hl; rfl) fun _ _ F=>ok_Word_init F gc_Rule___init__ m_Rule T.toTxt
 have gi_Call:FnI l.prog w K mg base C_Call 2 ["self","box","name"] (spInitW K C_Call "name"):=I_Call___init__.fnI T.mk_Call T.kp_Call (fun _ _ _ _ _ _ us hl=>by obtain ⟨a0,a1,a2,rfl⟩:=Sv.us3 hl; rfl) fun _ _ F=>ok_Call_init F gc_Rule___init__ m_Rule T.toTxt
 have g_rule_of:Fn l.prog w K mg base "rule_of" 4 ["told"] (spRuleOf C_Word C_Back C_Call):=D_rule_of.fn (fun _ _ _ _ _ _ us hl=>by obtain ⟨a0,rfl⟩:=Sv.us1 hl; rfl) fun _ _ F=>ok_rule_of F gi_Back gi_Word gi_Call m_Back m_Word m_Call T.toTxt
 have g_called_names:Fn l.prog w K mg base "called_names" 1 ["rules"] (spCalled C_Word C_Back C_Call):=D_called_names.fn (fun _ _ _ _ _ _ us hl=>by obtain ⟨a0,rfl⟩:=Sv.us1 hl; rfl) fun _ _ F=>ok_called_names F b_isinstance m_Call T.toTxt
 have g_ready_names:Fn l.prog w K mg base "ready_names" 2 ["chains","lengths"] (spReady C_Word C_Back C_Call):=D_ready_names.fn (fun _ _ _ _ _ _ us hl=>by obtain ⟨a0,a1,rfl⟩:=Sv.us2 hl; rfl) fun _ _ F=>ok_ready F g_called_names
 have g_chain_lengths:Fn l.prog w K mg base "chain_lengths" 3 ["chains"] (spLengthsR C_Word C_Back C_Call):=D_chain_lengths.fn (fun _ _ _ _ _ _ us hl=>by obtain ⟨a0,rfl⟩:=Sv.us1 hl; rfl) fun _ _ F=>ok_lengthsR F g_called_names g_ready_names b_len b_sum
 have g_first_unmeasured:Fn l.prog w K mg base "first_unmeasured" 1 ["names","lengths"] spFirst:=D_first_unmeasured.fn (fun _ _ _ _ _ _ us hl=>by obtain ⟨a0,a1,rfl⟩:=Sv.us2 hl; rfl) fun _ _ F=>ok_first F
 have g_ring_among:Fn l.prog w K mg base "ring_among" 2 ["chains","lengths"] (spRing C_Word C_Back C_Call):=D_ring_among.fn (fun _ _ _ _ _ _ us hl=>by obtain ⟨a0,a1,rfl⟩:=Sv.us2 hl; rfl) fun _ _ F=>ok_ring F g_first_unmeasured g_called_names b_list
 have g_refuse_two_chains:FnX l.prog w K mg base "refuse_two_chains" 3 ["names"] (spTwoX C_TwoChains):=D_refuse_two_chains.fnX (fun _ _ _ _ _ _ us hl=>by obtain ⟨a0,rfl⟩:=Sv.us1 hl; rfl) fun _ _ F=>ok_twoX F X_TwoChains b_enumerate
 have g_refuse_missing_chains:FnX l.prog w K mg base "refuse_missing_chains" 3 ["chains"] (spMissX C_Word C_Back C_Call C_NoChain):=D_refuse_missing_chains.fnX (fun _ _ _ _ _ _ us hl=>by obtain ⟨a0,rfl⟩:=Sv.us1 hl; rfl) fun _ _ F=>ok_missX F g_called_names X_NoChain
 have gj_Book:FnIX l.prog w K mg base C_Book 5 ["self","default","chains"] (spBookX C_Word C_Back C_Call C_Book C_Ring C_TooLong C_TwoChains C_NoChain):=J_Book___init__.fnIX T.mk_Book T.kp_Book (fun _ _ _ _ _ _ us hl=>by obtain ⟨a0,a1,a2,rfl⟩:=Sv.us3 hl; rfl) fun _ _ F=>ok_Book_initX F g_refuse_two_chains g_refuse_missing_chains g_chain_lengths g_ring_among X_Ring X_TooLong g_rule_of c_MAIN c_MOST_LENGTH b_len T
 have gi_Book:FnI l.prog w K mg base C_Book 5 ["self","default","chains"] (calmSp (spBookX C_Word C_Back C_Call C_Book C_Ring C_TooLong C_TwoChains C_NoChain)):=I_Book___init__.fnI T.mk_Book T.kp_Book (fun _ _ _ _ _ _ us hl=>by obtain ⟨a0,a1,a2,rfl⟩:=Sv.us3 hl; rfl) fun _ _ F=>calm_ok (ok_Book_initX F g_refuse_two_chains g_refuse_missing_chains g_chain_lengths g_ring_among X_Ring X_TooLong g_rule_of c_MAIN c_MOST_LENGTH b_len T)
 have gm_Book_length:FnM l.prog w K mg base C_Book "length" 1 ["self"] (spLength C_Word C_Back C_Call C_Book):=M_Book_length.fnM (fun _ _ _ _ _ _ us hl=>by obtain ⟨a0,rfl⟩:=Sv.us1 hl; rfl) fun _ _ F=>ok_Book_length F c_MAIN T
 have g__law_cell_at:Fn l.prog w K mg base "_law_cell_at" 1 ["_law_script","_law_k"] (spCell K):=D__law_cell_at.fn (fun _ _ _ _ _ _ us hl=>by obtain ⟨a0,a1,rfl⟩:=Sv.us2 hl; rfl) fun _ _ F=>ok_cell F b_len
 have g__law_whole:Fn l.prog w K mg base "_law_whole" 1 ["_law_found"] spWhole:=D__law_whole.fn (fun _ _ _ _ _ _ us hl=>by obtain ⟨a0,rfl⟩:=Sv.us1 hl; rfl) fun _ _ F=>ok_whole F b_isinstance b_int b_bool
 have g__law_stream:Fn l.prog w K mg base "_law_stream" 1 ["_law_cell","_law_many"] spStream:=D__law_stream.fn (fun _ _ _ _ _ _ us hl=>by obtain ⟨a0,a1,rfl⟩:=Sv.us2 hl; rfl) fun _ _ F=>ok_stream F b_range
 have g__law_names:Fn l.prog w K mg base "_law_names" 2 ["_law_cell","_law_many"] spNms:=D__law_names.fn (fun _ _ _ _ _ _ us hl=>by obtain ⟨a0,a1,rfl⟩:=Sv.us2 hl; rfl) fun _ _ F=>ok_names F g__law_stream b_range
 have g__law_box:Fn l.prog w K mg base "_law_box" 1 ["_law_draw"] spBox18:=D__law_box.fn (fun _ _ _ _ _ _ us hl=>by obtain ⟨a0,rfl⟩:=Sv.us1 hl; rfl) fun _ _ F=>ok_box18 F b_tuple
 have g__law_put:Fn l.prog w K mg base "_law_put" 1 ["_law_chains_here","_law_at","_law_where","_law_rule"] spPut18:=D__law_put.fn (fun _ _ _ _ _ _ us hl=>by obtain ⟨a0,a1,a2,a3,rfl⟩:=Sv.us4 hl; rfl) fun _ _ F=>ok_put18 F b_len
 have g__law_chains:Fn l.prog w K mg base "_law_chains" 2 ["_law_cells","_law_names_here"] spChains18:=D__law_chains.fn (fun _ _ _ _ _ _ us hl=>by obtain ⟨a0,a1,rfl⟩:=Sv.us2 hl; rfl) fun _ _ F=>ok_chains18 F g__law_stream g__law_box b_len b_range
 have g__law_totals:Fn l.prog w K mg base "_law_totals" 1 ["_law_chains_here"] spTot18:=D__law_totals.fn (fun _ _ _ _ _ _ us hl=>by obtain ⟨a0,rfl⟩:=Sv.us1 hl; rfl) fun _ _ F=>ok_tot18 F b_reversed b_len b_sum
 have g__law_twice:Fn l.prog w K mg base "_law_twice" 1 ["_law_chains_here"] spTwice18:=D__law_twice.fn (fun _ _ _ _ _ _ us hl=>by obtain ⟨a0,rfl⟩:=Sv.us1 hl; rfl) fun _ _ F=>ok_twice18 F
 have g__law_lacks:Fn l.prog w K mg base "_law_lacks" 1 ["_law_chains_here"] spLacks18:=D__law_lacks.fn (fun _ _ _ _ _ _ us hl=>by obtain ⟨a0,rfl⟩:=Sv.us1 hl; rfl) fun _ _ F=>ok_lacks18 F
 have g__law_told:Fn l.prog w K mg base "_law_told" 7 ["_law_default","_law_chains_here"] (spTold18 C_Ring C_TooLong C_TwoChains C_NoChain):=D__law_told.fn (fun _ _ _ _ _ _ us hl=>by obtain ⟨a0,a1,rfl⟩:=Sv.us2 hl; rfl) fun _ _ F=>ok_told18 F gj_Book b_list m_Book m_SieveError (kitCls_ref f_d f_t f_s_Ring) (kitCls_ref f_d f_t f_s_TooLong) (kitCls_ref f_d f_t f_s_TwoChains) (kitCls_ref f_d f_t f_s_NoChain) hb_SieveError
 have g__law_answers:Fn l.prog w K mg base "_law_answers" 8 ["_law_chains_here","_law_bits","_law_total"] spAns18:=D__law_answers.fn (fun _ _ _ _ _ _ us hl=>by obtain ⟨a0,a1,a2,rfl⟩:=Sv.us3 hl; rfl) fun _ _ F=>ok_ans18 F g__law_told g__law_twice g__law_lacks g__law_whole b_isinstance b_ValueError b_str b_list m_TwoChains m_NoChain m_Ring m_TooLong m_NoRow m_NoRule m_NoName ⟨Z_TwoChains,i_TwoChains_ValueError,i_TwoChains_TwoChains,i_TwoChains_NoChain,i_TwoChains_Ring,i_TwoChains_TooLong,i_TwoChains_NoRow,i_TwoChains_NoRule,i_TwoChains_NoName⟩ ⟨Z_NoChain,i_NoChain_ValueError,i_NoChain_TwoChains,i_NoChain_NoChain,i_NoChain_Ring,i_NoChain_TooLong,i_NoChain_NoRow,i_NoChain_NoRule,i_NoChain_NoName⟩ ⟨Z_Ring,i_Ring_ValueError,i_Ring_TwoChains,i_Ring_NoChain,i_Ring_Ring,i_Ring_TooLong,i_Ring_NoRow,i_Ring_NoRule,i_Ring_NoName⟩ ⟨Z_TooLong,i_TooLong_ValueError,i_TooLong_TwoChains,i_TooLong_NoChain,i_TooLong_Ring,i_TooLong_TooLong,i_TooLong_NoRow,i_TooLong_NoRule,i_TooLong_NoName⟩ n_TwoChains n_NoChain n_Ring n_TooLong na_TwoChains na_NoChain na_Ring na_TooLong
 have g__law_spoiled:Fn l.prog w K mg base "_law_spoiled" 2 ["_law_chains_here","_law_strange","_law_draws","_law_bits"] spSpo18:=D__law_spoiled.fn (fun _ _ _ _ _ _ us hl=>by obtain ⟨a0,a1,a2,a3,rfl⟩:=Sv.us4 hl; rfl) fun _ _ F=>ok_spo18 F g__law_box g__law_put b_len b_range
 exact ok_law F g__law_cell_at g__law_stream g__law_names g__law_chains g__law_totals g__law_box g__law_put g__law_spoiled g__law_told g__law_answers gi_Book gm_Book_length b_range b_max b_list m_Book T
theorem walk {l:PySem.W.OpenLaw}{q:Program}{loose:List Str}{XP:(Str→Option Value)→Heap→Prop}{YP:World→Heap→Prop}{d:DefRec}{K:Params→PySem.W.Frag}(hn:l.most=some 63)(hdf:d.params.defaults=[])
  (hY:∀ (w:World) (h:Heap),YP w h→(K w.params).In h)
  (F:∀ (w:World) (mg:Str→Option Value) (fa:Addr) (h:Heap),(K w.params).In h→h.Ns mainGlobals mg→mg d.name=some (.ref fa) →
   ∃ fd:FuncData,(∀ (s:Shared) (u:Value),BindsTo s fd ⟨[u],[]⟩ [("_law_script",u)])∧∀ base:Heap,(K w.params).In base→base.Ns mainGlobals mg→FnOk l.prog w (K w.params) mg base CX0 9 fa fd ["_law_script"] (spLaw (K w.params))) :
  PySem.W.WalkO q loose XP YP l.row.toRowW d [] (fun f vs=>PySem.call f vs) :=
 L2.walk_of (n:=63) (k:=9) (x:="_law_script") (CX:=fun _=>CX0) (sp:=fun w=>spLaw (K w.params)) hn (by decide) hdf ⟨rfl,by decide,by decide,rfl⟩ hY F (fun _ _ a ns hl _ hS=>⟨a,ns,rfl,hS,hl,fun _=>rfl⟩) fun _ _ _ _ _ z=>z
namespace Hd
open PySem PySem.W
noncomputable section
def en (P:Params)(x:Str)(n:Nat)(v:Value):DictEntry:=⟨PyData.keyHash P x,.str x n,v⟩
def tO (xs:List Value):Obj:=⟨.type "tuple",none,.seq ⟨xs⟩ 0,⟨[]⟩⟩
def dO (es:List DictEntry)(n:Nat):Obj:=⟨.type "dict",none,.dict ⟨es⟩ n,⟨[]⟩⟩
def nO (xs:List Value):Obj:=⟨.none,none,.fields ⟨xs⟩,⟨[]⟩⟩
def nF (n q:Str)(s:Stmt):Obj:=⟨.none,none,.func ⟨n,q,defArgs s,.stmts (defBody s),defScope s,0,[],.none,.none,.none,.none,none,.none,.none,0⟩,⟨[]⟩⟩
def uF (n q:Str)(s:Stmt)(a b c d e f:Value):Obj:=⟨.type "function",none,.func ⟨n,q,defArgs s,.stmts (defBody s),defScope s,3,[],a,b,c,d,none,e,f,0⟩,⟨[]⟩⟩
def cO (n:Str)(a:Nat)(q:Str)(b c:Nat)(x1 x2 x3 x4 x5:Int)(r1:Nat)(v:Bool)(x6:Int)(r2:Nat)(u1 u2 u3 u4:Value)(x7 x8:Int)(d:Nat):Obj:=⟨.type "code",none,.fields ⟨[.str n a,.str q b,.str "/claim/cut.py" c,.int x1 0,.int x2 0,.int x3 0,.int x4 0,.int x5 0,.ref r1,.bool v,.int x6 0,.ref r2,u1,u2,u3,u4,.int x7 0,.int x8 0,.str "/claim/cut.py" d]⟩,⟨[]⟩⟩
def rO (a b c:Nat)(v:Value):Obj:=⟨.type "frame",none,.plain,⟨[some (.ref a),some (.ref b),some (.ref c),none,some v,none,some (.ref 0)]⟩⟩
def alt (l:List Obj):Bool→List Obj:=@List.rec Obj (fun _=>Bool→List Obj) (fun _=>[]) (fun x _ ih b=>@Bool.rec (fun _=>List Obj) (ih true) (x::ih false) b) l
def mkT (n:Nat):List Obj→BT:=@Nat.rec (fun _=>List Obj→BT) (fun _=>.nil) (fun _ ih l=>@List.rec Obj (fun _=>BT) .nil (fun x r _=>.node x (ih (alt r true)) (ih (alt r false))) l) n
def cF (n:Str)(a:Nat)(q:Str)(l k:Int)(r t:Nat):Obj:=cO n a q (a+1) (a+2) l k 0 0 3 r true 181 (r+1) .none (.ref (r+2)) (.ref (r+3)) (.ref (r+4)) (t:Int) l (t+1)
def cG (n:Str)(a:Nat)(q:Str)(l k:Int)(r t:Nat):Obj:=cO n a q (a+1) (a+2) l k 0 0 3 r true 181 (r+1) .none .none .none (.ref (r+2)) (t:Int) l (t+1)
def cH (n:Str)(a:Nat)(l:Int)(r t:Nat):Obj:=cO n a n (a+1) (a+2) l 0 0 0 0 r false 181 (r+1) .none .none .none .none (t:Int) l (t+1)
def uG (n q:Str)(s:Stmt)(d:Value)(e:Nat):Obj:=uF n q s .none .none .none d (.ref e) .none
def uH (n:Str)(s:Stmt)(d:Value)(e:Nat):Obj:=uG n n s d e
def nG (n:Str)(s:Stmt):Obj:=nF n n s
def sO (r:Nat):Obj:=⟨.type "super",none,.fields ⟨[.ref r,.ref r,.ref r]⟩,⟨[]⟩⟩
def bO (r:Nat):Obj:=⟨.type "builtin_function_or_method",none,.fields ⟨[.builtin "object.__init_subclass__",.ref r]⟩,⟨[]⟩⟩
def sq (l:List Str):Nat→List Value:=@List.rec Str (fun _=>Nat→List Value) (fun _=>[]) (fun x _ ih a=>.str x a::ih (a+1)) l
def tS (l:List Str)(a:Nat):Obj:=tO (sq l a)
def t3 (l:List (Int×Int×Nat)):List Value:=@List.rec (Int×Int×Nat) (fun _=>List Value) [] (fun x _ ih=>.int x.1 0::.int x.2.1 0::.ref x.2.2::ih) l
def m0:Value:=.str "__main__" 164
def m1:Value:=.str "sieve.errors" 194
def m2:Value:=.str "sieve.rules" 381
def m3:Value:=.str "sieve.books" 537
def m4:Value:=.str "law_sieve_k18_books_refused" 669
def z0:Obj:=cH "<module>" 182 1 11 185
def z1:Obj:=rO 13 3 3 (.str "__main__" 164)
def z2 (P:Params):Obj:=dO [en P "__name__" 165 (.str "sieve.errors" 194),en P "__doc__" 166 .none,en P "__package__" 167 .none,en P "__loader__" 168 (.builtin "__main__.__loader__#opaque"),en P "__spec__" 169 .none,en P "__annotations__" 170 (.ref 6),en P "__builtins__" 171 (.ref 4),en P "__file__" 173 (.str "/claim/cut.py" 172),en P "__cached__" 174 .none,en P "_wall" 193 (.ref 21),en P "SieveError" 213 (.ref 31),en P "NoRow" 238 (.ref 51),en P "TwoChains" 263 (.ref 70),en P "NoChain" 288 (.ref 89),en P "Ring" 314 (.ref 108),en P "TooLong" 339 (.ref 127)] 16
def z3:Obj:=nO (t3 [(1,0,20),(5,0,27),(7,0,40),(12,0,59),(17,0,78),(22,0,97),(28,0,116)])
def z4:Obj:=tS ["k"] 190
def z5:Obj:=nG "_wall" s__wall
def z6:Obj:=cF "_wall" 187 "_wall" 1 1 15 191
def z7:Obj:=uH "_wall" s__wall m0 20
def z8:Obj:=tO [.type "ValueError"]
def z9:Obj:=⟨.type "builtin_function_or_method",none,(.fields ⟨[.builtin "type.__prepare__",.type "type"]⟩),⟨[]⟩⟩
def za (P:Params):Obj:=dO [en P "__module__" 203 (.str "sieve.errors" 194),en P "__qualname__" 205 (.str "SieveError" 204),en P "__firstlineno__" 207 (.int 5 206),en P "__static_attributes__" 208 (.ref 29)] 4
def zb:Obj:=cH "SieveError" 198 5 25 201
def zc:Obj:=rO 27 3 24 (.str "sieve.errors" 194)
def zd (P:Params):Obj:=dO [en P "__module__" 203 (.str "sieve.errors" 194),en P "__firstlineno__" 207 (.int 5 206),en P "__static_attributes__" 208 (.ref 29),en P "__weakref__" 210 (.ref 32),en P "__doc__" 211 .none] 3
def ze:Obj:=⟨.type "type",none,(.cls ⟨"SieveError",[.type "ValueError"],[.ref 31,.type "ValueError",.type "Exception",.type "BaseException",.type "object"],30,"SieveError",true,[],[.ref 51,.ref 70,.ref 89,.ref 108,.ref 127],false,none,false⟩),⟨[(some (.ref 22)),none,(some (.str "SieveError" 196)),(some (.str "SieveError" 204)),(some (.builtin "ValueError.__new__")),(some (.bool true))]⟩⟩
def zf:Obj:=⟨.type "getset_descriptor",none,(.fields ⟨[.str "__weakref__" 209,.ref 31,.builtin "ExceptionGroup.__weakref__",.none]⟩),⟨[]⟩⟩
def z10:Obj:=sO 31
def z11:Obj:=bO 31
def z12:Obj:=tO [.ref 31]
def z13 (P:Params):Obj:=dO [en P "__module__" 221 (.str "sieve.errors" 194),en P "__qualname__" 223 (.str "NoRow" 222),en P "__firstlineno__" 225 (.int 7 224),en P "__init__" 233 (.ref 48),en P "__static_attributes__" 235 (.ref 49)] 5
def z14:Obj:=nO (t3 [(9,4,47)])
def z15:Obj:=cH "NoRow" 216 7 38 219
def z16:Obj:=rO 40 3 37 (.str "sieve.errors" 194)
def z17:Obj:=tS ["self","row"] 229
def z18:Obj:=nF "__init__" "NoRow.__init__" s_NoRow___init__
def z19:Obj:=cF "__init__" 226 "NoRow.__init__" 9 2 42 231
def z1a:Obj:=uG "__init__" "NoRow.__init__" s_NoRow___init__ m1 47
def z1b:Obj:=tS ["row"] 234
def z1c (P:Params):Obj:=dO [en P "__module__" 221 (.str "sieve.errors" 194),en P "__firstlineno__" 225 (.int 7 224),en P "__init__" 233 (.ref 48),en P "__static_attributes__" 235 (.ref 49),en P "__doc__" 236 .none] 2
def z1d:Obj:=⟨.type "type",none,(.cls ⟨"NoRow",[.ref 31],[.ref 51,.ref 31,.type "ValueError",.type "Exception",.type "BaseException",.type "object"],50,"NoRow",true,[],[],false,none,false⟩),⟨[(some (.ref 35)),none,(some (.str "NoRow" 214)),(some (.str "NoRow" 222)),(some (.builtin "ValueError.__new__")),(some (.bool true))]⟩⟩
def z1e:Obj:=sO 51
def z1f:Obj:=bO 51
def z20 (P:Params):Obj:=dO [en P "__module__" 246 (.str "sieve.errors" 194),en P "__qualname__" 248 (.str "TwoChains" 247),en P "__firstlineno__" 250 (.int 12 249),en P "__init__" 258 (.ref 67),en P "__static_attributes__" 260 (.ref 68)] 5
def z21:Obj:=nO (t3 [(14,4,66)])
def z22:Obj:=cH "TwoChains" 241 12 57 244
def z23:Obj:=rO 59 3 56 (.str "sieve.errors" 194)
def z24:Obj:=tS ["self","name"] 254
def z25:Obj:=nF "__init__" "TwoChains.__init__" s_TwoChains___init__
def z26:Obj:=cF "__init__" 251 "TwoChains.__init__" 14 2 61 256
def z27:Obj:=uG "__init__" "TwoChains.__init__" s_TwoChains___init__ m1 66
def z28:Obj:=tS ["name"] 259
def z29 (P:Params):Obj:=dO [en P "__module__" 246 (.str "sieve.errors" 194),en P "__firstlineno__" 250 (.int 12 249),en P "__init__" 258 (.ref 67),en P "__static_attributes__" 260 (.ref 68),en P "__doc__" 261 .none] 2
def z2a:Obj:=⟨.type "type",none,(.cls ⟨"TwoChains",[.ref 31],[.ref 70,.ref 31,.type "ValueError",.type "Exception",.type "BaseException",.type "object"],69,"TwoChains",true,[],[],false,none,false⟩),⟨[(some (.ref 54)),none,(some (.str "TwoChains" 239)),(some (.str "TwoChains" 247)),(some (.builtin "ValueError.__new__")),(some (.bool true))]⟩⟩
def z2b:Obj:=sO 70
def z2c:Obj:=bO 70
def z2d (P:Params):Obj:=dO [en P "__module__" 271 (.str "sieve.errors" 194),en P "__qualname__" 273 (.str "NoChain" 272),en P "__firstlineno__" 275 (.int 17 274),en P "__init__" 283 (.ref 86),en P "__static_attributes__" 285 (.ref 87)] 5
def z2e:Obj:=nO (t3 [(19,4,85)])
def z2f:Obj:=cH "NoChain" 266 17 76 269
def z30:Obj:=rO 78 3 75 (.str "sieve.errors" 194)
def z31:Obj:=tS ["self","name"] 279
def z32:Obj:=nF "__init__" "NoChain.__init__" s_NoChain___init__
def z33:Obj:=cF "__init__" 276 "NoChain.__init__" 19 2 80 281
def z34:Obj:=uG "__init__" "NoChain.__init__" s_NoChain___init__ m1 85
def z35:Obj:=tS ["name"] 284
def z36 (P:Params):Obj:=dO [en P "__module__" 271 (.str "sieve.errors" 194),en P "__firstlineno__" 275 (.int 17 274),en P "__init__" 283 (.ref 86),en P "__static_attributes__" 285 (.ref 87),en P "__doc__" 286 .none] 2
def z37:Obj:=⟨.type "type",none,(.cls ⟨"NoChain",[.ref 31],[.ref 89,.ref 31,.type "ValueError",.type "Exception",.type "BaseException",.type "object"],88,"NoChain",true,[],[],false,none,false⟩),⟨[(some (.ref 73)),none,(some (.str "NoChain" 264)),(some (.str "NoChain" 272)),(some (.builtin "ValueError.__new__")),(some (.bool true))]⟩⟩
def z38:Obj:=sO 89
def z39:Obj:=bO 89
def z3a (P:Params):Obj:=dO [en P "__module__" 296 (.str "sieve.errors" 194),en P "__qualname__" 298 (.str "Ring" 297),en P "__firstlineno__" 300 (.int 22 299),en P "__init__" 309 (.ref 105),en P "__static_attributes__" 311 (.ref 106)] 5
def z3b:Obj:=nO (t3 [(24,4,104)])
def z3c:Obj:=cH "Ring" 291 22 95 294
def z3d:Obj:=rO 97 3 94 (.str "sieve.errors" 194)
def z3e:Obj:=tS ["self","names","ring"] 304
def z3f:Obj:=nF "__init__" "Ring.__init__" s_Ring___init__
def z40:Obj:=cF "__init__" 301 "Ring.__init__" 24 2 99 307
def z41:Obj:=uG "__init__" "Ring.__init__" s_Ring___init__ m1 104
def z42:Obj:=tS ["names"] 310
def z43 (P:Params):Obj:=dO [en P "__module__" 296 (.str "sieve.errors" 194),en P "__firstlineno__" 300 (.int 22 299),en P "__init__" 309 (.ref 105),en P "__static_attributes__" 311 (.ref 106),en P "__doc__" 312 .none] 2
def z44:Obj:=⟨.type "type",none,(.cls ⟨"Ring",[.ref 31],[.ref 108,.ref 31,.type "ValueError",.type "Exception",.type "BaseException",.type "object"],107,"Ring",true,[],[],false,none,false⟩),⟨[(some (.ref 92)),none,(some (.str "Ring" 289)),(some (.str "Ring" 297)),(some (.builtin "ValueError.__new__")),(some (.bool true))]⟩⟩
def z45:Obj:=sO 108
def z46:Obj:=bO 108
def z47 (P:Params):Obj:=dO [en P "__module__" 322 (.str "sieve.errors" 194),en P "__qualname__" 324 (.str "TooLong" 323),en P "__firstlineno__" 326 (.int 28 325),en P "__init__" 334 (.ref 124),en P "__static_attributes__" 336 (.ref 125)] 5
def z48:Obj:=nO (t3 [(30,4,123)])
def z49:Obj:=cH "TooLong" 317 28 114 320
def z4a:Obj:=rO 116 3 113 (.str "sieve.errors" 194)
def z4b:Obj:=tS ["self","total"] 330
def z4c:Obj:=nF "__init__" "TooLong.__init__" s_TooLong___init__
def z4d:Obj:=cF "__init__" 327 "TooLong.__init__" 30 2 118 332
def z4e:Obj:=uG "__init__" "TooLong.__init__" s_TooLong___init__ m1 123
def z4f:Obj:=tS ["total"] 335
def z50 (P:Params):Obj:=dO [en P "__module__" 322 (.str "sieve.errors" 194),en P "__firstlineno__" 326 (.int 28 325),en P "__init__" 334 (.ref 124),en P "__static_attributes__" 336 (.ref 125),en P "__doc__" 337 .none] 2
def z51:Obj:=⟨.type "type",none,(.cls ⟨"TooLong",[.ref 31],[.ref 127,.ref 31,.type "ValueError",.type "Exception",.type "BaseException",.type "object"],126,"TooLong",true,[],[],false,none,false⟩),⟨[(some (.ref 111)),none,(some (.str "TooLong" 315)),(some (.str "TooLong" 323)),(some (.builtin "ValueError.__new__")),(some (.bool true))]⟩⟩
def z52:Obj:=sO 127
def z53:Obj:=bO 127
def z54 (P:Params):Obj:=dO [en P "__name__" 165 (.str "sieve.rules" 381),en P "__doc__" 166 .none,en P "__package__" 167 .none,en P "__loader__" 168 (.builtin "__main__.__loader__#opaque"),en P "__spec__" 169 .none,en P "__annotations__" 170 (.ref 6),en P "__builtins__" 171 (.ref 4),en P "__file__" 173 (.str "/claim/cut.py" 172),en P "__cached__" 174 .none,en P "_wall" 193 (.ref 21),en P "SieveError" 213 (.ref 31),en P "NoRow" 238 (.ref 51),en P "TwoChains" 263 (.ref 70),en P "NoChain" 288 (.ref 89),en P "Ring" 314 (.ref 108),en P "TooLong" 339 (.ref 127),en P "NoRule" 355 (.ref 139),en P "NoName" 380 (.ref 158),en P "Rule" 419 (.ref 184),en P "Word" 459 (.ref 219),en P "Back" 489 (.ref 245)] 21
def z55:Obj:=nO (t3 [(1,0,20),(5,0,27),(7,0,40),(12,0,59),(17,0,78),(22,0,97),(28,0,116),(33,0,135),(35,0,147),(41,0,166),(48,0,194),(59,0,227)])
def z56:Obj:=⟨.type "type",none,(.cls ⟨"SieveError",[.type "ValueError"],[.ref 31,.type "ValueError",.type "Exception",.type "BaseException",.type "object"],30,"SieveError",true,[],[.ref 51,.ref 70,.ref 89,.ref 108,.ref 127,.ref 139,.ref 158],false,none,false⟩),⟨[(some (.ref 22)),none,(some (.str "SieveError" 196)),(some (.str "SieveError" 204)),(some (.builtin "ValueError.__new__")),(some (.bool true))]⟩⟩
def z57 (P:Params):Obj:=dO [en P "__module__" 347 (.str "sieve.errors" 194),en P "__qualname__" 349 (.str "NoRule" 348),en P "__firstlineno__" 351 (.int 33 350),en P "__static_attributes__" 352 (.ref 137)] 4
def z58:Obj:=cH "NoRule" 342 33 133 345
def z59:Obj:=rO 135 3 132 (.str "sieve.errors" 194)
def z5a (P:Params):Obj:=dO [en P "__module__" 347 (.str "sieve.errors" 194),en P "__firstlineno__" 351 (.int 33 350),en P "__static_attributes__" 352 (.ref 137),en P "__doc__" 353 .none] 2
def z5b:Obj:=⟨.type "type",none,(.cls ⟨"NoRule",[.ref 31],[.ref 139,.ref 31,.type "ValueError",.type "Exception",.type "BaseException",.type "object"],138,"NoRule",true,[],[],false,none,false⟩),⟨[(some (.ref 130)),none,(some (.str "NoRule" 340)),(some (.str "NoRule" 348)),(some (.builtin "ValueError.__new__")),(some (.bool true))]⟩⟩
def z5c:Obj:=sO 139
def z5d:Obj:=bO 139
def z5e (P:Params):Obj:=dO [en P "__module__" 363 (.str "sieve.errors" 194),en P "__qualname__" 365 (.str "NoName" 364),en P "__firstlineno__" 367 (.int 35 366),en P "__init__" 375 (.ref 155),en P "__static_attributes__" 377 (.ref 156)] 5
def z5f:Obj:=nO (t3 [(37,4,154)])
def z60:Obj:=cH "NoName" 358 35 145 361
def z61:Obj:=rO 147 3 144 (.str "sieve.errors" 194)
def z62:Obj:=tS ["self","name"] 371
def z63:Obj:=nF "__init__" "NoName.__init__" s_NoName___init__
def z64:Obj:=cF "__init__" 368 "NoName.__init__" 37 2 149 373
def z65:Obj:=uG "__init__" "NoName.__init__" s_NoName___init__ m1 154
def z66:Obj:=tS ["name"] 376
def z67 (P:Params):Obj:=dO [en P "__module__" 363 (.str "sieve.errors" 194),en P "__firstlineno__" 367 (.int 35 366),en P "__init__" 375 (.ref 155),en P "__static_attributes__" 377 (.ref 156),en P "__doc__" 378 .none] 2
def z68:Obj:=⟨.type "type",none,(.cls ⟨"NoName",[.ref 31],[.ref 158,.ref 31,.type "ValueError",.type "Exception",.type "BaseException",.type "object"],157,"NoName",true,[],[],false,none,false⟩),⟨[(some (.ref 142)),none,(some (.str "NoName" 356)),(some (.str "NoName" 364)),(some (.builtin "ValueError.__new__")),(some (.bool true))]⟩⟩
def z69:Obj:=sO 158
def z6a:Obj:=bO 158
def z6b (P:Params):Obj:=dO [en P "__module__" 390 (.str "sieve.rules" 381),en P "__qualname__" 392 (.str "Rule" 391),en P "__firstlineno__" 394 (.int 41 393),en P "__init__" 402 (.ref 174),en P "fits" 410 (.ref 181),en P "__static_attributes__" 412 (.ref 182)] 6
def z6c:Obj:=nO (t3 [(43,4,173),(46,4,180)])
def z6d:Obj:=cH "Rule" 385 41 164 388
def z6e:Obj:=rO 166 3 163 (.str "sieve.rules" 381)
def z6f:Obj:=tS ["self","box"] 398
def z70:Obj:=nF "__init__" "Rule.__init__" s_Rule___init__
def z71:Obj:=cF "__init__" 395 "Rule.__init__" 43 2 168 400
def z72:Obj:=uG "__init__" "Rule.__init__" s_Rule___init__ m2 173
def z73:Obj:=tS ["self","parcel"] 406
def z74:Obj:=nF "fits" "Rule.fits" s_Rule_fits
def z75:Obj:=cF "fits" 403 "Rule.fits" 46 2 175 408
def z76:Obj:=uG "fits" "Rule.fits" s_Rule_fits m2 180
def z77:Obj:=tS ["box"] 411
def z78 (P:Params):Obj:=dO [en P "__module__" 390 (.str "sieve.rules" 381),en P "__firstlineno__" 394 (.int 41 393),en P "__init__" 402 (.ref 174),en P "fits" 410 (.ref 181),en P "__static_attributes__" 412 (.ref 182),en P "__dict__" 414 (.ref 185),en P "__weakref__" 416 (.ref 186),en P "__doc__" 417 .none] 4
def z79:Obj:=⟨.type "type",none,(.cls ⟨"Rule",[.type "object"],[.ref 184,.type "object"],183,"Rule",true,[],[.ref 219,.ref 245],false,none,false⟩),⟨[none,none,(some (.str "Rule" 383)),(some (.str "Rule" 391)),(some (.builtin "object.__new__")),(some (.bool true))]⟩⟩
def z7a:Obj:=⟨.type "getset_descriptor",none,(.fields ⟨[.str "__dict__" 413,.ref 184,.builtin "function.__dict__",.builtin "function.__dict__#set"]⟩),⟨[]⟩⟩
def z7b:Obj:=⟨.type "getset_descriptor",none,(.fields ⟨[.str "__weakref__" 415,.ref 184,.builtin "ExceptionGroup.__weakref__",.none]⟩),⟨[]⟩⟩
def z7c:Obj:=sO 184
def z7d:Obj:=bO 184
def z7e:Obj:=tO [.ref 184]
def z7f (P:Params):Obj:=dO [en P "__module__" 427 (.str "sieve.rules" 381),en P "__qualname__" 429 (.str "Word" 428),en P "__firstlineno__" 431 (.int 48 430),en P "__init__" 440 (.ref 202),en P "told" 447 (.ref 209),en P "head" 454 (.ref 216),en P "__static_attributes__" 456 (.ref 217)] 7
def z80:Obj:=nO (t3 [(50,4,201),(54,4,208),(57,4,215)])
def z81:Obj:=cH "Word" 422 48 192 425
def z82:Obj:=rO 194 3 191 (.str "sieve.rules" 381)
def z83:Obj:=tS ["self","box","word"] 435
def z84:Obj:=nF "__init__" "Word.__init__" s_Word___init__
def z85:Obj:=cF "__init__" 432 "Word.__init__" 50 3 196 438
def z86:Obj:=uG "__init__" "Word.__init__" s_Word___init__ m2 201
def z87:Obj:=tS ["self"] 444
def z88:Obj:=nF "told" "Word.told" s_Word_told
def z89:Obj:=cF "told" 441 "Word.told" 54 1 203 445
def z8a:Obj:=uG "told" "Word.told" s_Word_told m2 208
def z8b:Obj:=tS ["self"] 451
def z8c:Obj:=nF "head" "Word.head" s_Word_head
def z8d:Obj:=cF "head" 448 "Word.head" 57 1 210 452
def z8e:Obj:=uG "head" "Word.head" s_Word_head m2 215
def z8f:Obj:=tS ["word"] 455
def z90 (P:Params):Obj:=dO [en P "__module__" 427 (.str "sieve.rules" 381),en P "__firstlineno__" 431 (.int 48 430),en P "__init__" 440 (.ref 202),en P "told" 447 (.ref 209),en P "head" 454 (.ref 216),en P "__static_attributes__" 456 (.ref 217),en P "__doc__" 457 .none] 2
def z91:Obj:=⟨.type "type",none,(.cls ⟨"Word",[.ref 184],[.ref 219,.ref 184,.type "object"],218,"Word",true,[],[],false,none,false⟩),⟨[(some (.ref 189)),none,(some (.str "Word" 420)),(some (.str "Word" 428)),(some (.builtin "object.__new__")),(some (.bool true))]⟩⟩
def z92:Obj:=sO 219
def z93:Obj:=bO 219
def z94 (P:Params):Obj:=dO [en P "__module__" 467 (.str "sieve.rules" 381),en P "__qualname__" 469 (.str "Back" 468),en P "__firstlineno__" 471 (.int 59 470),en P "told" 478 (.ref 235),en P "head" 485 (.ref 242),en P "__static_attributes__" 486 (.ref 243)] 6
def z95:Obj:=nO (t3 [(61,4,234),(64,4,241)])
def z96:Obj:=cH "Back" 462 59 225 465
def z97:Obj:=rO 227 3 224 (.str "sieve.rules" 381)
def z98:Obj:=tS ["self"] 475
def z99:Obj:=nF "told" "Back.told" s_Back_told
def z9a:Obj:=cF "told" 472 "Back.told" 61 1 229 476
def z9b:Obj:=uG "told" "Back.told" s_Back_told m2 234
def z9c:Obj:=tS ["self"] 482
def z9d:Obj:=nF "head" "Back.head" s_Back_head
def z9e:Obj:=cF "head" 479 "Back.head" 64 1 236 483
def z9f:Obj:=uG "head" "Back.head" s_Back_head m2 241
def za0 (P:Params):Obj:=dO [en P "__module__" 467 (.str "sieve.rules" 381),en P "__firstlineno__" 471 (.int 59 470),en P "told" 478 (.ref 235),en P "head" 485 (.ref 242),en P "__static_attributes__" 486 (.ref 243),en P "__doc__" 487 .none] 2
def za1:Obj:=⟨.type "type",none,(.cls ⟨"Back",[.ref 184],[.ref 245,.ref 184,.type "object"],244,"Back",true,[],[],false,none,false⟩),⟨[(some (.ref 222)),none,(some (.str "Back" 460)),(some (.str "Back" 468)),(some (.builtin "object.__new__")),(some (.bool true))]⟩⟩
def za2:Obj:=sO 245
def za3:Obj:=bO 245
def za4 (P:Params):Obj:=dO [en P "__name__" 165 (.str "law_sieve_k18_books_refused" 669),en P "__doc__" 166 .none,en P "__package__" 167 .none,en P "__loader__" 168 (.builtin "__main__.__loader__#opaque"),en P "__spec__" 169 .none,en P "__annotations__" 170 (.ref 6),en P "__builtins__" 171 (.ref 4),en P "__file__" 173 (.str "/claim/cut.py" 172),en P "__cached__" 174 .none,en P "_wall" 193 (.ref 21),en P "SieveError" 213 (.ref 31),en P "NoRow" 238 (.ref 51),en P "TwoChains" 263 (.ref 70),en P "NoChain" 288 (.ref 89),en P "Ring" 314 (.ref 108),en P "TooLong" 339 (.ref 127),en P "NoRule" 355 (.ref 139),en P "NoName" 380 (.ref 158),en P "Rule" 419 (.ref 184),en P "Word" 459 (.ref 219),en P "Back" 489 (.ref 245),en P "Call" 529 (.ref 278),en P "rule_of" 536 (.ref 287),en P "MAIN" 540 (.str "main" 539),en P "MOST_LENGTH" 542 (.int 120 541),en P "called_names" 548 (.ref 292),en P "refuse_two_chains" 557 (.ref 299),en P "refuse_missing_chains" 566 (.ref 306),en P "ready_names" 572 (.ref 311),en P "chain_lengths" 578 (.ref 316),en P "first_unmeasured" 584 (.ref 321),en P "ring_among" 594 (.ref 328),en P "Book" 668 (.ref 383),en P "_law_cell_at" 678 (.ref 394),en P "_law_whole" 685 (.ref 401),en P "_law_stream" 696 (.ref 408),en P "_law_box" 702 (.ref 413),en P "_law_names" 708 (.ref 418),en P "_law_chains" 714 (.ref 423),en P "_law_put" 726 (.ref 430),en P "_law_spoiled" 741 (.ref 437),en P "_law_totals" 747 (.ref 442),en P "_law_twice" 757 (.ref 449),en P "_law_lacks" 763 (.ref 454),en P "_law_told" 769 (.ref 459),en P "_law_answers" 784 (.ref 466),en P "law" 790 (.ref 471)] 47
def za5:Obj:=nO (t3 [(1,0,20),(5,0,27),(7,0,40),(12,0,59),(17,0,78),(22,0,97),(28,0,116),(33,0,135),(35,0,147),(41,0,166),(48,0,194),(59,0,227),(66,0,253),(77,0,286),(86,0,291),(88,0,298),(92,0,305),(97,0,310),(104,0,315),(113,0,320),(115,0,327),(122,0,334),(162,0,393),(166,0,400),(168,0,407),(175,0,412),(182,0,417),(196,0,422),(206,0,429),(210,0,436),(224,0,441),(229,0,448),(236,0,453),(243,0,458),(250,0,465),(273,0,470)])
def za6:Obj:=⟨.type "type",none,(.cls ⟨"Rule",[.type "object"],[.ref 184,.type "object"],183,"Rule",true,[],[.ref 219,.ref 245,.ref 278],false,none,false⟩),⟨[none,none,(some (.str "Rule" 383)),(some (.str "Rule" 391)),(some (.builtin "object.__new__")),(some (.bool true))]⟩⟩
def za7 (P:Params):Obj:=dO [en P "__module__" 497 (.str "sieve.rules" 381),en P "__qualname__" 499 (.str "Call" 498),en P "__firstlineno__" 501 (.int 66 500),en P "__init__" 510 (.ref 261),en P "told" 517 (.ref 268),en P "head" 524 (.ref 275),en P "__static_attributes__" 526 (.ref 276)] 7
def za8:Obj:=nO (t3 [(68,4,260),(72,4,267),(75,4,274)])
def za9:Obj:=cH "Call" 492 66 251 495
def zaa:Obj:=rO 253 3 250 (.str "sieve.rules" 381)
def zab:Obj:=tS ["self","box","name"] 505
def zac:Obj:=nF "__init__" "Call.__init__" s_Call___init__
def zad:Obj:=cF "__init__" 502 "Call.__init__" 68 3 255 508
def zae:Obj:=uG "__init__" "Call.__init__" s_Call___init__ m2 260
def zaf:Obj:=tS ["self"] 514
def zb0:Obj:=nF "told" "Call.told" s_Call_told
def zb1:Obj:=cF "told" 511 "Call.told" 72 1 262 515
def zb2:Obj:=uG "told" "Call.told" s_Call_told m2 267
def zb3:Obj:=tS ["self"] 521
def zb4:Obj:=nF "head" "Call.head" s_Call_head
def zb5:Obj:=cF "head" 518 "Call.head" 75 1 269 522
def zb6:Obj:=uG "head" "Call.head" s_Call_head m2 274
def zb7:Obj:=tS ["name"] 525
def zb8 (P:Params):Obj:=dO [en P "__module__" 497 (.str "sieve.rules" 381),en P "__firstlineno__" 501 (.int 66 500),en P "__init__" 510 (.ref 261),en P "told" 517 (.ref 268),en P "head" 524 (.ref 275),en P "__static_attributes__" 526 (.ref 276),en P "__doc__" 527 .none] 2
def zb9:Obj:=⟨.type "type",none,(.cls ⟨"Call",[.ref 184],[.ref 278,.ref 184,.type "object"],277,"Call",true,[],[],false,none,false⟩),⟨[(some (.ref 248)),none,(some (.str "Call" 490)),(some (.str "Call" 498)),(some (.builtin "object.__new__")),(some (.bool true))]⟩⟩
def zba:Obj:=sO 278
def zbb:Obj:=bO 278
def zbc:Obj:=tS ["told"] 533
def zbd:Obj:=nG "rule_of" s_rule_of
def zbe:Obj:=cF "rule_of" 530 "rule_of" 77 1 281 534
def zbf:Obj:=uH "rule_of" s_rule_of m2 286
def zc0:Obj:=nG "called_names" s_called_names
def zc1:Obj:=cG "called_names" 543 "called_names" 86 1 288 546
def zc2:Obj:=uH "called_names" s_called_names m3 291
def zc3:Obj:=tS ["names","place","name"] 552
def zc4:Obj:=nG "refuse_two_chains" s_refuse_two_chains
def zc5:Obj:=cF "refuse_two_chains" 549 "refuse_two_chains" 88 1 293 555
def zc6:Obj:=uH "refuse_two_chains" s_refuse_two_chains m3 298
def zc7:Obj:=tS ["chains","name","called"] 561
def zc8:Obj:=nG "refuse_missing_chains" s_refuse_missing_chains
def zc9:Obj:=cF "refuse_missing_chains" 558 "refuse_missing_chains" 92 1 300 564
def zca:Obj:=uH "refuse_missing_chains" s_refuse_missing_chains m3 305
def zcb:Obj:=nG "ready_names" s_ready_names
def zcc:Obj:=cG "ready_names" 567 "ready_names" 97 2 307 570
def zcd:Obj:=uH "ready_names" s_ready_names m3 310
def zce:Obj:=nG "chain_lengths" s_chain_lengths
def zcf:Obj:=cG "chain_lengths" 573 "chain_lengths" 104 1 312 576
def zd0:Obj:=uH "chain_lengths" s_chain_lengths m3 315
def zd1:Obj:=nG "first_unmeasured" s_first_unmeasured
def zd2:Obj:=cG "first_unmeasured" 579 "first_unmeasured" 113 2 317 582
def zd3:Obj:=uH "first_unmeasured" s_first_unmeasured m3 320
def zd4:Obj:=tS ["chains","lengths","walked","name"] 588
def zd5:Obj:=nG "ring_among" s_ring_among
def zd6:Obj:=cF "ring_among" 585 "ring_among" 115 2 322 592
def zd7:Obj:=uH "ring_among" s_ring_among m3 327
def zd8 (P:Params):Obj:=dO [en P "__module__" 602 (.str "sieve.books" 537),en P "__qualname__" 604 (.str "Book" 603),en P "__firstlineno__" 606 (.int 122 605),en P "__init__" 612 (.ref 340),en P "chain_names" 619 (.ref 347),en P "chain" 627 (.ref 354),en P "rule_at" 636 (.ref 361),en P "length" 643 (.ref 368),en P "length_of" 651 (.ref 375),en P "told" 657 (.ref 380),en P "__static_attributes__" 661 (.ref 381)] 11
def zd9:Obj:=nO (t3 [(124,4,339),(139,4,346),(142,4,353),(147,4,360),(150,4,367),(153,4,374),(156,4,379)])
def zda:Obj:=cH "Book" 597 122 332 600
def zdb:Obj:=rO 334 3 331 (.str "sieve.books" 537)
def zdc:Obj:=nF "__init__" "Book.__init__" s_Book___init__
def zdd:Obj:=cG "__init__" 607 "Book.__init__" 124 3 336 610
def zde:Obj:=uG "__init__" "Book.__init__" s_Book___init__ m3 339
def zdf:Obj:=tS ["self"] 616
def ze0:Obj:=nF "chain_names" "Book.chain_names" s_Book_chain_names
def ze1:Obj:=cF "chain_names" 613 "Book.chain_names" 139 1 341 617
def ze2:Obj:=uG "chain_names" "Book.chain_names" s_Book_chain_names m3 346
def ze3:Obj:=tS ["self","name"] 623
def ze4:Obj:=nF "chain" "Book.chain" s_Book_chain
def ze5:Obj:=cF "chain" 620 "Book.chain" 142 2 348 625
def ze6:Obj:=uG "chain" "Book.chain" s_Book_chain m3 353
def ze7:Obj:=tS ["self","name","index"] 631
def ze8:Obj:=nF "rule_at" "Book.rule_at" s_Book_rule_at
def ze9:Obj:=cF "rule_at" 628 "Book.rule_at" 147 3 355 634
def zea:Obj:=uG "rule_at" "Book.rule_at" s_Book_rule_at m3 360
def zeb:Obj:=tS ["self"] 640
def zec:Obj:=nF "length" "Book.length" s_Book_length
def zed:Obj:=cF "length" 637 "Book.length" 150 1 362 641
def zee:Obj:=uG "length" "Book.length" s_Book_length m3 367
def zef:Obj:=tS ["self","name"] 647
def zf0:Obj:=nF "length_of" "Book.length_of" s_Book_length_of
def zf1:Obj:=cF "length_of" 644 "Book.length_of" 153 2 369 649
def zf2:Obj:=uG "length_of" "Book.length_of" s_Book_length_of m3 374
def zf3:Obj:=nF "told" "Book.told" s_Book_told
def zf4:Obj:=cG "told" 652 "Book.told" 156 1 376 655
def zf5:Obj:=uG "told" "Book.told" s_Book_told m3 379
def zf6:Obj:=tS ["chains","default","lengths"] 658
def zf7 (P:Params):Obj:=dO [en P "__module__" 602 (.str "sieve.books" 537),en P "__firstlineno__" 606 (.int 122 605),en P "__init__" 612 (.ref 340),en P "chain_names" 619 (.ref 347),en P "chain" 627 (.ref 354),en P "rule_at" 636 (.ref 361),en P "length" 643 (.ref 368),en P "length_of" 651 (.ref 375),en P "told" 657 (.ref 380),en P "__static_attributes__" 661 (.ref 381),en P "__dict__" 663 (.ref 384),en P "__weakref__" 665 (.ref 385),en P "__doc__" 666 .none] 4
def zf8:Obj:=⟨.type "type",none,(.cls ⟨"Book",[.type "object"],[.ref 383,.type "object"],382,"Book",true,[],[],false,none,false⟩),⟨[none,none,(some (.str "Book" 595)),(some (.str "Book" 603)),(some (.builtin "object.__new__")),(some (.bool true))]⟩⟩
def zf9:Obj:=⟨.type "getset_descriptor",none,(.fields ⟨[.str "__dict__" 662,.ref 383,.builtin "function.__dict__",.builtin "function.__dict__#set"]⟩),⟨[]⟩⟩
def zfa:Obj:=⟨.type "getset_descriptor",none,(.fields ⟨[.str "__weakref__" 664,.ref 383,.builtin "ExceptionGroup.__weakref__",.none]⟩),⟨[]⟩⟩
def zfb:Obj:=sO 383
def zfc:Obj:=bO 383
def zfd:Obj:=tS ["_law_script","_law_k"] 674
def zfe:Obj:=nG "_law_cell_at" s__law_cell_at
def zff:Obj:=cF "_law_cell_at" 671 "_law_cell_at" 162 2 388 676
def z100:Obj:=uH "_law_cell_at" s__law_cell_at m4 393
def z101:Obj:=tS ["_law_found"] 682
def z102:Obj:=nG "_law_whole" s__law_whole
def z103:Obj:=cF "_law_whole" 679 "_law_whole" 166 1 395 683
def z104:Obj:=uH "_law_whole" s__law_whole m4 400
def z105:Obj:=tS ["_law_cell","_law_many","_law_found","_law_number","_law_k"] 689
def z106:Obj:=nG "_law_stream" s__law_stream
def z107:Obj:=cF "_law_stream" 686 "_law_stream" 168 2 402 694
def z108:Obj:=uH "_law_stream" s__law_stream m4 407
def z109:Obj:=nG "_law_box" s__law_box
def z10a:Obj:=cG "_law_box" 697 "_law_box" 175 1 409 700
def z10b:Obj:=uH "_law_box" s__law_box m4 412
def z10c:Obj:=nG "_law_names" s__law_names
def z10d:Obj:=cG "_law_names" 703 "_law_names" 182 2 414 706
def z10e:Obj:=uH "_law_names" s__law_names m4 417
def z10f:Obj:=nG "_law_chains" s__law_chains
def z110:Obj:=cG "_law_chains" 709 "_law_chains" 196 2 419 712
def z111:Obj:=uH "_law_chains" s__law_chains m4 422
def z112:Obj:=tS ["_law_chains_here","_law_at","_law_where","_law_rule","_law_rules","_law_place"] 718
def z113:Obj:=nG "_law_put" s__law_put
def z114:Obj:=cF "_law_put" 715 "_law_put" 206 4 424 724
def z115:Obj:=uH "_law_put" s__law_put m4 429
def z116:Obj:=tS ["_law_chains_here","_law_strange","_law_draws","_law_bits","_law_many","_law_one","_law_other","_law_k","_law_name"] 730
def z117:Obj:=nG "_law_spoiled" s__law_spoiled
def z118:Obj:=cF "_law_spoiled" 727 "_law_spoiled" 210 4 431 739
def z119:Obj:=uH "_law_spoiled" s__law_spoiled m4 436
def z11a:Obj:=nG "_law_totals" s__law_totals
def z11b:Obj:=cG "_law_totals" 742 "_law_totals" 224 1 438 745
def z11c:Obj:=uH "_law_totals" s__law_totals m4 441
def z11d:Obj:=tS ["_law_chains_here","_law_known","_law_name","_law_rules"] 751
def z11e:Obj:=nG "_law_twice" s__law_twice
def z11f:Obj:=cF "_law_twice" 748 "_law_twice" 229 1 443 755
def z120:Obj:=uH "_law_twice" s__law_twice m4 448
def z121:Obj:=nG "_law_lacks" s__law_lacks
def z122:Obj:=cG "_law_lacks" 758 "_law_lacks" 236 1 450 761
def z123:Obj:=uH "_law_lacks" s__law_lacks m4 453
def z124:Obj:=nG "_law_told" s__law_told
def z125:Obj:=cG "_law_told" 764 "_law_told" 243 2 455 767
def z126:Obj:=uH "_law_told" s__law_told m4 458
def z127:Obj:=tS ["_law_chains_here","_law_bits","_law_total","_law_told_here","_law_twice_here","_law_lacks_here","_law_ring","_law_due","_law_found"] 773
def z128:Obj:=nG "_law_answers" s__law_answers
def z129:Obj:=cF "_law_answers" 770 "_law_answers" 250 3 460 782
def z12a:Obj:=uH "_law_answers" s__law_answers m4 465
def z12b:Obj:=nG "law" s_law
def z12c:Obj:=cG "law" 785 "law" 273 1 467 788
def z12d:Obj:=uH "law" s_law m4 470
abbrev hp:Program:=PySem.Challenge.pw_sieve_k18_books_refused
def hEnv:Env:={ scope:=PySem.Challenge.pw_sieve_k18_books_refused.main.scope,locals:=mainNs,globals:=mainNs,cells:=[],code:=.ref 13,frame:=some 14 }
def hB:List Stmt:=behindTheImports PySem.Challenge.pw_sieve_k18_books_refused
abbrev hC:Code:=.body hB hEnv
abbrev hF:List Frame:=[topFrame ⟨0,0,0,0⟩]
abbrev hAnn:Option Value:=(some (.ref 6))
def hA (P:Params):Heap:=⟨⟨[(boot_o_0 P),(boot_o_1 P),(boot_o_2 P),(boot_o_3 P),(boot_o_4 P),(boot_o_5 P),(boot_o_6 P),(boot_o_7 P),(boot_o_8 P),(boot_o_9 P),(boot_o_10 P),(boot_o_7 P),(boot_o_8 P),z0,z1]⟩,{}⟩
def ls0 (P:Params):List Obj:=[(boot_o_0 P),(boot_o_1 P),(boot_o_2 P),(boot_o_3 P),(boot_o_4 P),(boot_o_5 P),(boot_o_6 P),(boot_o_7 P),(boot_o_8 P),(boot_o_9 P),(boot_o_10 P),(boot_o_7 P),(boot_o_8 P),z0,z1]
def tr0 (P:Params):BT:=mkT 14 (ls0 P)
def ls1 (P:Params):List Obj:=(((ls0 P).set 3 (z2 P)).set 12 z3)++[(boot_o_7 P),(boot_o_8 P),z4,(boot_o_7 P),z5,z6,z7,z8,z9,(za P),(boot_o_7 P),(boot_o_8 P),zb,zc,(boot_o_7 P),(zd P),ze,zf,z10,z11,z12,z9,(z13 P),(boot_o_7 P),z14,z15,z16,(boot_o_7 P),(boot_o_8 P),z17,(boot_o_7 P),z18,z19,z1a,z1b,(z1c P),z1d,z1e,z1f,z12,z9,(z20 P),(boot_o_7 P),z21,z22,z23,(boot_o_7 P),(boot_o_8 P),z24,(boot_o_7 P),z25,z26,z27,z28,(z29 P),z2a,z2b,z2c,z12,z9,(z2d P),(boot_o_7 P),z2e,z2f,z30,(boot_o_7 P),(boot_o_8 P),z31,(boot_o_7 P),z32,z33,z34,z35,(z36 P),z37,z38,z39,z12,z9,(z3a P),(boot_o_7 P),z3b,z3c,z3d,(boot_o_7 P),(boot_o_8 P),z3e,(boot_o_7 P),z3f,z40,z41,z42,(z43 P),z44,z45,z46,z12,z9,(z47 P),(boot_o_7 P),z48,z49,z4a,(boot_o_7 P),(boot_o_8 P),z4b,(boot_o_7 P),z4c,z4d,z4e,z4f,(z50 P),z51,z52,z53]
def tr1 (P:Params):BT:=mkT 14 (ls1 P)
def gr1:List Stmt:=(hB.drop 0).take 8
def ls2 (P:Params):List Obj:=((((ls1 P).set 3 (z54 P)).set 12 z55).set 31 z56)++[z12,z9,(z57 P),(boot_o_7 P),(boot_o_8 P),z58,z59,(boot_o_7 P),(z5a P),z5b,z5c,z5d,z12,z9,(z5e P),(boot_o_7 P),z5f,z60,z61,(boot_o_7 P),(boot_o_8 P),z62,(boot_o_7 P),z63,z64,z65,z66,(z67 P),z68,z69,z6a,(boot_o_7 P),z9,(z6b P),(boot_o_7 P),z6c,z6d,z6e,(boot_o_7 P),(boot_o_8 P),z6f,(boot_o_7 P),z70,z71,z72,(boot_o_7 P),(boot_o_8 P),z73,(boot_o_7 P),z74,z75,z76,z77,(z78 P),z79,z7a,z7b,z7c,z7d,z7e,z9,(z7f P),(boot_o_7 P),z80,z81,z82,(boot_o_7 P),(boot_o_8 P),z83,(boot_o_7 P),z84,z85,z86,(boot_o_7 P),(boot_o_8 P),z87,(boot_o_7 P),z88,z89,z8a,(boot_o_7 P),(boot_o_8 P),z8b,(boot_o_7 P),z8c,z8d,z8e,z8f,(z90 P),z91,z92,z93,z7e,z9,(z94 P),(boot_o_7 P),z95,z96,z97,(boot_o_7 P),(boot_o_8 P),z98,(boot_o_7 P),z99,z9a,z9b,(boot_o_7 P),(boot_o_8 P),z9c,(boot_o_7 P),z9d,z9e,z9f,(boot_o_7 P),(za0 P),za1,za2,za3]
def tr2 (P:Params):BT:=mkT 14 (ls2 P)
def gr2:List Stmt:=(hB.drop 8).take 6
def ls3 (P:Params):List Obj:=((((ls2 P).set 3 (za4 P)).set 12 za5).set 184 za6)++[z7e,z9,(za7 P),(boot_o_7 P),za8,za9,zaa,(boot_o_7 P),(boot_o_8 P),zab,(boot_o_7 P),zac,zad,zae,(boot_o_7 P),(boot_o_8 P),zaf,(boot_o_7 P),zb0,zb1,zb2,(boot_o_7 P),(boot_o_8 P),zb3,(boot_o_7 P),zb4,zb5,zb6,zb7,(zb8 P),zb9,zba,zbb,(boot_o_7 P),(boot_o_8 P),zbc,(boot_o_7 P),zbd,zbe,zbf,(boot_o_7 P),(boot_o_8 P),zc0,zc1,zc2,(boot_o_7 P),(boot_o_8 P),zc3,(boot_o_7 P),zc4,zc5,zc6,(boot_o_7 P),(boot_o_8 P),zc7,(boot_o_7 P),zc8,zc9,zca,(boot_o_7 P),(boot_o_8 P),zcb,zcc,zcd,(boot_o_7 P),(boot_o_8 P),zce,zcf,zd0,(boot_o_7 P),(boot_o_8 P),zd1,zd2,zd3,(boot_o_7 P),(boot_o_8 P),zd4,(boot_o_7 P),zd5,zd6,zd7,(boot_o_7 P),z9,(zd8 P),(boot_o_7 P),zd9,zda,zdb,(boot_o_7 P),(boot_o_8 P),zdc,zdd,zde,(boot_o_7 P),(boot_o_8 P),zdf,(boot_o_7 P),ze0,ze1,ze2,(boot_o_7 P),(boot_o_8 P),ze3,(boot_o_7 P),ze4,ze5,ze6,(boot_o_7 P),(boot_o_8 P),ze7,(boot_o_7 P),ze8,ze9,zea,(boot_o_7 P),(boot_o_8 P),zeb,(boot_o_7 P),zec,zed,zee,(boot_o_7 P),(boot_o_8 P),zef,(boot_o_7 P),zf0,zf1,zf2,(boot_o_7 P),(boot_o_8 P),zf3,zf4,zf5,zf6,(zf7 P),zf8,zf9,zfa,zfb,zfc,(boot_o_7 P),(boot_o_8 P),zfd,(boot_o_7 P),zfe,zff,z100,(boot_o_7 P),(boot_o_8 P),z101,(boot_o_7 P),z102,z103,z104,(boot_o_7 P),(boot_o_8 P),z105,(boot_o_7 P),z106,z107,z108,(boot_o_7 P),(boot_o_8 P),z109,z10a,z10b,(boot_o_7 P),(boot_o_8 P),z10c,z10d,z10e,(boot_o_7 P),(boot_o_8 P),z10f,z110,z111,(boot_o_7 P),(boot_o_8 P),z112,(boot_o_7 P),z113,z114,z115,(boot_o_7 P),(boot_o_8 P),z116,(boot_o_7 P),z117,z118,z119,(boot_o_7 P),(boot_o_8 P),z11a,z11b,z11c,(boot_o_7 P),(boot_o_8 P),z11d,(boot_o_7 P),z11e,z11f,z120,(boot_o_7 P),(boot_o_8 P),z121,z122,z123,(boot_o_7 P),(boot_o_8 P),z124,z125,z126,(boot_o_7 P),(boot_o_8 P),z127,(boot_o_7 P),z128,z129,z12a,(boot_o_7 P),(boot_o_8 P),z12b,z12c,z12d]
def tr3 (P:Params):BT:=mkT 14 (ls3 P)
def gr3:List Stmt:=(hB.drop 14).take 28
def hZ (P:Params):Heap:=⟨⟨(ls3 P)⟩,{}⟩
theorem pre (w:World):(fun os=>topGo treeTable hp w 11 hAnn 12 ⟨boot_heap w.params,Array.mk [],boot_drawn,boot_toks,os⟩ (topStub hp))=fun os=>some (⟨hA w.params,Array.mk [],{},187,os⟩,⟨denote treeTable hC,hC,⟨0,0,0,0⟩,hF⟩):=by kernel_rfl
theorem blk (w:World):(fun os=>segRun treeTable hp w 11 hAnn 1 1 ⟨hA w.params,Array.mk [],{},187,os⟩ (blockOf hB hEnv hC ⟨0,0,0,0⟩ hF))=fun os=>some (.next,SharedT.abs ⟨tr0 w.params,15,{},Array.mk [],{},187,os⟩,hC,⟨0,0,0,0⟩):=by kernel_rfl
theorem pc1 (w:World):(fun os=>segRunT treeTable hp w 11 hAnn 1 1451 ⟨tr0 w.params,15,{},Array.mk [],{},187,os⟩ (PySem.W.piecesOf gr1 hEnv hC ⟨0,0,0,0⟩ hF))=fun os=>some (.next,⟨tr1 w.params,130,{},Array.mk [],{},340,os⟩,hC,⟨28,0,32,26⟩):=by kernel_rfl
theorem pc2 (w:World):(fun os=>segRunT treeTable hp w 11 hAnn 1 1304 ⟨tr1 w.params,130,{},Array.mk [],{},340,os⟩ (PySem.W.piecesOf gr2 hEnv hC ⟨28,0,32,26⟩ hF))=fun os=>some (.next,⟨tr2 w.params,248,{},Array.mk [],{},490,os⟩,hC,⟨59,0,65,16⟩):=by kernel_rfl
theorem pc3 (w:World):(fun os=>segRunT treeTable hp w 11 hAnn 1 1393 ⟨tr2 w.params,248,{},Array.mk [],{},490,os⟩ (PySem.W.piecesOf gr3 hEnv hC ⟨59,0,65,16⟩ hF))=fun os=>some (.next,⟨tr3 w.params,472,{},Array.mk [],{},791,os⟩,hC,⟨273,0,291,98⟩):=by kernel_rfl
theorem fin (w:World):(fun os=>topRun treeTable hp w 11 hAnn 2 (SharedT.abs ⟨tr3 w.params,472,{},Array.mk [],{},791,os⟩) ⟨doneF .next,hC,⟨273,0,291,98⟩,hF⟩)=fun os=>some ⟨hZ w.params,Array.mk [],{},791,os⟩:=by kernel_rfl
theorem bodyEq:hB=gr1++(gr2++(gr3++[])):=by kernel_rfl
abbrev hM:Nat:=(12+(1+(1451+(1304+(1393+2)))))
theorem rest (w:World)(os:OsState):topRun treeTable hp w 11 hAnn (1451+(1304+(1393+2))) (SharedT.abs ⟨tr0 w.params,15,{},Array.mk [],{},187,os⟩) (restOf hB hEnv hC ⟨0,0,0,0⟩ hF)=some ⟨hZ w.params,Array.mk [],{},791,os⟩:=by
 have h:topRun treeTable hp w 11 hAnn (1451+(1304+(1393+2))) (SharedT.abs ⟨tr0 w.params,15,{},Array.mk [],{},187,os⟩) (restOf (gr1++(gr2++(gr3++[]))) hEnv hC ⟨0,0,0,0⟩ hF)=some ⟨hZ w.params,Array.mk [],{},791,os⟩:=piece_app (segRun_of (congrFun (pc1 w) os)) (piece_app (segRun_of (congrFun (pc2 w) os)) (piece_app (segRun_of (congrFun (pc3 w) os)) (piece_nil (congrFun (fin w) os))))
 rw [← bodyEq] at h
 exact h
theorem run (w:World)(os:OsState):topRun treeTable hp w 11 hAnn hM ⟨boot_heap w.params,Array.mk [],boot_drawn,boot_toks,os⟩ (topStub hp)=some ⟨hZ w.params,Array.mk [],{},791,os⟩:=go_top (congrFun (pre w) os) (piece_block (congrFun (blk w) os) (rest w os))
theorem opn:∀ w:World,(fencedOpening treeTable hp w 8416).map (fun s=>(s.heap,s.gens,s.drawn,s.toks))=some (boot_heap w.params,Array.mk [],boot_drawn,boot_toks):=boot_open (by kernel_rfl) (by decide) (fun s=>by kernel_rfl)
theorem siz (w:World):((boot_heap w.params).isNs mainGlobals && (Array.mk []:Array GenState).size == 0,(boot_heap w.params).objs.size,(boot_heap w.params).nsMap mainGlobals "__annotations__")=(true,11,hAnn):=by kernel_rfl
end
end Hd
def kept:List Nat:=[0,2,3,4,5,6,7,8,9,11,12,13,14,15,17,18,19,20,21,22,23,24,25,26,28,29,30,31,32,33,34,35,36,37,38,39,40,41]
def view:Program:={ PySem.Challenge.pw_sieve_k18_books_refused with main:={ PySem.Challenge.pw_sieve_k18_books_refused.main with body:=kept.filterMap fun i=>PySem.Challenge.pw_sieve_k18_books_refused.main.body[i]? } }
abbrev theRow:PySem.W.OpenRow:=PySem.W.OpenLaw.row PySem.Challenge.rw_sieve_k18_books_refused
noncomputable section
open PySem PySem.W PyProof.Rows Hd
variable (w:World)(os:OsState)
def xt:Shared→Bool:=fun s=>xlAt view [] s && recOk (RowW.records (OpenRow.toRowW theRow)) s
abbrev sZ:Shared:=⟨hZ w.params,Array.mk [],{},791,os⟩
theorem lk0:seen (List.map (fun x=>x.name) (recsOf view)) (ownsOf view) [] { heap:=(sZ w os).heap,drawn:={},toks:=(sZ w os).toks,os:=os }=(openGood view []).1:=by kernel_rfl
theorem lk1:(sZ w os).heap.bltView=(openGood view []).2.1:=by kernel_rfl
theorem lk2:((sZ w os).heap.keysOk (looseW view []) (List.map (fun x=>x.name) (recsOf view)) (List.map (fun x=>x.fst) (litsOf view)) (List.map (fun x=>x.name) (clssOf view (looseW view []))) && (sZ w os).heap.accountedOkI (importedModules hp.main.body) && (sZ w os).heap.isNs mainGlobals && (sZ w os).heap.isNs builtinsNs && tablesOk view (sZ w os).heap && xt (sZ w os) && if true=true then (sZ w os).gens.size == 0 else !leftWithCleanup (sZ w os).gens)=(openGood view []).2.2.1:=by kernel_rfl
theorem lk3:tabsOk view (sZ w os)=(openGood view []).2.2.2.1:=by kernel_rfl
theorem lk4:pinSeenD view (drecsOf view) (sZ w os)=(openGood view []).2.2.2.2.1:=by kernel_rfl
theorem lk5:plainSeenE view (looseW view []) (sZ w os)=(openGood view []).2.2.2.2.2.1:=by kernel_rfl
theorem lk6:plainSeenD view [] (sZ w os)=(openGood view []).2.2.2.2.2.2.1:=by kernel_rfl
theorem lk7:wideSeen view (sZ w os)=(openGood view []).2.2.2.2.2.2.2.1:=by kernel_rfl
theorem lk8:clsSeenW view [] (sZ w os)=(openGood view []).2.2.2.2.2.2.2.2:=by kernel_rfl
theorem pr2 {α β:Type}{a:α}{b:β}{p:α×β}(h:a=p.1)(k:b=p.2):(a,b)=p:=Prod.ext h k
theorem lk:openSeen view [] (importedModules hp.main.body) xt true (sZ w os)=openGood view []:=pr2 (lk0 w os) (pr2 (lk1 w os) (pr2 (lk2 w os) (pr2 (lk3 w os) (pr2 (lk4 w os) (pr2 (lk5 w os) (pr2 (lk6 w os) (pr2 (lk7 w os) (lk8 w os))))))))
theorem lkA:(staticsOk (importedModules hp.main.body) (boot_heap w.params) (sZ w os).heap && namesBound hp (sZ w os).heap && gensDone (sZ w os) && laidKept (boot_heap w.params) (sZ w os).heap)=true:=by kernel_rfl
end
end K18
open PySem PySem.W PyProof.Rows
local macro_rules | `(tactic| o_head $H)=>`(tactic| (
  refine holds_open (r:=K18.theRow) (q:=K18.view) (loose:=[]) (N:=8416) (YP:=Hook.says $H) (Ya:=Hook.val $H) (Yf:=Hook.obs $H)
    (XP:=XL K18.view []) (Xt:=K18.xt) ?left (Hook.of $H) (Hook.keeps $H)
    (fun s e=>xl_of s (Bool.and_eq_true_iff.mp e).1) XL.keeps (by rfl) (by rfl) (by rfl)
    (fun s e=>recFacts_of (Bool.and_eq_true_iff.mp e).2) (by rfl) (by assumption) (by decide +kernel) ⟨rfl,rfl,rfl,rfl,rfl,by decide +kernel⟩ ?wit ?go
  (case left=>(refine LeftO.of_pieces (p:=K18.Hd.hp) (q:=K18.view) (loose:=[]) (Xt:=K18.xt) (g0:=true) (H₀:=boot_heap) (H₁:=K18.Hd.hZ) (gs₀:=Array.mk []) (gs₁:=Array.mk []) (d₀:=boot_drawn) (d₁:={}) (k₀:=boot_toks) (k₁:=791) (m₀:=11) (ann:=K18.Hd.hAnn) (M:=K18.Hd.hM) K18.Hd.opn K18.Hd.siz K18.Hd.run (by decide) ?looks; (case looks=>(intro w; refine funext fun os=>K18.pr2 (K18.lkA w os) (K18.pr2 (K18.lk w os) ?_); kernel_rfl))))
  (case wit=>w_witness2)))
set_option maxRecDepth 100000 in
set_option maxHeartbeats 0 in
theorem PySem.Challenge.cw_sieve_k18_books_refused_holds : PySem.Challenge.rw_sieve_k18_books_refused.Holds := by
  w_on; o_law; k_head
  k_fill
  refine K18.walk (l:=PySem.Challenge.rw_sieve_k18_books_refused) rfl rfl (fun w h Y=>PySem.W.kIn_of Y) ?F
  case F =>
    intro w mg fa h KX G hmg
    refine' K18.asm hmg ?D0 ?D1 ?D2 ?D3 ?D4 ?D5 ?D6 ?D7 ?D8 ?D9 ?D10 ?D11 ?D12 ?D13 ?D14 ?D15 ?D16 ?D17 ?D18 ?D19 ?D20 ?D21 ?c0 ?c1 ?b0 ?b1 ?b2 ?b3 ?b4 ?b5 ?b6 ?b7 ?b8 ?b9 ?b10 ?b11 ?b12 ?b13 ?b14 ?b15 ?m0 ?m1 ?m2 ?m3 ?m4 ?m5 ?m6 ?m7 ?m8 ?m9 ?m10 ?m11 ?m12 ?f0 ?f1 ?f2 ?f3 ?f4 ?f5 ?f6 ?f7 ?f8 ?f9 ?f10 ?f11 ?f12 ?f13 ?f14 ?f15 ?f16 ?f17 ?f18 ?f19 ?f20 ?f21 ?f22 ?f23 ?f24 ?f25 ?f26 ?f27 ?f28 ?f29 ?f30 ?f31 ?f32 ?f33 ?f34 ?f35 ?f36 ?f37 ?f38 ?f39 ?f40 ?f41 ?f42 ?f43 ?f44 ?f45 ?f46 ?f47 ?f48 ?f49 ?f50 ?f51 ?f52 ?f53 ?f54 ?f55 ?e0 ?e1 ?e2 ?e3 ?e4 ?e5 ?e6 ?e7 ?tx ?x0 ?x1 ?x2 ?x3
    case D0=>(refine' Sv.mk_def KX G ?a ?l ?c ?k); (case a=>k_is); (case l=>k_is); (case c=>k_is); (case k=>k_is)
    case D1=>(refine' Sv.mk_def KX G ?a ?l ?c ?k); (case a=>k_is); (case l=>k_is); (case c=>k_is); (case k=>k_is)
    case D2=>(refine' Sv.mk_def KX G ?a ?l ?c ?k); (case a=>k_is); (case l=>k_is); (case c=>k_is); (case k=>k_is)
    case D3=>(refine' Sv.mk_def KX G ?a ?l ?c ?k); (case a=>k_is); (case l=>k_is); (case c=>k_is); (case k=>k_is)
    case D4=>(refine' Sv.mk_def KX G ?a ?l ?c ?k); (case a=>k_is); (case l=>k_is); (case c=>k_is); (case k=>k_is)
    case D5=>(refine' Sv.mk_def KX G ?a ?l ?c ?k); (case a=>k_is); (case l=>k_is); (case c=>k_is); (case k=>k_is)
    case D6=>(refine' Sv.mk_def KX G ?a ?l ?c ?k); (case a=>k_is); (case l=>k_is); (case c=>k_is); (case k=>k_is)
    case D7=>(refine' Sv.mk_def KX G ?a ?l ?c ?k); (case a=>k_is); (case l=>k_is); (case c=>k_is); (case k=>k_is)
    case D8=>(refine' Sv.mk_def KX G ?a ?l ?c ?k); (case a=>k_is); (case l=>k_is); (case c=>k_is); (case k=>k_is)
    case D9=>(refine' Sv.mk_def KX G ?a ?l ?c ?k); (case a=>k_is); (case l=>k_is); (case c=>k_is); (case k=>k_is)
    case D10=>(refine' Sv.mk_def KX G ?a ?l ?c ?k); (case a=>k_is); (case l=>k_is); (case c=>k_is); (case k=>k_is)
    case D11=>(refine' Sv.mk_def KX G ?a ?l ?c ?k); (case a=>k_is); (case l=>k_is); (case c=>k_is); (case k=>k_is)
    case D12=>(refine' Sv.mk_def KX G ?a ?l ?c ?k); (case a=>k_is); (case l=>k_is); (case c=>k_is); (case k=>k_is)
    case D13=>(refine' Sv.mk_def KX G ?a ?l ?c ?k); (case a=>k_is); (case l=>k_is); (case c=>k_is); (case k=>k_is)
    case D14=>(refine' Sv.mk_def KX G ?a ?l ?c ?k); (case a=>k_is); (case l=>k_is); (case c=>k_is); (case k=>k_is)
    case D15=>(refine' Sv.mk_def KX G ?a ?l ?c ?k); (case a=>k_is); (case l=>k_is); (case c=>k_is); (case k=>k_is)
    case D16=>(refine' Sv.mk_def KX G ?a ?l ?c ?k); (case a=>k_is); (case l=>k_is); (case c=>k_is); (case k=>k_is)
    case D17=>(refine' Sv.mk_def KX G ?a ?l ?c ?k); (case a=>k_is); (case l=>k_is); (case c=>k_is); (case k=>k_is)
    case D18=>(refine' Sv.mk_def KX G ?a ?l ?c ?k); (case a=>k_is); (case l=>k_is); (case c=>k_is); (case k=>k_is)
    case D19=>(refine' Sv.mk_def KX G ?a ?l ?c ?k); (case a=>k_is); (case l=>k_is); (case c=>k_is); (case k=>k_is)
    case D20=>(refine' Sv.mk_def KX G ?a ?l ?c ?k); (case a=>k_is); (case l=>k_is); (case c=>k_is); (case k=>k_is)
    case D21=>(refine' Sv.mk_def KX G ?a ?l ?c ?k); (case a=>k_is); (case l=>k_is); (case c=>k_is); (case k=>k_is)
    case c0=>(refine' ⟨_,PySem.W.mg_of KX G ?a,?r⟩); (case a=>k_is); (case r=>exact ⟨_,rfl⟩)
    case c1=>(refine' ⟨_,PySem.W.mg_of KX G ?a,?r⟩); (case a=>k_is); (case r=>exact ⟨_,rfl⟩)
    case b0=>(refine' PySem.W.mg_none_of KX G ?a); (case a=>k_is)
    case b1=>(refine' PySem.W.mg_none_of KX G ?a); (case a=>k_is)
    case b2=>(refine' PySem.W.mg_none_of KX G ?a); (case a=>k_is)
    case b3=>(refine' PySem.W.mg_none_of KX G ?a); (case a=>k_is)
    case b4=>(refine' PySem.W.mg_none_of KX G ?a); (case a=>k_is)
    case b5=>(refine' PySem.W.mg_none_of KX G ?a); (case a=>k_is)
    case b6=>(refine' PySem.W.mg_none_of KX G ?a); (case a=>k_is)
    case b7=>(refine' PySem.W.mg_none_of KX G ?a); (case a=>k_is)
    case b8=>(refine' PySem.W.mg_none_of KX G ?a); (case a=>k_is)
    case b9=>(refine' PySem.W.mg_none_of KX G ?a); (case a=>k_is)
    case b10=>(refine' PySem.W.mg_none_of KX G ?a); (case a=>k_is)
    case b11=>(refine' PySem.W.mg_none_of KX G ?a); (case a=>k_is)
    case b12=>(refine' PySem.W.mg_none_of KX G ?a); (case a=>k_is)
    case b13=>(refine' PySem.W.mg_none_of KX G ?a); (case a=>k_is)
    case b14=>(refine' PySem.W.mg_none_of KX G ?a); (case a=>k_is)
    case b15=>(refine' PySem.W.mg_none_of KX G ?a); (case a=>k_is)
    case m0=>(refine' PySem.W.mg_of KX G ?a); (case a=>k_is)
    case m1=>(refine' PySem.W.mg_of KX G ?a); (case a=>k_is)
    case m2=>(refine' PySem.W.mg_of KX G ?a); (case a=>k_is)
    case m3=>(refine' PySem.W.mg_of KX G ?a); (case a=>k_is)
    case m4=>(refine' PySem.W.mg_of KX G ?a); (case a=>k_is)
    case m5=>(refine' PySem.W.mg_of KX G ?a); (case a=>k_is)
    case m6=>(refine' PySem.W.mg_of KX G ?a); (case a=>k_is)
    case m7=>(refine' PySem.W.mg_of KX G ?a); (case a=>k_is)
    case m8=>(refine' PySem.W.mg_of KX G ?a); (case a=>k_is)
    case m9=>(refine' PySem.W.mg_of KX G ?a); (case a=>k_is)
    case m10=>(refine' PySem.W.mg_of KX G ?a); (case a=>k_is)
    case m11=>(refine' PySem.W.mg_of KX G ?a); (case a=>k_is)
    case m12=>(refine' PySem.W.mg_of KX G ?a); (case a=>k_is)
    case f0=>(constructor <;> first | k_is | kernel_rfl)
    case f1=>k_is
    case f2=>k_is
    case f3=>k_is
    case f4=>(constructor <;> first | k_is | kernel_rfl)
    case f5=>(constructor <;> first | k_is | kernel_rfl)
    case f6=>k_is
    case f7=>k_is
    case f8=>(constructor <;> first | k_is | kernel_rfl)
    case f9=>(constructor <;> first | k_is | kernel_rfl)
    case f10=>k_is
    case f11=>k_is
    case f12=>(constructor <;> first | k_is | kernel_rfl)
    case f13=>(constructor <;> first | k_is | kernel_rfl)
    case f14=>k_is
    case f15=>k_is
    case f16=>(constructor <;> first | k_is | kernel_rfl)
    case f17=>(constructor <;> first | k_is | kernel_rfl)
    case f18=>k_is
    case f19=>k_is
    case f20=>kit_is
    case f21=>kit_is
    case f22=>kit_is
    case f23=>kit_is
    case f24=>kit_is
    case f25=>kit_is
    case f26=>kit_is
    case f27=>kit_is
    case f28=>kit_is
    case f29=>kit_is
    case f30=>kit_is
    case f31=>kit_is
    case f32=>kit_is
    case f33=>kit_is
    case f34=>kit_is
    case f35=>kit_is
    case f36=>kit_is
    case f37=>kit_is
    case f38=>kit_is
    case f39=>kit_is
    case f40=>kit_is
    case f41=>kit_is
    case f42=>kit_is
    case f43=>kit_is
    case f44=>kit_is
    case f45=>kit_is
    case f46=>kit_is
    case f47=>kit_is
    case f48=>kit_is
    case f49=>kit_is
    case f50=>kit_is
    case f51=>kit_is
    case f52=>kit_is
    case f53=>kit_is
    case f54=>kit_is
    case f55=>kit_is
    case e0=>(refine' Sv.mk_cdef ?a ?l ?c ?k ?g ?r); (case a=>k_is); (case l=>k_is); (case c=>k_is); (case k=>k_is); (case g=>k_is); (case r=>k_is)
    case e1=>(refine' Sv.mk_mdef ?a ?l ?c ?k ?n); (case a=>k_is); (case l=>k_is); (case c=>k_is); (case k=>k_is); (case n=>k_is)
    case e2=>(refine' Sv.mk_mdef ?a ?l ?c ?k ?n); (case a=>k_is); (case l=>k_is); (case c=>k_is); (case k=>k_is); (case n=>k_is)
    case e3=>(refine' Sv.mk_mdef ?a ?l ?c ?k ?n); (case a=>k_is); (case l=>k_is); (case c=>k_is); (case k=>k_is); (case n=>k_is)
    case e4=>(refine' Sv.mk_mdef ?a ?l ?c ?k ?n); (case a=>k_is); (case l=>k_is); (case c=>k_is); (case k=>k_is); (case n=>k_is)
    case e5=>(refine' Sv.mk_mdef ?a ?l ?c ?k ?n); (case a=>k_is); (case l=>k_is); (case c=>k_is); (case k=>k_is); (case n=>k_is)
    case e6=>(refine' Sv.mk_mdef ?a ?l ?c ?k ?n); (case a=>k_is); (case l=>k_is); (case c=>k_is); (case k=>k_is); (case n=>k_is)
    case e7=>(refine' Sv.mk_mdef ?a ?l ?c ?k ?n); (case a=>k_is); (case l=>k_is); (case c=>k_is); (case k=>k_is); (case n=>k_is)
    case tx=>(constructor; (constructor <;> first | k_is | kit_is); all_goals (first | k_is | kit_is))
    case x0=>(refine' Sv.mk_xdef KX G ?a ?lk ?tl ?ns ?ini ?l ?c ?k); (case a=>k_is); (case lk=>k_is); (case tl=>kernel_rfl); (case ns=>kernel_rfl); (case ini=>k_is); (case l=>k_is); (case c=>k_is); (case k=>k_is)
    case x1=>(refine' Sv.mk_xdef KX G ?a ?lk ?tl ?ns ?ini ?l ?c ?k); (case a=>k_is); (case lk=>k_is); (case tl=>kernel_rfl); (case ns=>kernel_rfl); (case ini=>k_is); (case l=>k_is); (case c=>k_is); (case k=>k_is)
    case x2=>(refine' Sv.mk_xdef KX G ?a ?lk ?tl ?ns ?ini ?l ?c ?k); (case a=>k_is); (case lk=>k_is); (case tl=>kernel_rfl); (case ns=>kernel_rfl); (case ini=>k_is); (case l=>k_is); (case c=>k_is); (case k=>k_is)
    case x3=>(refine' Sv.mk_xdef KX G ?a ?lk ?tl ?ns ?ini ?l ?c ?k); (case a=>k_is); (case lk=>k_is); (case tl=>kernel_rfl); (case ns=>kernel_rfl); (case ini=>k_is); (case l=>k_is); (case c=>k_is); (case k=>k_is)
