import PyProof.Rows.All
import PyProof.ExcArgs
import PyProof.FitsBits
import Wide.All
import OpenK.AllK
import Wide.FinOn
import Lean
import PyProof.EqAt
import PyProof.EqKinds
import PyProof.TupleCall
import PyProof.NeData
import PyProof.ZipIter
import PyProof.EnumMake
import KE.BitLaws
import KE.IntBitsLaws
import KE.KIntText
import KE.IntTextLaws
import PyProof.ExcClass3
import PyProof.ExcInit
import PyProof.InstStoreFacts
import PyProof.DictWalks
import KE.KDictList
import PyProof.Rows.SumAny
import PyProof.StrBlockI
import PyProof.SliceStr2
import KE.KRevIter
import PyProof.Rows.GenSrcRange
import PyProof.ListRange
import PyProof.AutoSeq1
import PyProof.ReprHeadsTuple
import PyProof.StrBlock2
import PySem.Challenge.RW_sieve_k16_rows_refused
set_option Elab.async false
set_option linter.all false
set_option maxRecDepth 100000
-- CHANGE: your row's module here,as the last of these rows
namespace L2
open PySem PySem.Spec PyProof.Rows
abbrev Key:=Sum Int Str
def keyIs:Key→Value→Bool
  | .inl k,v=>Value.isInt k v
  | .inr x,v=>Value.isStrOf x v
def keyH (w:World):Key→Int
  | .inl k=>hashInt k
  | .inr x=>hashStr w x
theorem keyIs_shape:∀ {k:Key} {v:Value},keyIs k v=true→(∃ i t,k=Sum.inl i∧v=Value.int i t)∨(∃ x t,k=Sum.inr x∧v=Value.str x t)
  | .inl i,v,h=>by
    obtain ⟨t,e⟩:=Value.isInt_shape (k:=i) (v:=v) h
    exact .inl ⟨i,t,rfl,e⟩
  | .inr x,v,h=>by
    obtain ⟨t,e⟩:=Value.isStrOf_shape (x:=x) (v:=v) h
    exact .inr ⟨x,t,rfl,e⟩
theorem keyIs_int (i:Int)(t:Tok):keyIs (.inl i) (.int i t)=true:=by simp [keyIs,Value.isInt]
theorem keyIs_str (x:Str)(t:Tok):keyIs (.inr x) (.str x t)=true:=by simp [keyIs,Value.isStrOf]
theorem key_ll (a b:Int):decide ((Sum.inl a:Key)=Sum.inl b)=(a == b):=by
  by_cases e:a=b
  · subst e; simp
  · have h:¬ (Sum.inl a:Key)=Sum.inl b:=fun q=>e (Sum.inl.inj q)
    rw [decide_eq_false h]
    exact (beq_eq_false_iff_ne.mpr e).symm
theorem key_rr (a b:Str):decide ((Sum.inr a:Key)=Sum.inr b)=decide (a=b):=by
  by_cases e:a=b
  · subst e; simp
  · have h:¬ (Sum.inr a:Key)=Sum.inr b:=fun q=>e (Sum.inr.inj q)
    rw [decide_eq_false h,decide_eq_false e]
theorem key_lr (a:Int)(b:Str):decide ((Sum.inl a:Key)=Sum.inr b)=false:=decide_eq_false (fun q=>nomatch q)
theorem key_rl (a:Str)(b:Int):decide ((Sum.inr a:Key)=Sum.inl b)=false:=decide_eq_false (fun q=>nomatch q)
def mixKind (prog:Program)(w:World):PySem.KeyKind prog w Key where
  is:=keyIs
  hash:=keyH w
  inj:=fun v a b ha hb=>by
    rcases keyIs_shape ha with ⟨i,t,rfl,rfl⟩ | ⟨x,t,rfl,rfl⟩
    · rcases keyIs_shape hb with ⟨j,u,rfl,e⟩ | ⟨y,u,rfl,e⟩
      · injection e with e1 _; rw [e1]
      · exact nomatch e
    · rcases keyIs_shape hb with ⟨j,u,rfl,e⟩ | ⟨y,u,rfl,e⟩
      · exact nomatch e
      · injection e with e1 _; rw [e1]
  byValue:=fun k v h=>by
    rcases keyIs_shape h with ⟨i,t,rfl,rfl⟩ | ⟨x,t,rfl,rfl⟩ <;> rfl
  pyHash:=fun hv h=>by
    rcases keyIs_shape hv with ⟨i,t,rfl,rfl⟩ | ⟨x,t,rfl,rfl⟩
    · exact wpAny_pyHash_int h
    · exact wpAny_pyHash_str h
  eqBool:=fun hu hv h=>by
    rcases keyIs_shape hu with ⟨i,t,rfl,rfl⟩ | ⟨x,t,rfl,rfl⟩
    · rcases keyIs_shape hv with ⟨j,u,rfl,rfl⟩ | ⟨y,u,rfl,rfl⟩
      · rw [key_ll] at h; exact wpAny_eqBool_int h
      · rw [key_lr] at h; exact SeqAt.EqAt.int_str i t y u _ _ _ _ h
    · rcases keyIs_shape hv with ⟨j,u,rfl,rfl⟩ | ⟨y,u,rfl,rfl⟩
      · rw [key_rl] at h; exact SeqAt.EqAt.str_int x t j u _ _ _ _ h
      · rw [key_rr] at h; exact wpAny_eqBool_str h
  «strs»:=fun k x t v h=>by
    rcases keyIs_shape h with ⟨i,u,rfl,e⟩ | ⟨y,u,rfl,e⟩
    · exact nomatch e
    · injection e with e1 _
      subst e1
      cases v <;> rfl
theorem mixKind_int (prog:Program)(w:World)(i:Int)(t:Tok):(mixKind prog w).is (.inl i) (.int i t)=true:=keyIs_int i t
theorem mixKind_str (prog:Program)(w:World)(x:Str)(t:Tok):(mixKind prog w).is (.inr x) (.str x t)=true:=keyIs_str x t
end L2
namespace L2
open PySem PySem.Spec PyProof.Rows
inductive V where
  | non | bl (b:Bool) | int (i:Int) | str (x:Str) | byt (b:Array UInt8) | flt (b:UInt64) | ref (a:Addr) | ty (n:String)
  deriving DecidableEq
def RelV:V→Value→Prop
  | .non,u=>u=Value.none
  | .bl b,u=>u=Value.bool b
  | .int i,u=>∃ t,u=Value.int i t
  | .str x,u=>∃ t,u=Value.str x t
  | .byt b,u=>∃ t,u=Value.bytes b t
  | .flt b,u=>∃ t,u=Value.float b t
  | .ref a,u=>u=Value.ref a
  | .ty n,u=>u=Value.type n
abbrev Vals:List V→List Value→Prop:=Paired RelV
theorem Vals.length {xs:List V}{us:List Value}(r:Vals xs us):xs.length=us.length:=Paired.length r
theorem Vals.get:∀ {xs:List V} {us:List Value} {i:Nat} {x:V},Vals xs us→xs[i]?=some x→∃ u,us[i]?=some u∧RelV x u
  | _,_,_,_,.nil,e=>by simp at e
  | _,_,0,_,.cons r _,e=>by simp at e; subst e; exact ⟨_,rfl,r⟩
  | _,_,i+1,x,.cons _ t,e=>by
    obtain ⟨u,h1,h2⟩:=Vals.get (i:=i) (x:=x) t (by simpa using e)
    exact ⟨u,by simpa using h1,h2⟩
theorem Vals.append:∀ {xs ys:List V} {us ws:List Value},Vals xs us→Vals ys ws→Vals (xs++ys) (us++ws)
  | _,_,_,_,.nil,s=>s
  | _,_,_,_,.cons r t,s=>.cons r (Vals.append t s)
theorem Vals.take:∀ {xs:List V} {us:List Value} (n:Nat),Vals xs us→Vals (xs.take n) (us.take n)
  | _,_,0,_=>.nil
  | _,_,_+1,.nil=>.nil
  | _,_,n+1,.cons r t=>.cons r (Vals.take n t)
theorem Vals.drop:∀ {xs:List V} {us:List Value} (n:Nat),Vals xs us→Vals (xs.drop n) (us.drop n)
  | _,_,0,r=>r
  | _,_,_+1,.nil=>.nil
  | _,_,n+1,.cons _ t=>Vals.drop n t
def RelO:Option V→Option Value→Prop
  | some v,some u=>RelV v u
  | none,none=>True
  | _,_=>False
def KV {κ:Type}:List (κ×V)→List (κ×Value)→Prop:=Paired fun (p:κ×V) (q:κ×Value)=>p.1=q.1∧RelV p.2 q.2
def kV:Key→V
  | .inl i=>.int i
  | .inr x=>.str x
inductive HO where
  | lst (xs:List V)
  | tup (xs:List V)
  | dK (kvs:List (Key×V)) | dT (kvs:List (List Key×V))
  | set (S:Int→Bool) (n:Nat)
  | ins (C dx:Addr) (fs:List (Str×V))
  | own (x:Addr)
  | xd (fs:List (Str×V))
  | met (f x:Addr)
  | rng (lo hi:Int)
  | frz (o:Obj) (u:HO)
  | tbl (ps:Array Value)
  | ext (φ:Heap→Prop)
abbrev Hp:=Addr→Option HO
def upd (H:Hp)(a:Addr)(o:HO):Hp:=fun b=>if b=a then some o else H b
theorem upd_same {H:Hp}{a:Addr}{o:HO}:upd H a o a=some o:=by unfold upd; rw [if_pos rfl]
theorem upd_ne {H:Hp}{a b:Addr}{o:HO}(h:b≠a):upd H a o b=H b:=by unfold upd; rw [if_neg h]
theorem upd_upd {H:Hp}{a:Addr}{o u:HO}:upd (upd H a o) a u=upd H a u:=by
  funext b; unfold upd; split <;> rfl
theorem ne_of {H:Hp}{a b:Addr}{o u:HO}(h:H a=some o)(h':H b=some u)(d:o≠u):a≠b:=by
  intro e; subst e; rw [h] at h'; exact d (Option.some.inj h')
theorem ne_of_none {H:Hp}{a b:Addr}{o:HO}(h:H a=some o)(h':H b=none):a≠b:=by
  intro e; subst e; rw [h] at h'; cases h'
section
variable (P:Program)(w:World)
def ObjOk (H:Hp)(h:Heap)(a:Addr):HO→Prop
  | .lst xs=>xs.length≤sizeLine∧∃ (its:List Value) (n:Nat),Vals xs its∧h.get? a=some { cls:=.type "list",data:=.seq its.toArray n }
  | .tup xs=>xs.length≤sizeLine∧∃ its:List Value,Vals xs its∧IsTup h a its.toArray
  | .dK kvs=>kvs.length≤sizeLine∧(a == sysModules)=false∧∃ vs,KV kvs vs∧h.DictOf (mixKind P w) a vs
  | .dT kvs=>kvs.length≤sizeLine∧(a == sysModules)=false∧∃ xs:List (List Key×Addr×Value),
      Paired (fun (p:List Key×V) (q:List Key×Addr×Value)=>p.1=q.1∧H q.2.1=some (.tup (p.1.map kV))∧RelV p.2 q.2.2) kvs xs ∧
      ∃ o es ep,h.get? a=some o∧o.ExactDict∧o.data=.dict es ep∧es.toList=xs.map (entryOfKey (tupleKind (mixKind P w)))∧(xs.map (·.1)).Nodup
  | .set S n=>h.SetOf (intKind P w) a S n
  | .ins C dx fs=>H dx=some (.own a)∧fs.length≤1000∧dx≠a∧h.get? a=some (PySem.W.instObj C dx) ∧
      ∃ mA,h.Ns1 dx mA∧(∀ f,RelO (fs.lookup f) (mA f))∧PySem.Within mA (fs.map (·.1))
  | .own _=>∃ o,h.get? a=some o
  | .xd fs=>∃ mA,h.Ns1 a mA∧∀ f,RelO (fs.lookup f) (mA f)
  | .rng lo hi=>∃ t u v,h.get? a=some { cls:=.type "range",data:=.fields #[.int lo t,.int hi u,.int 1 v] }
  | .frz o u=>h.get? a=some o∧ObjOk H h a u
  | .tbl ps=>h.get? a=some { cls:=.none,data:=.fields ps }
  | .met f x=>h.get? a=some (PySem.W.methodObj (.ref f) (.ref x))
  | .ext φ=>φ h∧(∃ o,h.get? a=some o)∧∀ h1 h2:Heap,φ h1→(∀ o,h1.get? a=some o→h2.get? a=some o)→φ h2
def HOk (H:Hp)(h:Heap):Prop:=∀ a o,H a=some o→ObjOk P w H h a o
end
section
variable {P:Program}{w:World}{H H':Hp}{h h':Heap}{a:Addr}{o:HO}
theorem ObjOk.lt (x:ObjOk P w H h a o):a<h.objs.size:=by
  cases o with
  | lst xs=>obtain ⟨_,_,_,_,e⟩:=x; exact Heap.lt_size e
  | tup xs=>obtain ⟨_,_,_,p⟩:=x; exact p.lt
  | dK kvs=>obtain ⟨_,_,_,_,o,_,_,e,_⟩:=x; exact Heap.lt_size e
  | dT kvs=>obtain ⟨_,_,_,_,o,_,_,e,_⟩:=x; exact Heap.lt_size e
  | set S n=>obtain ⟨o,_,_,_,e,_⟩:=x; exact Heap.lt_size e
  | ins C dx fs=>obtain ⟨_,_,_,e,_⟩:=x; exact Heap.lt_size e
  | own y=>obtain ⟨_,e⟩:=x; exact Heap.lt_size e
  | xd fs=>obtain ⟨_,⟨_,_,_,e,_⟩,_⟩:=x; exact Heap.lt_size e
  | rng lo hi=>obtain ⟨_,_,_,e⟩:=x; exact Heap.lt_size e
  | frz ob u=>obtain ⟨e,_⟩:=x; exact Heap.lt_size e
  | tbl ps=>exact Heap.lt_size (show h.get? a=some _ from x)
  | met f y=>exact Heap.lt_size (show h.get? a=some _ from x)
  | ext φ=>obtain ⟨_,⟨_,e⟩,_⟩:=x; exact Heap.lt_size e
theorem Paired.mapP {α β:Type}{F G:α→β→Prop}:∀ {l₁:List α} {l₂:List β},Paired F l₁ l₂→(∀ a b,F a b→G a b)→Paired G l₁ l₂
  | _,_,.nil,_=>.nil
  | _,_,.cons r t,f=>.cons (f _ _ r) (Paired.mapP t f)
theorem ObjOk.stay (x:ObjOk P w H h a o)(k:∀ b u,(b=a∨H b=some (.own a))→h.get? b=some u→h'.get? b=some u)
    (ho:∀ b,H b=some (.own a)→H' b=some (.own a)) (ht:∀ b xs,H b=some (.tup xs)→H' b=some (.tup xs)):ObjOk P w H' h' a o:=by
  induction o with
  | lst xs=>obtain ⟨z,its,n,r,e⟩:=x; exact ⟨z,its,n,r,k _ _ (.inl rfl) e⟩
  | tup xs=>obtain ⟨z,its,r,ob,e,c⟩:=x; exact ⟨z,its,r,ob,k _ _ (.inl rfl) e,c⟩
  | dK kvs=>obtain ⟨z,y,vs,r,ob,es,ep,e,c⟩:=x; exact ⟨z,y,vs,r,ob,es,ep,k _ _ (.inl rfl) e,c⟩
  | dT kvs =>
    obtain ⟨z,y,xs,r,ob,es,ep,e,c⟩:=x
    exact ⟨z,y,xs,Paired.mapP r fun p q z=>⟨z.1,ht _ _ z.2.1,z.2.2⟩,ob,es,ep,k _ _ (.inl rfl) e,c⟩
  | set S n=>obtain ⟨ob,es,ep,t,e,c⟩:=x; exact ⟨ob,es,ep,t,k _ _ (.inl rfl) e,c⟩
  | ins C dx fs =>
    obtain ⟨d,z,ne,e,mA,⟨od,es,ep,e2,c⟩,r⟩:=x
    exact ⟨ho _ d,z,ne,k _ _ (.inl rfl) e,mA,⟨od,es,ep,k _ _ (.inr d) e2,c⟩,r⟩
  | own y=>obtain ⟨ob,e⟩:=x; exact ⟨ob,k _ _ (.inl rfl) e⟩
  | xd fs=>obtain ⟨mA,⟨od,es,ep,e,c⟩,r⟩:=x; exact ⟨mA,⟨od,es,ep,k _ _ (.inl rfl) e,c⟩,r⟩
  | rng lo hi=>obtain ⟨t,u,v,e⟩:=x; exact ⟨t,u,v,k _ _ (.inl rfl) e⟩
  | frz ob u ih=>obtain ⟨e,q⟩:=x; exact ⟨k _ _ (.inl rfl) e,ih q⟩
  | tbl ps =>
    have e:h.get? a=some { cls:=.none,data:=.fields ps }:=x
    show h'.get? a=some { cls:=.none,data:=.fields ps }
    exact k a _ (.inl rfl) e
  | met f y =>
    have e:h.get? a=some (PySem.W.methodObj (.ref f) (.ref y)):=x
    show h'.get? a=some (PySem.W.methodObj (.ref f) (.ref y))
    exact k a _ (.inl rfl) e
  | ext φ=>obtain ⟨p,⟨o,e⟩,st⟩:=x; exact ⟨st _ _ p fun o q=>k _ _ (.inl rfl) q,⟨o,k _ _ (.inl rfl) e⟩,st⟩
theorem HOk.lt (x:HOk P w H h)(e:H a=some o):a<h.objs.size:=(x a o e).lt
theorem HOk.fresh (x:HOk P w H h)(e:h.objs.size≤a):H a=none:=by
  cases q:H a with
  | none=>rfl
  | some u=>exact absurd (Nat.lt_of_lt_of_le (x.lt q) e) (Nat.lt_irrefl _)
theorem HOk.kept (x:HOk P w H h)(k:∀ b u,h.get? b=some u→h'.get? b=some u):HOk P w H h':=fun a o e =>
  (x a o e).stay (fun b u _ q=>k b u q) (fun _ q=>q) fun _ _ q=>q
theorem HOk.laid (x:HOk P w H h)(k:∀ b u,h.get? b=some u→h'.get? b=some u)(hp:h.objs.size≤a)(new:ObjOk P w (upd H a o) h' a o):HOk P w (upd H a o) h':=fun b u e=>by
  have hn:=x.fresh hp
  by_cases hb:b=a
  · subst hb; rw [upd_same] at e; cases e; exact new
  · rw [upd_ne hb] at e
    exact (x b u e).stay (fun c v _ q=>k c v q) (fun c q=>by rw [upd_ne (ne_of_none q hn)]; exact q) fun c xs q=>by rw [upd_ne (ne_of_none q hn)]; exact q
end
def Rd (H:Hp)(a:Addr)(u:HO):Prop:=H a=some u∨∃ o,H a=some (.frz o u)
theorem Rd.of {H:Hp}{a:Addr}{u:HO}(h:H a=some u):Rd H a u:=.inl h
theorem Rd.ok {P:Program}{w:World}{H:Hp}{h:Heap}{a:Addr}{u:HO}(r:Rd H a u)(x:HOk P w H h):ObjOk P w H h a u:=by
  rcases r with r | ⟨o,r⟩
  · exact x a u r
  · obtain ⟨_,q⟩:=x a _ r
    exact q
def Mut:Option HO→Prop
  | some (.lst _)=>True
  | some (.dK _)=>True
  | some (.dT _)=>True
  | some (.set _ _)=>True
  | some (.ins _ _ _)=>True
  | some (.ext _)=>True
  | _=>False
section
variable {P:Program}{w:World}{H:Hp}{h h':Heap}{x e:Addr}{o':HO}
theorem HOk.write (ok:HOk P w H h)(mu:Mut (H x))(he:e=x∨H e=some (.own x))(k:∀ b u,b≠e→h.get? b=some u→h'.get? b=some u)(heo:∃ u,h'.get? e=some u)
    (new:ObjOk P w (upd H x o') h' x o'):HOk P w (upd H x o') h':=fun b u q=>by
  have nown:∀ c y,H c=some (.own y)→c≠x:=fun c y r z=>by subst z; rw [r] at mu; exact mu
  have ntup:∀ c xs,H c=some (.tup xs)→c≠x:=fun c xs r z=>by subst z; rw [r] at mu; exact mu
  by_cases hb:b=x
  · subst hb; rw [upd_same] at q; cases q; exact new
  · rw [upd_ne hb] at q
    by_cases hbe:b=e
    · have q':H b=some (.own x):=by
        rcases he with z | z
        · exact absurd (hbe.trans z) hb
        · rw [hbe]; exact z
      rw [q] at q'; cases q'
      obtain ⟨v,hv⟩:=heo
      exact ⟨v,by rw [hbe]; exact hv⟩
    · refine (ok b u q).stay (fun c v hc r=>k c v ?_ r) (fun c r=>by rw [upd_ne (nown c b r)]; exact r) fun c xs r=>by rw [upd_ne (ntup c xs r)]; exact r
      rcases hc with rfl | hc
      · exact hbe
      · rintro rfl
        rcases he with z | z
        · exact nown c b hc z
        · rw [hc] at z; cases z; exact hb rfl
end
structure Un (fs ex:List Addr)(H H':Hp)(h h':Heap):Prop where
  keep:∀ b o,h.get? b=some o→H b=none→b∉fs→b∉ex→h'.get? b=some o
  slot:∀ b o,h.get? b=some o→H b=none→b∈fs→b∉ex→∃ sl,h'.get? b=some { o with slots:=sl }
  free:∀ b o,h.get? b=some o→H b=none→b∉ex→H' b=none
  there:∀ b o,h.get? b=some o→b∉ex→∃ o',h'.get? b=some o'
  tups:∀ b xs,H b=some (.tup xs)→H' b=some (.tup xs)
  frzs:∀ b o u,H b=some (.frz o u)→H' b=some (.frz o u)
  tbls:∀ b ps,H b=some (.tbl ps)→∃ more,H' b=some (.tbl (ps++more))
section
variable {fs fs' ex ex':List Addr}{H H1 H2:Hp}{h h1 h2 h':Heap}{a x e:Addr}{o:HO}
theorem Un.any (u:Un fs ex H H1 h h1){b:Addr}{ob:Obj}(q:h.get? b=some ob)(n:H b=none)(hx:b∉ex):∃ sl,h1.get? b=some { ob with slots:=sl }:=by
  by_cases hb:b∈fs
  · exact u.slot b ob q n hb hx
  · exact ⟨ob.slots,u.keep b ob q n hb hx⟩
theorem Un.trans (a:Un fs ex H H1 h h1)(b:Un fs ex H1 H2 h1 h2):Un fs ex H H2 h h2 where
  keep:=fun c ob q n hc hx=>b.keep c ob (a.keep c ob q n hc hx) (a.free c ob q n hx) hc hx
  slot:=fun c ob q n hc hx=>by
    obtain ⟨sl,e1⟩:=a.slot c ob q n hc hx
    obtain ⟨sl',e2⟩:=b.slot c _ e1 (a.free c ob q n hx) hc hx
    exact ⟨sl',e2⟩
  free:=fun c ob q n hx=>by
    obtain ⟨o',e1⟩:=a.there c ob q hx
    exact b.free c o' e1 (a.free c ob q n hx) hx
  there:=fun c ob q hx=>by
    obtain ⟨o',e1⟩:=a.there c ob q hx
    exact b.there c o' e1 hx
  tups:=fun c xs q=>b.tups c xs (a.tups c xs q)
  frzs:=fun c ob xs q=>b.frzs c ob xs (a.frzs c ob xs q)
  tbls:=fun c ps q=>by
    obtain ⟨m1,e1⟩:=a.tbls c ps q
    obtain ⟨m2,e2⟩:=b.tbls c _ e1
    exact ⟨m1++m2,by rw [e2,Array.append_assoc]⟩
theorem Un.kept (k:∀ b u,h.get? b=some u→h'.get? b=some u):Un fs ex H H h h' :=
  ⟨fun b ob q _ _ _=>k b ob q,fun b ob q _ _ _=>⟨ob.slots,k b ob q⟩,fun _ _ _ n _=>n,fun b ob q _=>⟨ob,k b ob q⟩,fun _ _ q=>q,fun _ _ _ q=>q,fun _ ps q=>⟨#[],by rw [q]; simp⟩⟩
theorem Un.refl:Un fs ex H H h h:=Un.kept fun _ _ q=>q
theorem Un.laid (k:∀ b u,h.get? b=some u→h'.get? b=some u)(hp:h.objs.size≤a)(hn:H a=none):Un fs ex H (upd H a o) h h' where
  keep:=fun b u q _ _ _=>k b u q
  slot:=fun b u q _ _ _=>⟨u.slots,k b u q⟩
  free:=fun b u q n _=>by rw [upd_ne (Nat.ne_of_lt (Nat.lt_of_lt_of_le (Heap.lt_size q) hp))]; exact n
  there:=fun b u q _=>⟨u,k b u q⟩
  tups:=fun b xs q=>by rw [upd_ne (ne_of_none q hn)]; exact q
  frzs:=fun b u xs q=>by rw [upd_ne (ne_of_none q hn)]; exact q
  tbls:=fun b ps q=>⟨#[],by rw [upd_ne (ne_of_none q hn),q]; simp⟩
theorem Un.write (mu:Mut (H x))(he:e=x∨H e=some (.own x))(k:∀ b u,b≠e→h.get? b=some u→h'.get? b=some u)(heo:∃ u,h'.get? e=some u):Un fs ex H (upd H x o) h h':=by
  have hx:∀ b,H b=none→b≠x:=fun b n z=>by subst z; rw [n] at mu; exact mu
  have hb:∀ b,H b=none→b≠e:=fun b n z=>by
    subst z
    rcases he with r | r
    · exact hx b n r
    · rw [n] at r; cases r
  have hm:∀ b u,H b=some u→¬ Mut (some u)→b≠x:=fun b u q nm z=>by subst z; rw [q] at mu; exact nm mu
  refine ⟨fun b u q n _ _=>k b u (hb b n) q,fun b u q n _ _=>⟨u.slots,k b u (hb b n) q⟩,fun b u q n _=>by rw [upd_ne (hx b n)]; exact n,fun b u q _=>?_,
    fun b xs q=>by rw [upd_ne (hm b _ q fun z=>z)]; exact q,fun b u xs q=>by rw [upd_ne (hm b _ q fun z=>z)]; exact q,fun b ps q=>⟨#[],by rw [upd_ne (hm b _ q fun z=>z),q]; simp⟩⟩
  by_cases hbe:b=e
  · subst hbe; exact heo
  · exact ⟨u,k b u hbe q⟩
theorem Un.mono (u:Un fs ex H H1 h h1)(hs:∀ b∈fs,b∈fs')(hx:∀ b∈ex,b∈ex'):Un fs' ex' H H1 h h1 :=
  ⟨fun b ob q n hb he=>u.keep b ob q n (fun z=>hb (hs b z)) fun z=>he (hx b z),fun _ _ q n _ he=>u.any q n fun z=>he (hx _ z),fun b ob q n he=>u.free b ob q n fun z=>he (hx b z),fun b ob q he=>u.there b ob q fun z=>he (hx b z),u.tups,u.frzs,u.tbls⟩
end
def trk (h:Heap)(H:Hp):List Addr:=(List.range h.objs.size).filter fun a=>(H a).isSome
def hidT (h:Heap)(H:Hp):Heap:=PySem.W.hideAll h (trk h H)
theorem hidT_size (h:Heap)(H:Hp):(hidT h H).objs.size=h.objs.size:=PySem.W.hideAll_size _ _
theorem hidT_get {h:Heap}{H:Hp}{b:Addr}{o:Obj}(e:h.get? b=some o)(n:H b=none):(hidT h H).get? b=some o :=
  PySem.W.hideAll_get _ e fun hm=>by
    have q:(H b).isSome=true:=(List.mem_filter.mp hm).2
    rw [n] at q; simp at q
theorem of_hidT {h:Heap}{H:Hp}{b:Addr}{o:Obj}(e:(hidT h H).get? b=some o):h.get? b=some o∧H b=none:=by
  have e':h.get? b=some o:=PySem.W.of_hideAll (trk h H) e
  refine ⟨e',?_⟩
  cases q:H b with
  | none=>rfl
  | some x =>
    have hm:b∈trk h H:=List.mem_filter.mpr ⟨List.mem_range.mpr (Heap.lt_size e'),by simp [q]⟩
    have z:(hidT h H).get? b=none:=PySem.W.hideAll_none (trk h H) hm
    rw [z] at e; cases e
def allNews (g h:Heap)(L:Addr):List (Addr×Obj):=(List.range h.objs.size).filterMap fun a=>if a=L∨(g.get? a).isSome=true then none else (h.get? a).map fun o=>(a,o)
def rest (g h:Heap)(L d:Addr):List (Addr×Obj):=(allNews g h L).filter fun p=>decide (p.1≠d)
end L2
namespace L2
open PySem PySem.Spec PyProof.Rows
structure Mod (K:PySem.W.Frag)(mg:Str→Option Value)(base:Heap):Prop where
  kin:K.In base
  glob:base.Ns mainGlobals mg
  blt:∃ mb,base.Ns builtinsNs mb∧∀ x:Str,x≠"__name__"→mb x=bootBuiltins x
  nolimit:base.NoLimit
structure Cx where
  prog:Program
  w:World
  K:PySem.W.Frag
  mg:Str→Option Value
  base:Heap
  A:Around
  N:List Str
  s₀:Shared
  H₀:Hp
  env:Env
  outer:List Env
  stack:List Env
  ex:List Addr
  fn:Str→Bool
  calm:Bool
  pn:List (Addr×Obj)
  xe:Value→Shared→Prop
def frs (l:List Env):List Addr:=l.filterMap (·.frame)
abbrev Cx.fs (X:Cx):List Addr:=frs X.outer
def Vis (sc:Scope)(x:Str):Prop:=sc.names.lookup x=some .local∨sc.names.lookup x=some .cell∨sc.names.lookup x=some .free
def Loc (sc:Scope)(x:Str):Prop:=sc.names.lookup x=some .local∨sc.names.lookup x=some .cell
def Look (env:Env)(h:Heap)(m:Str→Option Value)(x:Str)(u:Value):Prop :=
  (env.kindOf x=some .local∧m x=some u)∨((env.kindOf x=some .cell∨env.kindOf x=some .free)∧∃ c,env.cells.lookup x=some c∧h.IsCell c (some u))
structure Cx.Ok (X:Cx):Prop where
  mod:Mod X.K X.mg X.base
  kind:X.env.scope.kind=.function
  glob:X.env.globals=mainGlobals
  blt:X.env.builtins=builtinsNs
  above:X.s₀.heap.objs.size≤X.env.locals
  inj:∀ x y c,X.env.cells.lookup x=some c→X.env.cells.lookup y=some c→x=y
  has:∀ x,(X.env.kindOf x=some .cell∨X.env.kindOf x=some .free)→∃ c,X.env.cells.lookup x=some c
  cab:∀ x c,X.fn x=true→X.env.cells.lookup x=some c→X.s₀.heap.objs.size≤c
  hd:X.calm=true→X.A.handled=none
  frames:X.A.frames=some X.stack
  stk:X.stack=X.outer∨(X.stack=X.env::X.outer∧X.env.frame=some X.env.locals)
  exf:∀ b∈X.ex,b≠X.env.locals∧∀ x c,X.env.cells.lookup x=some c→c≠b
  bs:∀ b o,X.base.get? b=some o→X.s₀.heap.get? b=some o∧X.H₀ b=none
  bsz:X.base.objs.size≤X.s₀.heap.objs.size
  noex:∀ b o,X.base.get? b=some o→b∉X.ex
  exfs:∀ b∈X.ex,b∉X.fs
  funs:X.s₀.heap.FunFrames X.base X.outer
  frf:∀ b∈X.fs,X.H₀ b=none
structure Inv (X:Cx)(pins:List (Addr×Obj))(σ:List (Option V))(H:Hp)(s:Shared):Prop where
  ok:X.Ok
  os:s.os=X.s₀.os
  bare:AllBare s.gens
  base:Un X.fs X.ex X.H₀ H X.s₀.heap s.heap
  loc:∃ m,s.heap.Ns X.env.locals m∧∀ (i:Nat) (x:Str) (v:V),X.N[i]?=some x→σ[i]?=some (some v)→Vis X.env.scope x→∃ u,RelV v u∧Look X.env s.heap m x u
  cell:∀ x c,X.env.cells.lookup x=some c→∃ v,s.heap.IsCell c v
  free:H X.env.locals=none
  freeC:∀ x c,X.env.cells.lookup x=some c→H c=none
  pin:∀ p∈X.pn++pins,s.heap.get? p.1=some p.2∧H p.1=none∧p.1≠X.env.locals∧p.1∉X.fs∧∀ v,p.2.data≠.cell v
  hok:HOk X.prog X.w H s.heap
  len:σ.length=X.N.length
section
variable {X:Cx}{pins:List (Addr×Obj)}{σ:List (Option V)}{H H':Hp}{s:Shared}{h':Heap}
theorem Cx.Ok.nofr (ok:X.Ok){b:Addr}{o:Obj}(e:X.base.get? b=some o):b∉X.fs:=fun hb=>by
  have:=(ok.funs.mem hb).1
  rw [e] at this; cases this
theorem Inv.bs (I:Inv X pins σ H s):∀ b o,X.base.get? b=some o→s.heap.get? b=some o∧H b=none:=fun b o e =>
  ⟨I.base.keep b o (I.ok.bs b o e).1 (I.ok.bs b o e).2 (I.ok.nofr e) (I.ok.noex b o e),I.base.free b o (I.ok.bs b o e).1 (I.ok.bs b o e).2 (I.ok.noex b o e)⟩
theorem Inv.bk (I:Inv X pins σ H s):∀ b o,X.base.get? b=some o→s.heap.get? b=some o:=fun b o e=>(I.bs b o e).1
theorem Inv.mod (I:Inv X pins σ H s):Mod X.K X.mg X.base:=I.ok.mod
theorem Inv.kIn (I:Inv X pins σ H s):X.K.In s.heap:=I.ok.mod.kin.keeps I.bk
theorem Inv.lt (I:Inv X pins σ H s):X.env.locals<s.heap.objs.size:=let ⟨_,hn,_⟩:=I.loc; hn.lt
theorem Inv.sz (I:Inv X pins σ H s):X.s₀.heap.objs.size≤s.heap.objs.size:=Nat.le_trans I.ok.above (Nat.le_of_lt I.lt)
theorem Inv.nofs (I:Inv X pins σ H s){a:Addr}(h:s.heap.objs.size≤a):a∉X.fs:=fun hb=>by
  obtain ⟨_,o,ho,_⟩:=I.ok.funs.mem hb
  exact absurd (Nat.lt_of_lt_of_le (Heap.lt_size ho) (Nat.le_trans I.sz h)) (Nat.lt_irrefl _)
theorem Inv.cne (I:Inv X pins σ H s):∀ x c,X.env.cells.lookup x=some c→c≠X.env.locals:=fun x c e z=>by
  obtain ⟨v,o,ho,hd⟩:=I.cell x c e
  obtain ⟨m,⟨o',es,ep,ho',hd',_⟩,_⟩:=I.loc
  rw [z,ho'] at ho; cases ho; rw [hd'] at hd; cases hd
theorem Inv.funs (I:Inv X pins σ H s):s.heap.FunFrames X.base X.outer:=by
  have all:∀ (l:List Env),(∀ b∈frs l,b∈X.fs)→X.s₀.heap.FunFrames X.base l→s.heap.FunFrames X.base l:=by
    intro l
    induction l with
    | nil=>intro _ _; trivial
    | cons env r ih =>
      intro hs hl
      obtain ⟨hk,⟨L,o,hf,hn,ho,hd⟩,hr⟩:=hl
      have hL:L∈X.fs:=hs L (by unfold frs; rw [List.filterMap_cons,hf]; exact List.mem_cons_self)
      obtain ⟨sl,e⟩:=I.base.slot L o ho (I.ok.frf L hL) hL fun z=>I.ok.exfs L z hL
      exact ⟨hk,⟨L,_,hf,hn,e,hd⟩,ih (fun b hb=>hs b (by unfold frs; rw [List.filterMap_cons,hf]; exact List.mem_cons_of_mem _ hb)) hr⟩
  exact all X.outer (fun _ hb=>hb) I.ok.funs
theorem Inv.stack (I:Inv X pins σ H s):s.heap.FunFrames X.base X.stack:=by
  rcases I.ok.stk with e | ⟨e,hf⟩
  · rw [e]; exact I.funs
  · rw [e]
    obtain ⟨m,hn,_⟩:=I.loc
    refine .cons (by rw [I.ok.kind]; decide) hf hn ?_ I.funs
    exact Heap.get?_none_of_le (Nat.le_trans I.ok.bsz I.ok.above)
theorem Inv.stkSub (I:Inv X pins σ H s):∀ b∈frs X.stack,b∈X.env.locals::X.fs:=fun b hb=>by
  rcases I.ok.stk with e | ⟨e,hf⟩
  · rw [e] at hb; exact List.mem_cons_of_mem _ hb
  · rw [e] at hb
    unfold frs at hb
    rw [List.filterMap_cons,hf] at hb
    exact hb
theorem Inv.stkFree (I:Inv X pins σ H s):∀ b∈frs X.stack,H b=none:=fun b hb=>by
  rcases List.mem_cons.mp (I.stkSub b hb) with e | hb
  · rw [e]; exact I.free
  · obtain ⟨_,o,ho,_⟩:=I.ok.funs.mem hb
    exact I.base.free b o ho (I.ok.frf b hb) fun z=>I.ok.exfs b z hb
theorem Inv.step {g':Array GenState}{t':Nat}{d':Drawn}{ch:List Addr}(I:Inv X pins σ H s)
    (hch:∀ b∈ch,(b∈X.ex∨X.s₀.heap.objs.size≤b)∧b≠X.env.locals∧(∀ x c,X.env.cells.lookup x=some c→c≠b)∧∀ p∈X.pn++pins,p.1≠b)
    (keep:∀ b o,b≠X.env.locals→b∉X.fs→b∉ch→s.heap.get? b=some o→H b=none→h'.get? b=some o)
    (slot:∀ b o,b≠X.env.locals→b∈X.fs→b∉ch→s.heap.get? b=some o→H b=none→∃ sl,h'.get? b=some { o with slots:=sl }) (free:∀ b o,b∉ch→s.heap.get? b=some o→H b=none→H' b=none)
    (there:∀ b o,b∉ch→s.heap.get? b=some o→∃ o',h'.get? b=some o')
    (tups:∀ b xs,H b=some (.tup xs)→H' b=some (.tup xs)) (frzs:∀ b o u,H b=some (.frz o u)→H' b=some (.frz o u)) (tbls:∀ b ps,H b=some (.tbl ps)→∃ more,H' b=some (.tbl (ps++more)))
    (ns:∀ m,s.heap.Ns X.env.locals m→h'.Ns X.env.locals m) (hok:HOk X.prog X.w H' h') (hg:AllBare g') :
    Inv X pins σ H' { s with heap:=h',gens:=g',drawn:=d',toks:=t' }:=by
  have neL:∀ b o,X.s₀.heap.get? b=some o→b≠X.env.locals:=fun b o e=>Nat.ne_of_lt (Nat.lt_of_lt_of_le (Heap.lt_size e) I.ok.above)
  have neC:∀ b o,X.s₀.heap.get? b=some o→b∉X.ex→b∉ch:=fun b o e hx hb=>by
    rcases (hch b hb).1 with z | z
    · exact hx z
    · exact absurd (Nat.lt_of_lt_of_le (Heap.lt_size e) z) (Nat.lt_irrefl _)
  have cellK:∀ x c,X.env.cells.lookup x=some c→∀ v,s.heap.IsCell c v→h'.IsCell c v:=fun x c e v ⟨o,ho,hd⟩=>by
    have nch:c∉ch:=fun z=>(hch c z).2.2.1 x c e rfl
    by_cases hc:c∈X.fs
    · obtain ⟨sl,q⟩:=slot c o (I.cne x c e) hc nch ho (I.freeC x c e)
      exact ⟨_,q,hd⟩
    · exact ⟨o,keep c o (I.cne x c e) hc nch ho (I.freeC x c e),hd⟩
  refine ⟨I.ok,I.os,hg,⟨fun b o e n hb hx=>?_,fun b o e n hb hx=>?_,fun b o e n hx=>?_,fun b o e hx=>?_,fun b xs e=>tups b xs (I.base.tups b xs e),fun b o xs e=>frzs b o xs (I.base.frzs b o xs e),fun b ps e=>?_⟩,?_,fun x c e=>?_,?_,fun x c e=>?_,fun p hp=>?_,hok,I.len⟩
  · exact keep b o (neL b o e) hb (neC b o e hx) (I.base.keep b o e n hb hx) (I.base.free b o e n hx)
  · obtain ⟨sl,e1⟩:=I.base.slot b o e n hb hx
    obtain ⟨sl',e2⟩:=slot b _ (neL b o e) hb (neC b o e hx) e1 (I.base.free b o e n hx)
    exact ⟨sl',e2⟩
  · obtain ⟨o',e1⟩:=I.base.there b o e hx
    exact free b o' (neC b o e hx) e1 (I.base.free b o e n hx)
  · obtain ⟨o',e1⟩:=I.base.there b o e hx
    exact there b o' (neC b o e hx) e1
  · obtain ⟨m1,e1⟩:=I.base.tbls b ps e
    obtain ⟨m2,e2⟩:=tbls b _ e1
    exact ⟨m1++m2,by rw [e2,Array.append_assoc]⟩
  · obtain ⟨m,hn,hl⟩:=I.loc
    refine ⟨m,ns m hn,fun i x v e1 e2 e3=>?_⟩
    obtain ⟨u,r,l⟩:=hl i x v e1 e2 e3
    refine ⟨u,r,?_⟩
    rcases l with l | ⟨k,c,e,z⟩
    · exact .inl l
    · exact .inr ⟨k,c,e,cellK x c e _ z⟩
  · obtain ⟨v,z⟩:=I.cell x c e
    exact ⟨v,cellK x c e v z⟩
  · obtain ⟨m,⟨o,_,_,ho,_⟩,_⟩:=I.loc
    exact free _ o (fun z=>(hch _ z).2.1 rfl) ho I.free
  · obtain ⟨v,o,ho,hd⟩:=I.cell x c e
    exact free c o (fun z=>(hch c z).2.2.1 x c e rfl) ho (I.freeC x c e)
  · obtain ⟨e,n,ne,nf,d⟩:=I.pin p hp
    have nch:p.1∉ch:=fun z=>(hch p.1 z).2.2.2 p hp rfl
    exact ⟨keep p.1 p.2 ne nf nch e n,free p.1 p.2 nch e n,ne,nf,d⟩
theorem Inv.un {t':Nat}(I:Inv X pins σ H s)(u:Un X.fs [] H H' s.heap h')(hok:HOk X.prog X.w H' h'):Inv X pins σ H' { s with heap:=h',toks:=t' }:=by
  obtain ⟨m,⟨o,es,ep,ho,r⟩,_⟩:=id I.loc
  obtain ⟨sl,hL⟩:=u.any ho I.free (by simp)
  exact I.step (g':=s.gens) (d':=s.drawn) (ch:=[]) (fun _ z=>nomatch z) (fun b o _ hb _ e n=>u.keep b o e n hb (by simp)) (fun b o _ hb _ e n=>u.slot b o e n hb (by simp)) (fun b o _ e n=>u.free b o e n (by simp)) (fun b o _ e=>u.there b o e (by simp)) u.tups u.frzs u.tbls (fun m' hm=>by
    obtain ⟨o',es',ep',ho',r'⟩:=hm
    rw [ho] at ho'; cases ho'
    exact ⟨_,es',ep',hL,r'⟩) hok I.bare
theorem Inv.call {g':Array GenState}{t':Nat}{d':Drawn}{ch:List Addr}(I:Inv X pins σ H s)(u:Un (frs X.stack) ch H H' s.heap h')(hok:HOk X.prog X.w H' h')(hg:AllBare g')
    (hch:∀ b∈ch,(b∈X.ex∨X.s₀.heap.objs.size≤b)∧b≠X.env.locals∧(∀ x c,X.env.cells.lookup x=some c→c≠b)∧∀ p∈X.pn++pins,p.1≠b) :
    Inv X pins σ H' { s with heap:=h',gens:=g',drawn:=d',toks:=t' }:=by
  obtain ⟨m,⟨o,es,ep,ho,r⟩,_⟩:=id I.loc
  obtain ⟨sl,hL⟩:=u.any ho I.free fun z=>(hch _ z).2.1 rfl
  exact I.step (ch:=ch) hch (fun b o hL hb hc e n=>u.keep b o e n (fun z=>(List.mem_cons.mp (I.stkSub b z)).elim hL hb) hc) (fun b o _ _ hc e n=>u.any e n hc) (fun b o hc e n=>u.free b o e n hc) (fun b o hc e=>u.there b o e hc) u.tups u.frzs u.tbls (fun m' hm=>by
    obtain ⟨o',es',ep',ho',r'⟩:=hm
    rw [ho] at ho'; cases ho'
    exact ⟨_,es',ep',hL,r'⟩) hok hg
theorem Inv.turned {t':Nat}{it:Addr}(I:Inv X pins σ H s)(k:∀ b o,b≠it→s.heap.get? b=some o→h'.get? b=some o)(hn:H it=none)(hL:it≠X.env.locals)
    (h1:it∈X.ex∨X.s₀.heap.objs.size≤it) (h2:∀ x c,X.env.cells.lookup x=some c→c≠it) (h3:∀ p∈X.pn++pins,p.1≠it):Inv X pins σ H { s with heap:=h',toks:=t' }:=by
  have nit:∀ b u,H b=some u→b≠it:=fun b u e z=>by rw [z,hn] at e; cases e
  refine I.step (g':=s.gens) (d':=s.drawn) (ch:=[it]) (fun b hb=>?_) (fun b o _ _ hc e _=>k b o (fun z=>hc (by simp [z])) e) (fun b o _ _ hc e _=>⟨o.slots,k b o (fun z=>hc (by simp [z])) e⟩) (fun _ _ _ _ n=>n)
    (fun b o hc e=>⟨o,k b o (fun z=>hc (by simp [z])) e⟩) (fun _ _ e=>e) (fun _ _ _ e=>e) (fun b ps e=>⟨#[],by rw [e]; simp⟩) (fun m hm=>?_) (fun b u e=>?_) I.bare
  · have e:b=it:=by simpa using hb
    subst e
    exact ⟨h1,hL,h2,h3⟩
  · obtain ⟨o,es,ep,ho,r⟩:=hm
    exact ⟨o,es,ep,k _ o (Ne.symm hL) ho,r⟩
  · refine (I.hok b u e).stay (fun c v hc q=>k c v ?_ q) (fun _ q=>q) fun _ _ q=>q
    rcases hc with z | z
    · rw [z]; exact nit b u e
    · exact nit c _ z
theorem Inv.tok (I:Inv X pins σ H s)(t:Nat):Inv X pins σ H { s with toks:=t }:=I.un (h':=s.heap) (t':=t) Un.refl I.hok
theorem Inv.kept {t':Nat}(I:Inv X pins σ H s)(k:∀ b u,s.heap.get? b=some u→h'.get? b=some u):Inv X pins σ H { s with heap:=h',toks:=t' }:=I.un (Un.kept k) (I.hok.kept k)
theorem Inv.laid {a:Addr}{o:HO}{t':Nat}(I:Inv X pins σ H s)(k:∀ b u,s.heap.get? b=some u→h'.get? b=some u)(hp:s.heap.objs.size≤a)(new:ObjOk X.prog X.w (upd H a o) h' a o) :
    Inv X pins σ (upd H a o) { s with heap:=h',toks:=t' }:=I.un (Un.laid k hp (I.hok.fresh hp)) (I.hok.laid k hp new)
theorem Inv.write {x e:Addr}{o:HO}{t':Nat}(I:Inv X pins σ H s)(mu:Mut (H x))(he:e=x∨H e=some (.own x))(k:∀ b u,b≠e→s.heap.get? b=some u→h'.get? b=some u)(heo:∃ u,h'.get? e=some u)
    (new:ObjOk X.prog X.w (upd H x o) h' x o):Inv X pins σ (upd H x o) { s with heap:=h',toks:=t' }:=I.un (Un.write mu he k heo) (I.hok.write mu he k heo new)
theorem Inv.pins_of {pins':List (Addr×Obj)}(I:Inv X pins σ H s)(h:∀ p∈pins',s.heap.get? p.1=some p.2∧H p.1=none∧p.1≠X.env.locals∧p.1∉X.fs∧∀ v,p.2.data≠.cell v):Inv X pins' σ H s :=
  ⟨I.ok,I.os,I.bare,I.base,I.loc,I.cell,I.free,I.freeC,fun p hp=>(List.mem_append.mp hp).elim (fun z=>I.pin p (List.mem_append_left _ z)) (h p),I.hok,I.len⟩
theorem nodup_ix {N:List Str}(hN:N.Nodup){i j:Nat}{x:Str}(a:N[i]?=some x)(b:N[j]?=some x):i=j:=by
  obtain ⟨h1,e1⟩:=List.getElem?_eq_some_iff.mp a
  obtain ⟨h2,e2⟩:=List.getElem?_eq_some_iff.mp b
  exact (List.getElem_inj hN).mp (e1.trans e2.symm)
theorem store_ok2 {M:Model}{A:Around}{E:Value→Shared→Prop}{i:Nat}{x:Str}{v:V}{u:Value}{Q:Unit→Shared→Prop}(I:Inv X pins σ H s)(hN:X.N.Nodup)(hi:X.N[i]?=some x)(hx:Loc X.env.scope x)(r:RelV v u)
    (h:∀ s',Inv X pins (σ.set i (some v)) H s'→(∃ a,Heap.SameBut a s.heap s'.heap∧(a=X.env.locals∨X.env.cells.lookup x=some a))→Q () s') (hf:X.fn x=true∨X.env.scope.names.lookup x=some .local:=by first | exact .inl rfl | exact .inr rfl | assumption):wpAny M A (storeName X.env x u) Q E s:=by
  obtain ⟨m,hn,hl⟩:=id I.loc
  have hcls:(X.env.scope.kind == .class || (X.env.scope.kind == .module && X.env.locals != X.env.globals))=false:=by rw [I.ok.kind]; rfl
  have hiσ:i<σ.length:=by rw [I.len]; exact (List.getElem?_eq_some_iff.mp hi).1
  have cne:=I.cne
  have tracked:∀ {a:Addr} {h':Heap},(∃ o,s.heap.get? a=some o∧H a=none)→Heap.SameBut a s.heap h'→HOk X.prog X.w H h':=fun {a h'} ha hs b ob e=>by
    obtain ⟨_,_,hfree⟩:=ha
    refine (I.hok b ob e).stay (fun c w' hc q=>(hs.2 c ?_).trans q) (fun _ q=>q) fun _ _ q=>q
    rintro rfl
    rcases hc with rfl | hc
    · rw [hfree] at e; cases e
    · rw [hfree] at hc; cases hc
  rcases hx with hk | hk
  · refine wpAny_storeName_local hk hn (fun h' hn' hs=>?_) hcls
    obtain ⟨oL,_,_,hoL,_⟩:=id hn
    refine h _ ⟨I.ok,I.os,I.bare,⟨fun b o e n hb hx=>?_,fun b o e n hb hx=>?_,I.base.free,fun b o e hx=>?_,I.base.tups,I.base.frzs,I.base.tbls⟩,⟨_,hn',fun j y v' e1 e2 e3=>?_⟩,fun y c e=>?_,I.free,I.freeC,fun p hp=>?_,tracked ⟨oL,hoL,I.free⟩ hs,by simpa using I.len⟩ ⟨_,hs,.inl rfl⟩
    · exact (hs.2 b (Nat.ne_of_lt (Nat.lt_of_lt_of_le (Heap.lt_size e) I.ok.above))).trans (I.base.keep b o e n hb hx)
    · obtain ⟨sl,e1⟩:=I.base.slot b o e n hb hx
      exact ⟨sl,(hs.2 b (Nat.ne_of_lt (Nat.lt_of_lt_of_le (Heap.lt_size e) I.ok.above))).trans e1⟩
    · obtain ⟨o',e1⟩:=I.base.there b o e hx
      exact ⟨o',(hs.2 b (Nat.ne_of_lt (Nat.lt_of_lt_of_le (Heap.lt_size e) I.ok.above))).trans e1⟩
    · by_cases hj:j=i
      · subst hj
        rw [hi] at e1; cases e1
        rw [List.getElem?_set_self hiσ] at e2
        cases e2
        exact ⟨u,r,.inl ⟨hk,by simp⟩⟩
      · rw [List.getElem?_set_ne (Ne.symm hj)] at e2
        obtain ⟨u',r',q⟩:=hl j y v' e1 e2 e3
        refine ⟨u',r',?_⟩
        rcases q with ⟨k,e⟩ | ⟨k,c,e,z⟩
        · refine .inl ⟨k,?_⟩
          have:y≠x:=fun e=>hj (nodup_ix hN e1 (e▸hi))
          simp [this,e]
        · exact .inr ⟨k,c,e,z.sameBut hs (cne y c e)⟩
    · obtain ⟨w',z⟩:=I.cell y c e
      exact ⟨w',z.sameBut hs (cne y c e)⟩
    · obtain ⟨e,n,ne,nf,d⟩:=I.pin p hp
      exact ⟨(hs.2 p.1 ne).trans e,n,ne,nf,d⟩
  · have hfn:X.fn x=true:=by
      rcases hf with z | z
      · exact z
      · rw [z] at hk; cases hk
    obtain ⟨c,hc⟩:=I.ok.has x (.inl hk)
    obtain ⟨w',z⟩:=I.cell x c hc
    refine wpAny_storeName_cell I.ok.kind hk hc z (fun h' hc' hs=>?_)
    obtain ⟨oc,hoc,hocd⟩:=id z
    refine h { s with heap:=h' } ⟨I.ok,I.os,I.bare,⟨fun b o e n hb hx=>?_,fun b o e n hb hx=>?_,I.base.free,fun b o e hx=>?_,I.base.tups,I.base.frzs,I.base.tbls⟩,⟨m,hn.sameBut hs (Ne.symm (cne x c hc)),fun j y v' e1 e2 e3=>?_⟩,fun y c' e=>?_,I.free,I.freeC,fun p hp=>?_,tracked ⟨oc,hoc,I.freeC x c hc⟩ hs,by simpa using I.len⟩ ⟨c,hs,.inr hc⟩
    · exact (hs.2 b (Nat.ne_of_lt (Nat.lt_of_lt_of_le (Heap.lt_size e) (I.ok.cab x c hfn hc)))).trans (I.base.keep b o e n hb hx)
    · obtain ⟨sl,e1⟩:=I.base.slot b o e n hb hx
      exact ⟨sl,(hs.2 b (Nat.ne_of_lt (Nat.lt_of_lt_of_le (Heap.lt_size e) (I.ok.cab x c hfn hc)))).trans e1⟩
    · obtain ⟨o',e1⟩:=I.base.there b o e hx
      exact ⟨o',(hs.2 b (Nat.ne_of_lt (Nat.lt_of_lt_of_le (Heap.lt_size e) (I.ok.cab x c hfn hc)))).trans e1⟩
    · by_cases hj:j=i
      · subst hj
        rw [hi] at e1; cases e1
        rw [List.getElem?_set_self hiσ] at e2
        cases e2
        exact ⟨u,r,.inr ⟨.inl hk,c,hc,hc'⟩⟩
      · rw [List.getElem?_set_ne (Ne.symm hj)] at e2
        obtain ⟨u',r',q⟩:=hl j y v' e1 e2 e3
        refine ⟨u',r',?_⟩
        rcases q with q | ⟨k,c',e,z'⟩
        · exact .inl q
        · refine .inr ⟨k,c',e,z'.sameBut hs ?_⟩
          rintro rfl
          exact hj (nodup_ix hN e1 (I.ok.inj _ _ _ e hc▸hi))
    · by_cases hcc:c'=c
      · subst hcc; exact ⟨_,hc'⟩
      · obtain ⟨w2,z2⟩:=I.cell y c' e
        exact ⟨w2,z2.sameBut hs hcc⟩
    · obtain ⟨e,n,ne,nf,d⟩:=I.pin p hp
      refine ⟨(hs.2 p.1 ?_).trans e,n,ne,nf,d⟩
      intro q
      rw [q,hoc] at e
      have q':oc=p.2:=Option.some.inj e
      exact d w' (by rw [← q']; exact hocd)
theorem store_ok {M:Model}{A:Around}{E:Value→Shared→Prop}{i:Nat}{x:Str}{v:V}{u:Value}{Q:Unit→Shared→Prop}(I:Inv X pins σ H s)(hN:X.N.Nodup)(hi:X.N[i]?=some x)(hx:Loc X.env.scope x)(r:RelV v u)
    (h:∀ s',Inv X pins (σ.set i (some v)) H s'→Q () s') (hf:X.fn x=true∨X.env.scope.names.lookup x=some .local:=by first | exact .inl rfl | exact .inr rfl | assumption):wpAny M A (storeName X.env x u) Q E s :=
  store_ok2 I hN hi hx r (fun s' I' _=>h s' I') hf
theorem Inv.call' {s':Shared}{ch:List Addr}(I:Inv X pins σ H s)(ho:s'.os=s.os)(u:Un (frs X.stack) ch H H' s.heap s'.heap)(hok:HOk X.prog X.w H' s'.heap)(hg:AllBare s'.gens)
    (hch:∀ b∈ch,(b∈X.ex∨X.s₀.heap.objs.size≤b)∧b≠X.env.locals∧(∀ x c,X.env.cells.lookup x=some c→c≠b)∧∀ p∈X.pn++pins,p.1≠b):Inv X pins σ H' s':=by
  obtain ⟨h',g',d',t',o'⟩:=s'
  have e:o'=s.os:=ho
  subst e
  exact I.call (g':=g') (t':=t') (d':=d') u hok hg hch
end
abbrev XK:=Value→Option Addr→Hp→Prop
abbrev St:=List (Option V)
abbrev VK:=V→Hp→Prop
abbrev TE:=St→Hp→VK→Prop
abbrev TT:=St→Hp→(Bool→Hp→Prop)→Prop
abbrev TA:=St→Hp→(List V→Hp→Prop)→Prop
structure Ends where
  nx:St→Hp→Prop
  rt:VK
  bk:St→Hp→Prop:=fun _ _=>False
  ct:St→Hp→Prop:=fun _ _=>False
abbrev TS:=Ends→St→Hp→Prop
def EP (X:Cx)(pins:List (Addr×Obj))(σ:St)(Q:VK)(u:Value)(s':Shared):Prop:=∃ v H',Inv X pins σ H' s'∧RelV v u∧Q v H'
def TP (X:Cx)(pins:List (Addr×Obj))(σ:St)(Q:Bool→Hp→Prop)(b:Bool)(s':Shared):Prop:=∃ H',Inv X pins σ H' s'∧Q b H'
def AP (X:Cx)(pins:List (Addr×Obj))(σ:St)(Q:List V→Hp→Prop)(us:List Value)(s':Shared):Prop:=∃ vs H',Inv X pins σ H' s'∧Vals vs us∧Q vs H'
def SP (X:Cx)(pins:List (Addr×Obj))(D:Ends)(f:Flow)(s':Shared):Prop :=
  match f with
  | .next=>∃ σ' H',Inv X pins σ' H' s'∧D.nx σ' H'
  | .brk=>∃ σ' H',Inv X pins σ' H' s'∧D.bk σ' H'
  | .cont=>∃ σ' H',Inv X pins σ' H' s'∧D.ct σ' H'
  | .ret u=>∃ v σ' H',Inv X pins σ' H' s'∧RelV v u∧D.rt v H'
def PE (X:Cx)(e:Expr)(t:TE):Prop :=
  ∀ (pins:List (Addr×Obj)) (s:Shared) (σ:St) (H:Hp) (Q:VK),Inv X pins σ H s→t σ H Q→wpAny (model X.prog X.w) X.A (eval e X.env) (EP X pins σ Q) X.xe s
def PT (X:Cx)(e:Expr)(t:TT):Prop :=
  ∀ (pins:List (Addr×Obj)) (s:Shared) (σ:St) (H:Hp) (Q:Bool→Hp→Prop),Inv X pins σ H s→t σ H Q→wpAny (model X.prog X.w) X.A (isTrue e X.env (eval e X.env)) (TP X pins σ Q) X.xe s
def PW (X:Cx)(e:Expr)(t:TT):Prop :=
  ∀ (whole:Sem Value) (pins:List (Addr×Obj)) (s:Shared) (σ:St) (H:Hp) (Q:Bool→Hp→Prop),Inv X pins σ H s→t σ H Q→wpAny (model X.prog X.w) X.A (isTrue e X.env whole) (TP X pins σ Q) X.xe s
theorem PW.pt {X:Cx}{e:Expr}{t:TT}(h:PW X e t):PT X e t:=h _
def PA (X:Cx)(es:List Expr)(t:TA):Prop :=
  ∀ (pos:Pos) (pins:List (Addr×Obj)) (s:Shared) (σ:St) (H:Hp) (Q:List V→Hp→Prop),Inv X pins σ H s→t σ H Q→wpAny (model X.prog X.w) X.A (spliced (backTo pos (starEach es X.env))) (AP X pins σ Q) X.xe s
def PS (X:Cx)(st:Stmt)(t:TS):Prop :=
  ∀ (pins:List (Addr×Obj)) (s:Shared) (σ:St) (H:Hp) (D:Ends),Inv X pins σ H s→t D σ H→wpAny (model X.prog X.w) X.A (exec st X.env) (SP X pins D) X.xe s
def PSs (X:Cx)(st:List Stmt)(t:TS):Prop :=
  ∀ (pins:List (Addr×Obj)) (s:Shared) (σ:St) (H:Hp) (D:Ends),Inv X pins σ H s→t D σ H→wpAny (model X.prog X.w) X.A (execs st X.env) (SP X pins D) X.xe s
theorem thn {α:Type}{t:Sem α}{Q Q':α→Shared→Prop}{M:Model}{A:Around}{E:Value→Shared→Prop}{s:Shared}(h:wpAny M A t Q E s)(hQ:∀ a s,Q a s→Q' a s):wpAny M A t Q' E s:=wpAny_mono h hQ fun _ _ x=>x
end L2
namespace L2
open PySem PySem.Spec PyProof.Rows
section
variable {X:Cx}
theorem bin {a b:Expr}{ta tb:TE}(ha:PE X a ta)(hb:PE X b tb){pins:List (Addr×Obj)}{s:Shared}{σ:St}{H:Hp}{R:V→V→Hp→Prop}(I:Inv X pins σ H s)(h:ta σ H fun x H1=>tb σ H1 fun y H2=>R x y H2)
    {α:Type} {Q:α→Shared→Prop} {f:Value→Value→Sem α}
    (hf:∀ v u s2 x y H2,Inv X pins σ H2 s2→RelV x v→RelV y u→R x y H2→wpAny (model X.prog X.w) X.A (f v u) Q X.xe s2) :
    wpAny (model X.prog X.w) X.A (eval a X.env) (fun v s₁=>wpAny (model X.prog X.w) X.A (eval b X.env) (fun u s₂=>wpAny (model X.prog X.w) X.A (f v u) Q X.xe s₂) X.xe s₁) X.xe s:=by
  refine thn (ha pins s σ H _ I h) fun v s1 ⟨x,H1,I1,r1,q1⟩=>?_
  refine thn (hb pins s1 σ H1 _ I1 q1) fun u s2 ⟨y,H2,I2,r2,q2⟩=>?_
  exact hf v u s2 x y H2 I2 r1 r2 q2
def tVar (i:Nat):TE:=fun σ H Q=>∃ v,σ[i]?=some (some v)∧Q v H
def tC (v:V):TE:=fun _ H Q=>Q v H
theorem pe_var {i:Nat}{x:Str}{pos:Pos}(hN:X.N[i]?=some x)(hv:Vis X.env.scope x)(hd:(x == ("__debug__":Str))=false:=by decide)(hcd:(x == ("__classdict__":Str))=false:=by decide):PE X (.Name x pos) (tVar i):=by
  intro pins s σ H Q I h
  obtain ⟨v,e,h⟩:=h
  obtain ⟨m,hn,hl⟩:=I.loc
  obtain ⟨u,r,l⟩:=hl i x v hN e hv
  have fin:EP X pins σ Q u s:=⟨v,H,I,r,h⟩
  rcases l with ⟨hk,hm⟩ | ⟨hk,c,hc,hcell⟩
  · exact wpAny_Name (wpAny_loadName_local I.ok.kind hk hn hm fin) hd
  · rcases hk with hk | hk
    · exact wpAny_Name (wpAny_loadName_cell I.ok.kind hk hc hcell fin) hd
    · exact wpAny_Name (wpAny_loadName_free I.ok.kind hk hc hcell fin hcd) hd
theorem pe_int {i j pos}:PE X (.Constant (.int i) j pos) (tC (.int i)):=fun _ _ _ H _ I h=>wpAny_Constant_int ⟨.int i,H,I.tok _,⟨_,rfl⟩,h⟩
theorem pe_bl {b j pos}:PE X (.Constant (.bool b) j pos) (tC (.bl b)):=fun _ _ _ H _ I h=>Constant_bool ⟨.bl b,H,I,rfl,h⟩
theorem pe_non {j pos}:PE X (.Constant .none j pos) (tC .non):=fun _ _ _ H _ I h=>Constant_none ⟨.non,H,I,rfl,h⟩
theorem pe_str {x j pos}:PE X (.Constant (.str x) j pos) (tC (.str x)):=fun _ _ _ H _ I h=>Calls.Constant_str ⟨.str x,H,I.tok _,⟨_,rfl⟩,h⟩
def Gl (X:Cx)(x:Str):Prop:=X.env.kindOf x=some .globalImplicit
theorem ld_glob {E:Value→Shared→Prop}{pins:List (Addr×Obj)}{s:Shared}{σ:St}{H:Hp}{x:Str}{u:Value}{pos:Pos}{Q:Value→Shared→Prop}(I:Inv X pins σ H s)(hg:Gl X x)(hm:X.mg x=some u)(h:Q u s)
    (hd:(x == ("__debug__":Str))=false:=by decide):wpAny (model X.prog X.w) X.A (eval (.Name x pos) X.env) Q E s :=
  Calls.Name_function_global I.ok.kind hg (Calls.loadGlobal_global (by rw [I.ok.glob]; exact I.mod.glob.keeps I.bk) hm h) hd
theorem ld_blt {E:Value→Shared→Prop}{pins:List (Addr×Obj)}{s:Shared}{σ:St}{H:Hp}{x:Str}{u:Value}{pos:Pos}{Q:Value→Shared→Prop}(I:Inv X pins σ H s)(hg:Gl X x)(hm:X.mg x=none)(hv:bootBuiltins x=some u)(h:Q u s)
    (hn:x≠"__name__":=by decide) (hd:(x == ("__debug__":Str))=false:=by decide):wpAny (model X.prog X.w) X.A (eval (.Name x pos) X.env) Q E s:=by
  obtain ⟨mb,h1,h2⟩:=I.mod.blt
  exact Calls.Name_function_global I.ok.kind hg (Calls.loadGlobal_builtin (by rw [I.ok.glob]; exact I.mod.glob.keeps I.bk) hm (by rw [I.ok.blt]; exact h1.keeps I.bk) ((h2 x hn).trans hv) h) hd
theorem pe_glob {x:Str}{v:V}{u:Value}{pos:Pos}(hg:Gl X x)(hm:X.mg x=some u)(r:RelV v u)(hd:(x == ("__debug__":Str))=false:=by decide):PE X (.Name x pos) (tC v) :=
  fun _ _ _ H _ I h=>ld_glob I hg hm ⟨v,H,I,r,h⟩ hd
theorem pe_bltn {x:Str}{v:V}{u:Value}{pos:Pos}(hg:Gl X x)(hm:X.mg x=none)(hv:bootBuiltins x=some u)(r:RelV v u)(hn:x≠"__name__":=by decide)(hd:(x == ("__debug__":Str))=false:=by decide):PE X (.Name x pos) (tC v) :=
  fun _ _ _ H _ I h=>ld_blt I hg hm hv ⟨v,H,I,r,h⟩ hn hd
variable {a b:Expr}{ta tb:TE}{pos:Pos}
def PC (X:Cx)(op:CmpOp)(a b:Expr)(t:TE):Prop :=
  ∀ (pins:List (Addr×Obj)) (s:Shared) (σ:St) (H:Hp) (Q:VK),Inv X pins σ H s→t σ H Q →
    wpAny (model X.prog X.w) X.A (eval a X.env) (fun v s₁=>wpAny (model X.prog X.w) X.A (eval b X.env) (fun u s₂=>wpAny (model X.prog X.w) X.A (compareOp op v u) (EP X pins σ Q) X.xe s₂) X.xe s₁) X.xe s
def tB (t:TE):TT:=fun σ H Q=>t σ H fun x H1=>∃ c,x=.bl c∧Q c H1
theorem pt_cmp {op:CmpOp}{t:TE}(h:PC X op a b t)(h1:behindInMarks op b=false:=by first | exact nobehind _ (by decide) (by decide) | rfl):PT X (.Compare a [op] [b] pos) (tB t):=by
  intro pins s σ H Q I hw
  refine wpAny_isTrue_Compare1 (thn (h pins s σ H _ I hw) fun v s1 h1=>thn h1 fun u s2 h2=>thn h2 fun c s3 ⟨x,H1,I1,r1,q1⟩=>?_) h1
  obtain ⟨d,rfl,q⟩:=q1
  cases r1
  exact wpAny_truthy_bool ⟨H1,I1,q⟩
theorem pt_val {e:Expr}{t:TE}(h:PE X e t)(he:∀ whole,isTrue e X.env whole=(do let v ← whole; standAt e.pos; holding [v] (truthy v)):=by intro _; rfl):PT X e (tB t):=by
  intro pins s σ H Q I hw
  refine isTrue_plain (thn (h pins s σ H _ I hw) fun v s1 ⟨x,H1,I1,r1,q1⟩=>?_) (he _)
  obtain ⟨d,rfl,q⟩:=q1
  cases r1
  exact wpAny_truthy_bool ⟨H1,I1,q⟩
variable {tA tB':TT}{rest:List Expr}
def tAnd (t u:TT):TT:=fun σ H Q=>t σ H fun c H1=>if c=true then u σ H1 Q else Q false H1
def tOr (t u:TT):TT:=fun σ H Q=>t σ H fun c H1=>if c=true then Q true H1 else u σ H1 Q
def tNot (t:TT):TT:=fun σ H Q=>t σ H fun c H1=>Q (!c) H1
theorem pw_and1 (ha:PT X a tA):PW X (.BoolOp .And [a] pos) tA:=by
  intro wh pins s σ H Q I h
  refine isTrue_and (thn (ha pins s σ H Q I h) fun c s1 e=>?_)
  cases c with
  | true=>exact isTrue_and_nil e
  | false=>exact e
theorem pw_or1 (ha:PT X a tA):PW X (.BoolOp .Or [a] pos) tA:=by
  intro wh pins s σ H Q I h
  refine isTrue_or (thn (ha pins s σ H Q I h) fun c s1 e=>?_)
  cases c with
  | false=>exact isTrue_or_nil e
  | true=>exact e
theorem pw_and (ha:PT X a tA)(hb:PW X (.BoolOp .And (b::rest) pos) tB'):PW X (.BoolOp .And (a::b::rest) pos) (tAnd tA tB'):=by
  intro wh pins s σ H Q I h
  refine isTrue_and (thn (ha pins s σ H _ I h) fun c s1 ⟨H1,I1,q1⟩=>?_)
  cases c with
  | true=>exact hb wh pins s1 σ H1 Q I1 q1
  | false=>exact ⟨H1,I1,q1⟩
theorem pw_or (ha:PT X a tA)(hb:PW X (.BoolOp .Or (b::rest) pos) tB'):PW X (.BoolOp .Or (a::b::rest) pos) (tOr tA tB'):=by
  intro wh pins s σ H Q I h
  refine isTrue_or (thn (ha pins s σ H _ I h) fun c s1 ⟨H1,I1,q1⟩=>?_)
  cases c with
  | true=>exact ⟨H1,I1,q1⟩
  | false=>exact hb wh pins s1 σ H1 Q I1 q1
theorem pt_not (ha:PT X a tA):PT X (.UnaryOp .Not a pos) (tNot tA):=by
  intro pins s σ H Q I h
  exact isTrue_not (ha pins s σ H (fun c H1=>Q (!c) H1) I h)
def tAndV (ta tb:TE):TE:=fun σ H Q=>ta σ H fun x H1=>∃ c,x=.bl c∧if c=true then tb σ H1 Q else Q (.bl false) H1
def tNotV (ta:TE):TE:=fun σ H Q=>ta σ H fun x H1=>∃ c,x=.bl c∧Q (.bl (!c)) H1
theorem pe_one {op}{t:TE}(h:PE X a t):PE X (.BoolOp op [a] pos) t:=fun pins s σ H Q I hw=>BoolOp_one (h pins s σ H Q I hw)
theorem pe_and (ha:PE X a ta)(hb:PE X (.BoolOp .And (b::rest) pos) tb):PE X (.BoolOp .And (a::b::rest) pos) (tAndV ta tb):=by
  intro pins s σ H Q I h
  refine BoolOp_and (thn (ha pins s σ H _ I h) fun v s1 ⟨x,H1,I1,r1,q1⟩=>?_)
  obtain ⟨c,rfl,q1⟩:=q1
  cases r1
  refine wpAny_truthy_bool ?_
  cases c with
  | true=>exact hb pins s1 σ H1 Q I1 q1
  | false=>exact ⟨.bl false,H1,I1,rfl,q1⟩
theorem pe_not (ha:PE X a ta):PE X (.UnaryOp .Not a pos) (tNotV ta):=by
  intro pins s σ H Q I h
  refine UnaryOp_ (thn (ha pins s σ H _ I h) fun v s1 ⟨x,H1,I1,r1,q1⟩=>?_)
  obtain ⟨c,rfl,q1⟩:=q1
  cases r1
  exact not_of (wpAny_truthy_bool ⟨.bl (!c),H1,I1,rfl,q1⟩)
end
end L2
namespace L2
open PySem PySem.Spec PyProof.Rows
def SqL (K:PySem.W.Frag)(H:Hp)(a:Addr)(xs:List V):Prop :=
  Rd H a (.lst xs) ∨
    ∃ (o:Obj) (its:Array Value) (n:Nat),K.lookup a=some o∧o.cls=.type "list"∧o.dict=none∧o.data=.seq its n∧its.size≤sizeLine∧Vals xs its.toList
def SqT (K:PySem.W.Frag)(H:Hp)(a:Addr)(xs:List V):Prop :=
  Rd H a (.tup xs) ∨
    ∃ (o:Obj) (its:Array Value) (n:Nat),K.lookup a=some o∧o.cls=.type "tuple"∧o.data=.seq its n∧its.size≤sizeLine∧Vals xs its.toList
def absV:Value→Option V
  | .none=>some .non
  | .bool b=>some (.bl b)
  | .int i _=>some (.int i)
  | .str x _=>some (.str x)
  | .bytes b _=>some (.byt b)
  | .float b _=>some (.flt b)
  | .ref a=>some (.ref a)
  | .type n=>some (.ty n)
  | _=>none
theorem RelV.abs {x:V}{u:Value}(r:RelV x u):absV u=some x:=by
  cases x with
  | non=>cases r; rfl
  | bl _=>cases r; rfl
  | int _=>obtain ⟨t,rfl⟩:=r; rfl
  | str _=>obtain ⟨t,rfl⟩:=r; rfl
  | byt _=>obtain ⟨t,rfl⟩:=r; rfl
  | flt _=>obtain ⟨t,rfl⟩:=r; rfl
  | ref _=>cases r; rfl
  | ty _=>cases r; rfl
theorem RelV.inj {x y:V}{u:Value}(r:RelV x u)(q:RelV y u):x=y:=Option.some.inj (r.abs.symm.trans q.abs)
theorem Vals.inj:∀ {xs ys:List V} {us:List Value},Vals xs us→Vals ys us→xs=ys
  | _,_,_,.nil,.nil=>rfl
  | _,_,_,.cons r t,.cons r' t'=>by rw [r.inj r',Vals.inj t t']
section
variable {X:Cx}{pins:List (Addr×Obj)}{σ:St}{H:Hp}{s:Shared}{a:Addr}{xs ys:List V}
theorem SqL.of {K:PySem.W.Frag}(h:H a=some (.lst xs)):SqL K H a xs:=.inl (.inl h)
theorem SqT.of {K:PySem.W.Frag}(h:H a=some (.tup xs)):SqT K H a xs:=.inl (.inl h)
theorem Inv.list (I:Inv X pins σ H s)(h:SqL X.K H a xs):∃ its:List Value,Vals xs its∧PlainL s.heap a its.toArray∧xs.length≤sizeLine:=by
  rcases h with h | ⟨o,its,n,hk,hc,hd,hs,hz,r⟩
  · obtain ⟨z,its,n,r,e⟩:=h.ok I.hok
    exact ⟨its,r,⟨_,n,e,rfl,rfl,rfl⟩,z⟩
  · refine ⟨its.toList,r,⟨o,n,I.kIn a o hk,hc,hd,by simpa using hs⟩,?_⟩
    have e:=r.length
    simp only [Array.length_toList] at e
    omega
theorem Inv.tuple (I:Inv X pins σ H s)(h:SqT X.K H a xs):∃ its:List Value,Vals xs its∧IsTup s.heap a its.toArray∧xs.length≤sizeLine:=by
  rcases h with h | ⟨o,its,n,hk,hc,hs,hz,r⟩
  · obtain ⟨z,its,r,p⟩:=h.ok I.hok
    exact ⟨its,r,p,z⟩
  · refine ⟨its.toList,r,⟨o,I.kIn a o hk,hc,n,by simpa using hs⟩,?_⟩
    have e:=r.length
    simp only [Array.length_toList] at e
    omega
theorem Inv.list_inj (I:Inv X pins σ H s)(h:SqL X.K H a xs)(h':SqL X.K H a ys):xs=ys:=by
  obtain ⟨its,r,⟨o,n,e,_,_,d⟩,_⟩:=I.list h
  obtain ⟨its',r',⟨o',n',e',_,_,d'⟩,_⟩:=I.list h'
  rw [e] at e'; cases e'
  rw [d] at d'
  injection d' with d1 _
  have:its=its':=by simpa using congrArg Array.toList d1
  subst this
  exact r.inj r'
theorem Inv.tuple_inj (I:Inv X pins σ H s)(h:SqT X.K H a xs)(h':SqT X.K H a ys):xs=ys:=by
  obtain ⟨its,r,⟨o,e,_,n,d⟩,_⟩:=I.tuple h
  obtain ⟨its',r',⟨o',e',_,n',d'⟩,_⟩:=I.tuple h'
  rw [e] at e'; cases e'
  rw [d] at d'
  injection d' with d1 _
  have:its=its':=by simpa using congrArg Array.toList d1
  subst this
  exact r.inj r'
end
abbrev Cx.wish (X:Cx)(E:Value→Shared→Prop):Cx:={ X with xe:=E }
abbrev Cx.nox (X:Cx):Cx:=X.wish fun _ _=>False
theorem Cx.Ok.wish {X:Cx}(ok:X.Ok)(E:Value→Shared→Prop):(X.wish E).Ok :=
  ⟨ok.mod,ok.kind,ok.glob,ok.blt,ok.above,ok.inj,ok.has,ok.cab,ok.hd,ok.frames,ok.stk,ok.exf,ok.bs,ok.bsz,ok.noex,ok.exfs,ok.funs,ok.frf⟩
theorem Cx.Ok.unwish {X:Cx}{E:Value→Shared→Prop}(ok:(X.wish E).Ok):X.Ok :=
  ⟨ok.mod,ok.kind,ok.glob,ok.blt,ok.above,ok.inj,ok.has,ok.cab,ok.hd,ok.frames,ok.stk,ok.exf,ok.bs,ok.bsz,ok.noex,ok.exfs,ok.funs,ok.frf⟩
section
variable {X:Cx}{pins:List (Addr×Obj)}{σ:St}{H:Hp}{s:Shared}{E:Value→Shared→Prop}
theorem Inv.wish (I:Inv X pins σ H s)(E:Value→Shared→Prop):Inv (X.wish E) pins σ H s:=⟨I.ok.wish E,I.os,I.bare,I.base,I.loc,I.cell,I.free,I.freeC,I.pin,I.hok,I.len⟩
theorem Inv.unwish (I:Inv (X.wish E) pins σ H s):Inv X pins σ H s:=⟨I.ok.unwish,I.os,I.bare,I.base,I.loc,I.cell,I.free,I.freeC,I.pin,I.hok,I.len⟩
theorem SP.unwish {D:Ends}{f:Flow}{s':Shared}(h:SP (X.wish E) pins D f s'):SP X pins D f s':=by
  cases f with
  | next=>obtain ⟨σ',H',I,q⟩:=h; exact ⟨σ',H',I.unwish,q⟩
  | brk=>obtain ⟨σ',H',I,q⟩:=h; exact ⟨σ',H',I.unwish,q⟩
  | cont=>obtain ⟨σ',H',I,q⟩:=h; exact ⟨σ',H',I.unwish,q⟩
  | ret u=>obtain ⟨v,σ',H',I,r,q⟩:=h; exact ⟨v,σ',H',I.unwish,r,q⟩
theorem PE.nox {e:Expr}{t:TE}(h:PE X.nox e t):PE X e t:=fun pins s σ H Q I hw =>
  wpAny_mono (h pins s σ H Q (I.wish _) hw) (fun _ _ ⟨v,H',I',r,q⟩=>⟨v,H',I'.unwish,r,q⟩) fun _ _ z=>False.elim z
theorem PT.nox {e:Expr}{t:TT}(h:PT X.nox e t):PT X e t:=fun pins s σ H Q I hw =>
  wpAny_mono (h pins s σ H Q (I.wish _) hw) (fun _ _ ⟨H',I',q⟩=>⟨H',I'.unwish,q⟩) fun _ _ z=>False.elim z
theorem PSs.nox {st:List Stmt}{t:TS}(h:PSs X.nox st t):PSs X st t:=fun pins s σ H D I hw =>
  wpAny_mono (h pins s σ H D (I.wish _) hw) (fun _ _ q=>q.unwish) fun _ _ z=>False.elim z
end
section
variable {X:Cx}{st:Stmt}{rest:List Stmt}{t u:TS}{e:Expr}{te:TE}{pos:Pos}
def tNext:TS:=fun D σ H=>D.nx σ H
def tSeq (t u:TS):TS:=fun D σ H=>t { D with nx:=u D } σ H
theorem pss_nil:PSs X [] tNext:=fun _ _ σ H _ I h=>wpAny_execs_nil ⟨σ,H,I,h⟩
theorem pss_cons (h1:PS X st t)(h2:PSs X rest u):PSs X (st::rest) (tSeq t u):=by
  intro pins s σ H D I h
  refine wpAny_execs_cons (thn (h1 pins s σ H { D with nx:=u D } I h) fun f s1 q=>?_)
  cases f with
  | next =>
    obtain ⟨σ',H',I',q⟩:=q
    exact h2 pins s1 σ' H' D I' q
  | ret v=>exact q
  | brk=>exact q
  | cont=>exact q
theorem pss_one (h1:PS X st t):PSs X [st] t:=by
  intro pins s σ H D I h
  refine wpAny_execs_cons (thn (h1 pins s σ H D I h) fun f s1 q=>?_)
  cases f with
  | next=>exact wpAny_execs_nil q
  | ret v=>exact q
  | brk=>exact q
  | cont=>exact q
theorem Inv.quiet {pins:List (Addr×Obj)}{σ:St}{H:Hp}{s:Shared}(I:Inv X pins σ H s):interactive X.env=false:=by simp [interactive,I.ok.kind]
def tDrop (te:TE):TS:=fun D σ H=>te σ H fun _ H1=>D.nx σ H1
theorem ps_expr (he:PE X e te)(hs:swapsWith e none pos.line X.env=pure false:=by rfl):PS X (.Expr e pos) (tDrop te):=by
  intro pins s σ H D I h
  exact wpAny_Expr_any (thn (he pins s σ H _ I h) fun v s1 ⟨x,H1,I1,r1,q1⟩=>⟨σ,H1,I1,q1⟩) I.quiet hs
def tRet (te:TE):TS:=fun D σ H=>te σ H D.rt
theorem ps_ret (he:PE X e te):PS X (.Return (some e) pos) (tRet te):=by
  intro pins s σ H D I h
  exact wpAny_Return_some (thn (he pins s σ H _ I h) fun v s1 ⟨x,H1,I1,r1,q1⟩=>⟨x,σ,H1,I1,r1,q1⟩)
def tIfS (c:TT)(t u:TS):TS:=fun D σ H=>c σ H fun b H1=>if b=true then t D σ H1 else u D σ H1
theorem ps_if {c:Expr}{a b:List Stmt}{tc:TT}(hc:PT X c tc)(ha:PSs X a t)(hb:PSs X b u):PS X (.If c a b pos) (tIfS tc t u):=by
  intro pins s σ H D I h
  refine wpAny_If (thn (hc pins s σ H _ I h) fun d s1 ⟨H1,I1,q1⟩=>?_)
  cases d with
  | true=>exact ha pins s1 σ H1 D I1 q1
  | false=>exact hb pins s1 σ H1 D I1 q1
end
abbrev TG:=V→St→Hp→(St→Hp→Prop)→Prop
abbrev TGs:=List V→St→Hp→(St→Hp→Prop)→Prop
def PG (X:Cx)(target:Expr)(t:TG):Prop :=
  ∀ (pins:List (Addr×Obj)) (s:Shared) (σ:St) (H:Hp) (v:V) (u:Value) (Q:St→Hp→Prop),Inv X pins σ H s→RelV v u→t v σ H Q →
    wpAny (model X.prog X.w) X.A (assign target X.env u) (fun _ s'=>∃ σ' H',Inv X pins σ' H' s'∧Q σ' H') X.xe s
def PGs (X:Cx)(ts:List Expr)(t:TGs):Prop :=
  ∀ (pins:List (Addr×Obj)) (s:Shared) (σ:St) (H:Hp) (vs:List V) (us:List Value) (Q:St→Hp→Prop),Inv X pins σ H s→Vals vs us→t vs σ H Q →
    wpAny (model X.prog X.w) X.A (assignInOrder ((assignEach ts X.env).map (·.2)) us) (fun _ s'=>∃ σ' H',Inv X pins σ' H' s'∧Q σ' H') X.xe s
section
variable {X:Cx}{pos:Pos}
def gName (i:Nat):TG:=fun v σ H Q=>Q (σ.set i (some v)) H
theorem pg_name {i:Nat}{x:Str}(hN:X.N.Nodup)(hi:X.N[i]?=some x)(hx:Loc X.env.scope x)(hf:X.fn x=true∨X.env.scope.names.lookup x=some .local:=by first | exact .inl rfl | exact .inr rfl | assumption):PG X (.Name x pos) (gName i):=by
  intro pins s σ H v u Q I r h
  exact wpAny_assign_Name (store_ok I hN hi hx r (fun s' I'=>⟨_,H,I',h⟩) hf)
def gNil:TGs:=fun vs σ H Q=>vs=[]∧Q σ H
def gCons (t:TG)(u:TGs):TGs:=fun vs σ H Q=>∃ v r,vs=v::r∧t v σ H fun σ' H'=>u r σ' H' Q
theorem pgs_nil:PGs X [] gNil:=by
  intro pins s σ H vs us Q I r h
  obtain ⟨e,h⟩:=h
  subst e
  cases r
  exact assignInOrder_nil ⟨σ,H,I,h⟩
theorem pgs_cons {e:Expr}{es:List Expr}{t:TG}{u:TGs}(h1:PG X e t)(h2:PGs X es u)
    (hs:(assignEach (e::es) X.env).map (·.2)=assign e X.env::(assignEach es X.env).map (·.2):=by rfl):PGs X (e::es) (gCons t u):=by
  intro pins s σ H vs us Q I r h
  obtain ⟨v,vr,e1,h⟩:=h
  subst e1
  cases r with
  | cons r rr =>
    rw [hs]
    refine assignInOrder_cons (thn (h1 pins s σ H _ _ _ I r h) fun _ s1 ⟨σ1,H1,I1,q1⟩=>?_)
    exact h2 pins s1 σ1 H1 _ _ Q I1 rr q1
def gTup (K:PySem.W.Frag)(n:Nat)(t:TGs):TG:=fun v σ H Q=>∃ a xs,v=.ref a∧SqT K H a xs∧xs.length=n∧t xs σ H Q
theorem pg_tup {es:List Expr}{k:Nat}{t:TGs}{n:Nat}(hc:X.calm=true)(h:PGs X es t)
    (hn:(assignEach es X.env).length=n:=by rfl) (hst:(assignEach es X.env).findIdx? (·.1)=none:=by rfl):PG X (.Tuple es k pos) (gTup X.K n t):=by
  intro pins s σ H v u Q I r hw
  obtain ⟨a,xs,e1,hq,hl,hw⟩:=hw
  subst e1
  cases r
  obtain ⟨its,rv,ht,hz⟩:=I.tuple hq
  refine assign_Tuple_tuple (I.ok.hd hc) ht (by simp [hn,← hl,rv.length]) hst fun h' hx=>?_
  have I1:Inv X pins σ H { s with heap:=h' }:=I.kept (t':=s.toks) fun b o e=>hx b o (Nat.ne_of_lt (Heap.lt_size e)) e
  exact h pins _ σ H xs _ Q I1 (by simpa using rv) hw
def tAsg (te:TE)(g:TG):TS:=fun D σ H=>te σ H fun x H1=>g x σ H1 D.nx
theorem ps_asg {tg e:Expr}{te:TE}{g:TG}(he:PE X e te)(hg:PG X tg g)(hs:swapsWithSole [tg] e pos.line X.env=pure false:=by rfl)(hw:swappedStores [tg] e X.env=pure none:=by rfl)
    (h1:(assignEach [tg] X.env).map (·.2)=[assign tg X.env]:=by rfl):PS X (.Assign [tg] e pos) (tAsg te g):=by
  intro pins s σ H D I h
  refine wpAny_Assign_stores (thn (he pins s σ H _ I h) fun v s1 ⟨x,H1,I1,r1,q1⟩=>?_) hs hw
  rw [h1]
  exact thn (hg pins s1 σ H1 x v _ I1 r1 q1) fun _ s2 q=>q
theorem ps_set {i:Nat}{x:Str}{e:Expr}{te:TE}{pos':Pos}(hN:X.N.Nodup)(hi:X.N[i]?=some x)(hx:Loc X.env.scope x)(he:PE X e te)(hs:swapsWith e (some (.Name x pos')) pos.line X.env=pure false:=by rfl)(hf:X.fn x=true∨X.env.scope.names.lookup x=some .local:=by first | exact .inl rfl | exact .inr rfl | assumption) :
    PS X (.Assign [.Name x pos'] e pos) (tAsg te (gName i)):=by
  intro pins s σ H D I h
  refine wpAny_Assign_Name (thn (he pins s σ H _ I h) fun v s1 ⟨y,H1,I1,r1,q1⟩=>?_) hs
  exact store_ok I1 hN hi hx r1 (fun s2 I2=>⟨_,H1,I2,q1⟩) hf
end
section
variable {X:Cx}{pos:Pos}
end
structure It where
  go:Nat→Hp→Prop
  yld:Nat→Hp→V→Hp→Prop
  stop:Nat→Hp→Prop
def FpOk (X:Cx)(pins:List (Addr×Obj))(H:Hp)(b:Addr):Prop :=
  H b=none∧b≠X.env.locals∧b∉X.fs∧(b∈X.ex∨X.s₀.heap.objs.size≤b)∧(∀ x c,X.env.cells.lookup x=some c→c≠b)∧∀ p∈X.pn++pins,p.1≠b
theorem Inv.fpOk {X:Cx}{pins:List (Addr×Obj)}{σ:St}{H H':Hp}{s:Shared}{b:Addr}(I:Inv X pins σ H s)(hb:s.heap.objs.size≤b)(hn:H' b=none):FpOk X pins H' b:=by
  refine ⟨hn,Nat.ne_of_gt (Nat.lt_of_lt_of_le I.lt hb),I.nofs hb,.inr (Nat.le_trans I.sz hb),fun x c e z=>?_,fun p hp z=>?_⟩
  · obtain ⟨v,q⟩:=I.cell x c e
    exact absurd (Nat.lt_of_lt_of_le q.lt (by rw [z]; exact hb)) (Nat.lt_irrefl _)
  · exact absurd (Nat.lt_of_lt_of_le (Heap.lt_size (I.pin p hp).1) (by rw [z]; exact hb)) (Nat.lt_irrefl _)
structure Turn (P:Program)(w:World)(K:PySem.W.Frag)(tg:Expr)(J:It)(fp:List Addr)(it:Addr)(tn:Nat→Heap→Prop):Prop where
  mem:it∈fp
  obj:∀ i h,tn i h→∀ b∈fp,∃ o,h.get? b=some o∧∀ v,o.data≠.cell v
  keep:∀ i h h',tn i h→(∀ b∈fp,∀ o,h.get? b=some o→h'.get? b=some o)→tn i h'
  item:∀ (X:Cx),X.prog=P→X.w=w→X.K=K→X.calm=true→∀ (i:Nat) (pins:List (Addr×Obj)) (s:Shared) (σ:St) (H:Hp) (E:Value→Shared→Prop),Inv X pins σ H s→(∀ b∈fp,FpOk X pins H b)→tn i s.heap→J.go i H →
    wpAny (model P w) X.A (pyNext (.ref it)) (fun r s1=>∃ u,r=some u ∧
      wpAny (model P w) X.A (letOwnedTupleGo tg (.ref it) u) (fun _ s2=>∃ x H',Inv X pins σ H' s2∧RelV x u∧J.yld i H x H'∧tn (i+1) s2.heap∧∀ b∈fp,H' b=none) E s1) E s
  done:∀ (X:Cx),X.prog=P→X.w=w→X.K=K→X.calm=true→∀ (i:Nat) (pins:List (Addr×Obj)) (s:Shared) (σ:St) (H:Hp) (E:Value→Shared→Prop),Inv X pins σ H s→(∀ b∈fp,FpOk X pins H b)→tn i s.heap→J.stop i H →
    wpAny (model P w) X.A (pyNext (.ref it)) (fun r s1=>r=none∧Inv X pins σ H s1) E s
  self:∀ (A:Around) (i:Nat) (s:Shared) (Q:Value→Shared→Prop) (E:Value→Shared→Prop),tn i s.heap→Q (.ref it) s→wpAny (model P w) A (pyIter (.ref it)) Q E s
abbrev TI:=St→Hp→(It→Hp→Prop)→Prop
def PIE (X:Cx)(pins:List (Addr×Obj))(σ:St)(tg:Expr)(R:It→Hp→Prop)(itv:Value)(s2:Shared):Prop :=
  ∃ (it:Addr) (fp:List Addr) (tn:Nat→Heap→Prop) (J:It) (H':Hp),itv=.ref it∧Inv X pins σ H' s2∧Turn X.prog X.w X.K tg J fp it tn∧tn 0 s2.heap∧(∀ b∈fp,FpOk X pins H' b)∧R J H'
def PI (X:Cx)(tg iter:Expr)(wi:TI):Prop :=
  ∀ (pins:List (Addr×Obj)) (s:Shared) (σ:St) (H:Hp) (R:It→Hp→Prop),Inv X pins σ H s→wi σ H R →
    wpAny (model X.prog X.w) X.A (eval iter X.env) (fun v s1=>wpAny (model X.prog X.w) X.A (pyIter v) (PIE X pins σ tg R) X.xe s1) X.xe s
theorem go_of {M:Model}{A:Around}{E:Value→Shared→Prop}{s:Shared}{tg:Expr}{it:Addr}{u:Value}{o:Obj}{n:String}{vs:Array Value}{Q:Unit→Shared→Prop}(ho:s.heap.get? it=some o)(hc:o.cls=.type n)(hd:o.data=.fields vs)
    (hn:["enumerate","zip","dict_itemiterator","dict_reverseitemiterator","odict_iterator","itertools.zip_longest","itertools.pairwise"].contains n=false) (hQ:Q () s):wpAny M A (letOwnedTupleGo tg (.ref it) u) Q E s:=by
  unfold letOwnedTupleGo
  cases tg <;> first
    | exact wpAny_pure hQ
    | (cases u <;> first
        | exact wpAny_pure hQ
        | (refine wpAny_bind (wpAny_load ho ?_)
           rw [hc,hd]
           show wpAny M A (if (["enumerate","zip","dict_itemiterator","dict_reverseitemiterator","odict_iterator","itertools.zip_longest","itertools.pairwise"].contains n && vs[0]? == some (rawInt _))=true then _ else _) Q E s
           rw [if_neg (by intro h; rw [hn,Bool.false_and] at h; cases h)]
           exact wpAny_pure hQ))
def Itl (K:PySem.W.Frag)(a:Addr):It :=
  ⟨fun i H=>∃ xs x,SqL K H a xs∧xs[i]?=some x,fun i H x H'=>H'=H∧∀ xs,SqL K H a xs→xs[i]?=some x,fun i H=>∃ xs,SqL K H a xs∧xs.length≤i⟩
def Itt (K:PySem.W.Frag)(a:Addr):It :=
  ⟨fun i H=>∃ xs x,SqT K H a xs∧xs[i]?=some x,fun i H x H'=>H'=H∧∀ xs,SqT K H a xs→xs[i]?=some x,fun i H=>∃ xs,SqT K H a xs∧xs.length≤i⟩
def Itr (lo:Int)(n:Nat):It:=⟨fun i _=>i<n,fun i H x H'=>H'=H∧x=.int (lo+i),fun i _=>n≤i⟩
theorem turn_list {P:Program}{w:World}{K:PySem.W.Frag}{tg:Expr}(a it:Addr):Turn P w K tg (Itl K a) [it] it (fun i h=>h.IsListIter it a i) where
  mem:=by simp
  obj:=fun i h st b hb=>by
    have e:b=it:=by simpa using hb
    subst e
    obtain ⟨o,e,c,d⟩:=st
    exact ⟨o,e,fun v z=>by rw [d] at z; cases z⟩
  keep:=fun i h h' st k=>st.at fun o e=>k it (by simp) o e
  item:=by
    intro X hP hw hK hc i pins s σ H E I hf st hg
    subst hP hw hK
    obtain ⟨xs,x,hq,hx⟩:=hg
    obtain ⟨its,rv,p,hz⟩:=I.list hq
    obtain ⟨u,hu,ru⟩:=rv.get hx
    obtain ⟨f0,f1,f2,f3,f4,f5⟩:=hf it (by simp)
    refine wpAny_pyNext_list_item st p.isList (x:=u) (by simpa using hu) fun h' st' sb=>?_
    have I1:Inv X pins σ H { s with heap:=h' }:=I.turned (t':=s.toks) (fun b o hb e=>(sb.2 b hb).trans e) f0 f1 f3 f4 f5
    obtain ⟨o,e,c,d⟩:=id st'
    exact ⟨u,rfl,go_of (s:={ s with heap:=h' }) e c d (by decide) ⟨x,H,I1,ru,⟨rfl,fun ys hy=>by rw [I.list_inj hy hq]; exact hx⟩,st',fun b hb=>(hf b hb).1⟩⟩
  done:=by
    intro X hP hw hK hc i pins s σ H E I hf st hg
    subst hP hw hK
    obtain ⟨xs,hq,hx⟩:=hg
    obtain ⟨its,rv,p,hz⟩:=I.list hq
    obtain ⟨f0,f1,f2,f3,f4,f5⟩:=hf it (by simp)
    have hl:=rv.length
    exact wpAny_pyNext_list_end (I.ok.hd hc) st p.isList (by simp; omega) fun h' eb=>⟨rfl,I.turned (t':=s.toks) (fun b o hb e=>eb b o hb e) f0 f1 f3 f4 f5⟩
  self:=fun _ _ _ _ _ st h=>wpAny_pyIter_listiter st h
theorem turn_range {P:Program}{w:World}{K:PySem.W.Frag}{tg:Expr}(it:Addr)(lo:Int)(n:Nat):Turn P w K tg (Itr lo n) [it] it (fun i h=>IsRangeIter h it (lo+(i:Nat) * 1) ((n:Int) - (i:Nat)) 1) where
  mem:=by simp
  obj:=fun i h st b hb=>by
    have e:b=it:=by simpa using hb
    subst e
    exact ⟨_,st,fun v z=>by
      have z':Data.fields _=Data.cell v:=z
      cases z'⟩
  keep:=fun i h h' st k=>k it (by simp) _ st
  item:=by
    intro X hP hw hK hc i pins s σ H E I hf st hg
    subst hP hw hK
    obtain ⟨f0,f1,f2,f3,f4,f5⟩:=hf it (by simp)
    have W:=Walks.range (prog:=X.prog) (w:=X.w) (I.ok.hd hc) it lo 1 n
    refine W.item i s _ _ hg st fun v h' tk hv st' kk=>?_
    obtain ⟨t,rfl⟩:=hv
    have I1:Inv X pins σ H { s with heap:=h',toks:=tk }:=I.turned (fun b o hb e=>kk b o (by simpa using hb) e) f0 f1 f3 f4 f5
    refine ⟨_,rfl,go_of (s:={ s with heap:=h',toks:=tk }) (n:="range_iterator") st' rfl rfl (by decide) ⟨.int (lo+i),H,I1,⟨t,?_⟩,⟨rfl,rfl⟩,st',fun b hb=>(hf b hb).1⟩⟩
    rw [Int.mul_one]
  done:=by
    intro X hP hw hK hc i pins s σ H E I hf st hg
    subst hP hw hK
    obtain ⟨f0,f1,f2,f3,f4,f5⟩:=hf it (by simp)
    exact wpAny_pyNext_range_end (I.ok.hd hc) st (by have:n≤i:=hg; omega) fun h' eb=>⟨rfl,I.turned (t':=s.toks) (fun b o hb e=>eb b o hb e) f0 f1 f3 f4 f5⟩
  self:=fun _ _ _ _ _ st h=>wpAny_pyIter_rangeiter st h
end L2
namespace L2
open PySem PySem.Spec PyProof.Rows
section
variable {X:Cx}{tg:Expr}
def iList (K:PySem.W.Frag)(tl:TE):TI:=fun σ H R=>tl σ H fun x H1=>∃ a,x=.ref a∧(∃ xs,SqL K H1 a xs)∧R (Itl K a) H1
theorem pi_list {l:Expr}{tl:TE}(hl:PE X l tl):PI X tg l (iList X.K tl):=by
  intro pins s σ H R I h
  refine thn (hl pins s σ H _ I h) fun v s1 ⟨x,H1,I1,r1,q1⟩=>?_
  obtain ⟨a,e,⟨xs,hq⟩,q⟩:=q1
  subst e
  cases r1
  obtain ⟨its,rv,p,hz⟩:=I1.list hq
  refine wpAny_pyIter_list p.isList ?_
  refine ⟨s1.heap.objs.size,[s1.heap.objs.size],_,_,H1,rfl,I1.kept (t':=s1.toks) fun b o e=>Heap.get?_push_of_some _ e,turn_list a _,⟨_,Heap.get?_push_size _ rfl,rfl,rfl⟩,fun b hb=>?_,q⟩
  have e:b=s1.heap.objs.size:=by simpa using hb
  subst e
  exact I1.fpOk (Nat.le_refl _) (I1.hok.fresh (Nat.le_refl _))
theorem range_it {pins:List (Addr×Obj)}{σ:St}{H:Hp}{s:Shared}{R:It→Hp→Prop}{E:Value→Shared→Prop}{lo hi:Int}{t u v:Tok}{tk:Nat}(I:Inv X pins σ H s)(h1:-(2 ^ 62)≤lo)(h2:lo<2 ^ 62)(h3:-(2 ^ 62)≤hi)(h4:hi<2 ^ 62)
    (q:R (Itr lo (hi - lo).toNat) H):wpAny (model X.prog X.w) X.A (pyIter (.ref s.heap.objs.size)) (PIE X pins σ tg R) E { s with heap:=s.heap.push { cls:=.type "range",data:=.fields #[.int lo t,.int hi u,.int 1 v] },toks:=tk }:=by
  refine wpAny_pyIter_range (IsRange.new ..) (small_one h1 h2 h3 h4) ?_
  have I1:Inv X pins σ H { s with heap:=s.heap.push { cls:=.type "range",data:=.fields #[.int lo t,.int hi u,.int 1 v] },toks:=tk }:=I.kept fun b o e=>Heap.get?_push_of_some _ e
  refine ⟨(s.heap.push { cls:=.type "range",data:=.fields #[.int lo t,.int hi u,.int 1 v] }).objs.size,[(s.heap.push { cls:=.type "range",data:=.fields #[.int lo t,.int hi u,.int 1 v] }).objs.size],_,_,H,rfl,
    I1.kept (t':=tk) fun b o e=>Heap.get?_push_of_some _ e,turn_range _ lo (hi - lo).toNat,?_,fun b hb=>?_,q⟩
  · have e1:lo+((0:Nat):Int) * 1=lo:=by simp
    have e2:(((hi - lo).toNat:Nat):Int) - ((0:Nat):Int)=Builtin.Range.rangeSize lo hi 1:=by rw [rangeSize_one]; split <;> omega
    show IsRangeIter _ _ (lo+((0:Nat):Int) * 1) ((((hi - lo).toNat:Nat):Int) - ((0:Nat):Int)) 1
    rw [e1,e2]
    exact Heap.get?_push_size _ rfl
  · have e:b=(s.heap.push { cls:=.type "range",data:=.fields #[.int lo t,.int hi u,.int 1 v] }).objs.size:=by simpa using hb
    subst e
    exact I1.fpOk (Nat.le_refl _) (I1.hok.fresh (Nat.le_refl _))
def iRng1 (ta:TA):TI:=fun σ H R=>ta σ H fun vs H1=>∃ j:Int,vs=[.int j]∧-(2 ^ 62)≤j∧j<2 ^ 62∧R (Itr 0 j.toNat) H1
theorem pi_range1 {a:Expr}{ta:TA}{p pos:Pos}(hg:Gl X "range")(hm:X.mg "range"=none)(ha:PA X [a] ta)(hs:starEach [a] X.env=[(false,eval a X.env)]:=by rfl):PI X tg (.Call (.Name "range" p) [a] [] pos) (iRng1 ta):=by
  intro pins s σ H R I h
  refine Call_ (ld_blt I hg hm boot_range (PyProof.Rows.callWith_type1 (thn (ha pos pins s σ H _ I h) fun us s1 ⟨vs,H1,I1,r1,q1⟩=>?_) hs rfl))
  obtain ⟨j,e,q1,q2,q⟩:=q1
  subst e
  cases r1 with
  | cons r rr =>
    cases rr
    obtain ⟨t,rfl⟩:=r
    exact call_range_1 (range_it I1 (by omega) (by omega) q1 q2 (by simpa using q))
def tFor (wi:TI)(g:TG)(tb:TS):TS:=fun D σ H=>wi σ H fun J H1=>∃ W:Nat→Nat→St→Hp→Prop,(∃ m,W 0 m σ H1)∧∀ i m σ H,W i m σ H →
  (J.stop i H∧D.nx σ H)∨(J.go i H∧∃ N:St→Hp→Prop,(∀ σ' H',N σ' H'→∃ m',m'<m∧W (i+1) m' σ' H')∧∀ x H',J.yld i H x H'→g x σ H' fun σ2 H2=>tb { D with nx:=N,ct:=N,bk:=D.nx } σ2 H2)
def pinsAt (fp:List Addr)(h:Heap):List (Addr×Obj):=fp.filterMap fun b=>(h.get? b).map fun o=>(b,o)
theorem mem_pinsAt {fp:List Addr}{h:Heap}{b:Addr}{o:Obj}(hb:b∈fp)(e:h.get? b=some o):(b,o)∈pinsAt fp h:=List.mem_filterMap.mpr ⟨b,hb,by rw [e]; rfl⟩
theorem of_pinsAt {fp:List Addr}{h:Heap}{p:Addr×Obj}(hp:p∈pinsAt fp h):p.1∈fp∧h.get? p.1=some p.2:=by
  obtain ⟨b,hb,e⟩:=List.mem_filterMap.mp hp
  cases q:h.get? b with
  | none=>rw [q] at e; cases e
  | some o =>
    rw [q] at e
    have e':(b,o)=p:=Option.some.inj e
    subst e'
    exact ⟨hb,q⟩
theorem Inv.pinned {pins:List (Addr×Obj)}{σ:St}{H:Hp}{s:Shared}{fp:List Addr}(I:Inv X pins σ H s)(hf:∀ b∈fp,FpOk X pins H b)(ho:∀ b∈fp,∃ o,s.heap.get? b=some o∧∀ v,o.data≠.cell v):Inv X (pins++pinsAt fp s.heap) σ H s :=
  I.pins_of fun p hp=>(List.mem_append.mp hp).elim (fun z=>I.pin p (List.mem_append_right _ z)) fun z=>by
    obtain ⟨hb,e⟩:=of_pinsAt z
    obtain ⟨f0,f1,f2,_⟩:=hf p.1 hb
    obtain ⟨o,e',d⟩:=ho p.1 hb
    rw [e] at e'; cases e'
    exact ⟨e,f0,f1,f2,d⟩
theorem Inv.unpinned {pins pl:List (Addr×Obj)}{σ:St}{H:Hp}{s:Shared}(I:Inv X (pins++pl) σ H s):Inv X pins σ H s:=I.pins_of fun p hp=>I.pin p (List.mem_append_right _ (List.mem_append_left _ hp))
theorem ps_for {iter:Expr}{body:List Stmt}{wi:TI}{g:TG}{tb:TS}{pos:Pos}(hp:PassesOwn (model X.prog X.w) X.A X.env X.xe)(hc:X.calm=true)(hi:PI X tg iter wi)(hg:PG X tg g)(hb:PSs X body tb)
    (hs:∀ x,foldedSetIterable iter X.env x=pure x:=by intro _; rfl):PS X (.For tg iter body [] pos) (tFor wi g tb):=by
  intro pins s σ H D I h
  refine wpAny_For (thn (hi pins s σ H _ I h) fun v s1 h1=>thn h1 fun itv s2 h2=>?_) hs
  obtain ⟨it,fp,tn,J,H2,e,I2,T,st2,f2,W,⟨m0,w0⟩,turn⟩:=h2
  subst e
  -- what stays true of the iterator's objects through the loop
  have stat:∀ {H':Hp},(∀ b∈fp,H' b=none)→∀ b∈fp,FpOk X pins H' b:=fun hn b hb=>⟨hn b hb,(f2 b hb).2⟩
  refine codeAny_forLoop_any (fun n s'=>∃ i σ' H',Inv X pins σ' H' s'∧tn i s'.heap∧(∀ b∈fp,H' b=none)∧W i n σ' H') ?_ m0 ⟨0,σ,H2,I2,st2,fun b hb=>(f2 b hb).1,w0⟩
  rintro n s3 ⟨i,σ3,H3,I3,st3,fr3,w3⟩
  rcases turn i n σ3 H3 w3 with ⟨stop,qn⟩ | ⟨go,N,hN,step⟩
  · refine wpAny_passesOwn hp (thn (T.done X rfl rfl rfl hc i pins s3 σ3 H3 X.xe I3 (stat fr3) st3 stop) fun r s4 ⟨hr,I4⟩=>?_)
    subst hr
    exact wpAny_execs_nil ⟨σ3,H3,I4,qn⟩
  · refine wpAny_passesOwn hp (thn (T.item X rfl rfl rfl hc i pins s3 σ3 H3 X.xe I3 (stat fr3) st3 go) fun r s4 ⟨u,hr,h4⟩=>?_)
    subst hr
    refine wpAny_passesOwn hp (thn h4 fun _ s5 ⟨x,H5,I5,r5,y5,st5,fr5⟩=>?_)
    have I5':=I5.pinned (stat fr5) (T.obj _ _ st5)
    refine wpAny_passesOwn hp (thn (hg _ s5 σ3 H5 x u _ I5' r5 (step x H5 y5)) fun _ s6 ⟨σ6,H6,I6,q6⟩=>?_)
    refine wpAny_passesOwn hp (thn (hb _ s6 σ6 H6 _ I6 q6) fun f s7 q7=>?_)
    have again:∀ {σ7:St} {H7:Hp},Inv X (pins++pinsAt fp s5.heap) σ7 H7 s7→N σ7 H7→∃ m,m<n∧∃ i σ' H',Inv X pins σ' H' s7∧tn i s7.heap∧(∀ b∈fp,H' b=none)∧W i m σ' H':=fun {σ7 H7} I7 n7=>by
      obtain ⟨m',hm,w7⟩:=hN σ7 H7 n7
      refine ⟨m',hm,i+1,σ7,H7,I7.unpinned,T.keep _ _ _ st5 fun b hb o e=>(I7.pin (b,o) (List.mem_append_right _ (List.mem_append_right _ (mem_pinsAt hb e)))).1,fun b hb=>?_,w7⟩
      obtain ⟨o,e,d⟩:=T.obj _ _ st5 b hb
      exact (I7.pin (b,o) (List.mem_append_right _ (List.mem_append_right _ (mem_pinsAt hb e)))).2.1
    cases f with
    | next=>obtain ⟨σ7,H7,I7,n7⟩:=q7; exact again I7 n7
    | cont=>obtain ⟨σ7,H7,I7,n7⟩:=q7; exact again I7 n7
    | brk=>obtain ⟨σ7,H7,I7,q7⟩:=q7; exact ⟨σ7,H7,I7.unpinned,q7⟩
    | ret v=>obtain ⟨x7,σ7,H7,I7,r7,q7⟩:=q7; exact ⟨x7,σ7,H7,I7.unpinned,r7,q7⟩
end
theorem for_list {K:PySem.W.Frag}{a:Addr}{xs:List V}{g:TG}{tb:TS}{D:Ends}{σ:St}{H:Hp}(Pv:Nat→St→Hp→Prop)(h0:Pv 0 σ H)(hl:∀ i σ H,i≤xs.length→Pv i σ H→SqL K H a xs)
    (hs:∀ i x σ H,xs[i]?=some x→Pv i σ H→g x σ H fun σ2 H2=>tb { D with nx:=Pv (i+1),ct:=Pv (i+1),bk:=D.nx } σ2 H2) (hd:∀ σ H,Pv xs.length σ H→D.nx σ H) :
    ∃ W:Nat→Nat→St→Hp→Prop,(∃ m,W 0 m σ H)∧∀ i m σ H,W i m σ H →
      ((Itl K a).stop i H∧D.nx σ H)∨((Itl K a).go i H∧∃ N:St→Hp→Prop,(∀ σ' H',N σ' H'→∃ m',m'<m∧W (i+1) m' σ' H')∧∀ x H',(Itl K a).yld i H x H'→g x σ H' fun σ2 H2=>tb { D with nx:=N,ct:=N,bk:=D.nx } σ2 H2):=by
  refine ⟨fun i m σ H=>m=xs.length - i∧i≤xs.length∧Pv i σ H,⟨xs.length,by simp,Nat.zero_le _,h0⟩,?_⟩
  rintro i m σ H ⟨rfl,hi,p⟩
  have q:=hl i σ H hi p
  by_cases hlt:i<xs.length
  · refine .inr ⟨⟨xs,xs[i],q,by simp [hlt]⟩,Pv (i+1),fun σ' H' p'=>⟨xs.length - (i+1),by omega,rfl,hlt,p'⟩,fun x H' y=>?_⟩
    obtain ⟨e,y⟩:=y
    subst e
    exact hs i x σ _ (y xs q) p
  · have e:i=xs.length:=by omega
    subst e
    exact .inl ⟨⟨xs,q,Nat.le_refl _⟩,hd σ H p⟩
theorem for_range {lo:Int}{n:Nat}{g:TG}{tb:TS}{D:Ends}{σ:St}{H:Hp}(Pv:Nat→St→Hp→Prop)(h0:Pv 0 σ H)
    (hs:∀ i σ H,i<n→Pv i σ H→g (.int (lo+i)) σ H fun σ2 H2=>tb { D with nx:=Pv (i+1),ct:=Pv (i+1),bk:=D.nx } σ2 H2) (hd:∀ σ H,Pv n σ H→D.nx σ H) :
    ∃ W:Nat→Nat→St→Hp→Prop,(∃ m,W 0 m σ H)∧∀ i m σ H,W i m σ H →
      ((Itr lo n).stop i H∧D.nx σ H)∨((Itr lo n).go i H∧∃ N:St→Hp→Prop,(∀ σ' H',N σ' H'→∃ m',m'<m∧W (i+1) m' σ' H')∧∀ x H',(Itr lo n).yld i H x H'→g x σ H' fun σ2 H2=>tb { D with nx:=N,ct:=N,bk:=D.nx } σ2 H2):=by
  refine ⟨fun i m σ H=>m=n - i∧i≤n∧Pv i σ H,⟨n,by simp,Nat.zero_le _,h0⟩,?_⟩
  rintro i m σ H ⟨rfl,hi,p⟩
  by_cases hlt:i<n
  · refine .inr ⟨hlt,Pv (i+1),fun σ' H' p'=>⟨n - (i+1),by omega,rfl,hlt,p'⟩,fun x H' y=>?_⟩
    obtain ⟨e,y⟩:=y
    subst e y
    exact hs i σ _ hlt p
  · have e:i=n:=by omega
    subst e
    exact .inl ⟨Nat.le_refl _,hd σ H p⟩
end L2
namespace L2
open PySem PySem.Spec PyProof.Rows
abbrev R2:=V→V→Hp→VK→Prop
def OpR (X:Cx)(f:Value→Value→Sem Value)(r:R2):Prop :=
  ∀ (pins:List (Addr×Obj)) (s:Shared) (σ:St) (H:Hp) (x y:V) (v u:Value) (Q:VK),Inv X pins σ H s→RelV x v→RelV y u→r x y H Q →
    wpAny (model X.prog X.w) X.A (f v u) (EP X pins σ Q) X.xe s
def UnR (X:Cx)(f:Value→Sem Value)(r:V→Hp→VK→Prop):Prop :=
  ∀ (pins:List (Addr×Obj)) (s:Shared) (σ:St) (H:Hp) (x:V) (v:Value) (Q:VK),Inv X pins σ H s→RelV x v→r x H Q →
    wpAny (model X.prog X.w) X.A (f v) (EP X pins σ Q) X.xe s
def CallR (X:Cx)(f:Value)(r:List V→Hp→VK→Prop):Prop :=
  ∀ (pins:List (Addr×Obj)) (s:Shared) (σ:St) (H:Hp) (xs:List V) (us:List Value) (Q:VK),Inv X pins σ H s→Vals xs us→r xs H Q →
    wpAny (model X.prog X.w) X.A (call f us) (EP X pins σ Q) X.xe s
def tOp (r:R2)(ta tb:TE):TE:=fun σ H Q=>ta σ H fun x H1=>tb σ H1 fun y H2=>r x y H2 Q
def tUn (r:V→Hp→VK→Prop)(ta:TE):TE:=fun σ H Q=>ta σ H fun x H1=>r x H1 Q
def rI (C:Int→Int→Prop)(g:Int→Int→V):R2:=fun x y H Q=>∃ i j,x=.int i∧y=.int j∧C i j∧Q (g i j) H
def rI0 (g:Int→Int→V):R2:=fun x y H Q=>∃ i j,x=.int i∧y=.int j∧Q (g i j) H
def rU (g:Int→V):V→Hp→VK→Prop:=fun x H Q=>∃ i,x=.int i∧Q (g i) H
section
variable {X:Cx}{a b c:Expr}{ta tb tc:TE}{pos:Pos}
theorem binT (ha:PE X a ta)(hb:PE X b tb){pins:List (Addr×Obj)}{s:Shared}{σ:St}{H:Hp}{R:V→V→Hp→Prop}(I:Inv X pins σ H s)
    (h:ta σ H fun x H1=>tb σ H1 fun y H2=>R x y H2) {Q:Value→Shared→Prop} {f:Value→Value→Sem Value}
    (hf:∀ v u s2 x y H2,Inv X pins σ H2 s2→RelV x v→RelV y u→R x y H2→wpAny (model X.prog X.w) X.A (f v u) Q X.xe s2) :
    wpAny (model X.prog X.w) X.A (eval a X.env) (fun v s₁=>wpAny (model X.prog X.w) X.A (eval b X.env) (fun u s₂=>wpAny (model X.prog X.w) X.A (f v u) Q X.xe s₂) X.xe s₁) X.xe s:=by
  refine thn (ha pins s σ H _ I h) fun v s1 ⟨x,H1,I1,r1,q1⟩=>?_
  refine thn (hb pins s1 σ H1 _ I1 q1) fun u s2 ⟨y,H2,I2,r2,q2⟩=>?_
  exact hf v u s2 x y H2 I2 r1 r2 q2
theorem pe_op {op:Operator}{r:R2}(ho:OpR X (binaryOp op) r)(ha:PE X a ta)(hb:PE X b tb):PE X (.BinOp a op b pos) (tOp r ta tb):=by
  intro pins s σ H Q I h
  exact wpAny_BinOp (binT ha hb I h fun v u s2 x y H2 I2 rx ry q=>ho pins s2 σ H2 x y v u Q I2 rx ry q)
theorem pe_un {op:UnaryOp}{r:V→Hp→VK→Prop}(ho:UnR X (unaryOp op) r)(ha:PE X a ta):PE X (.UnaryOp op a pos) (tUn r ta):=by
  intro pins s σ H Q I h
  exact UnaryOp_ (thn (ha pins s σ H _ I h) fun v s1 ⟨x,H1,I1,r1,q1⟩=>ho pins s1 σ H1 x v Q I1 r1 q1)
theorem opI {f:Value→Value→Sem Value}{C:Int→Int→Prop}{g:Int→Int→Int}
    (rule:∀ (i j:Int) (t u:Tok) (s:Shared) (Q:Value→Shared→Prop) (E:Value→Shared→Prop),C i j→Q (.int (g i j) s.toks) { s with toks:=s.toks+1 }→wpAny (model X.prog X.w) X.A (f (.int i t) (.int j u)) Q E s) :
    OpR X f (rI C fun i j=>.int (g i j)):=by
  intro pins s σ H x y v u Q I rx ry h
  obtain ⟨i,j,rfl,rfl,hc,q⟩:=h
  obtain ⟨t,rfl⟩:=rx
  obtain ⟨t',rfl⟩:=ry
  exact rule i j t t' s _ _ hc ⟨.int (g i j),H,I.tok _,⟨_,rfl⟩,q⟩
theorem opI0 {f:Value→Value→Sem Value}{g:Int→Int→Int}
    (rule:∀ (i j:Int) (t u:Tok) (s:Shared) (Q:Value→Shared→Prop) (E:Value→Shared→Prop),Q (.int (g i j) s.toks) { s with toks:=s.toks+1 }→wpAny (model X.prog X.w) X.A (f (.int i t) (.int j u)) Q E s) :
    OpR X f (rI0 fun i j=>.int (g i j)):=by
  intro pins s σ H x y v u Q I rx ry h
  obtain ⟨i,j,rfl,rfl,q⟩:=h
  obtain ⟨t,rfl⟩:=rx
  obtain ⟨t',rfl⟩:=ry
  exact rule i j t t' s _ _ ⟨.int (g i j),H,I.tok _,⟨_,rfl⟩,q⟩
theorem opB0 {f:Value→Value→Sem Value}{g:Int→Int→Bool}
    (rule:∀ (i j:Int) (t u:Tok) (s:Shared) (Q:Value→Shared→Prop) (E:Value→Shared→Prop),Q (.bool (g i j)) s→wpAny (model X.prog X.w) X.A (f (.int i t) (.int j u)) Q E s) :
    OpR X f (rI0 fun i j=>.bl (g i j)):=by
  intro pins s σ H x y v u Q I rx ry h
  obtain ⟨i,j,rfl,rfl,q⟩:=h
  obtain ⟨t,rfl⟩:=rx
  obtain ⟨t',rfl⟩:=ry
  exact rule i j t t' s _ _ ⟨.bl (g i j),H,I,rfl,q⟩
def CMul (i j:Int):Prop:=(-(2 ^ 64)<i∧i<2 ^ 64)∨(-(2 ^ 64)<j∧j<2 ^ 64)
theorem CMul.ok {i j:Int}(h:CMul i j):IntMulOk i j:=by
  rcases h with ⟨h1,h2⟩ | ⟨h1,h2⟩
  · exact .of_left (intBits_le_64 h1 h2)
  · exact .of_right (intBits_le_64 h1 h2)
theorem two_pow_nn (k:Nat):(0:Int)≤2 ^ k:=by
  rw [two_pow_cast]
  exact Int.natCast_nonneg _
theorem op_add:OpR X (binaryOp .Add) (rI0 fun i j=>.int (i+j)):=opI0 fun _ _ _ _ _ _ _ q=>add_int q
theorem op_sub:OpR X (binaryOp .Sub) (rI0 fun i j=>.int (i - j)):=opI0 fun _ _ _ _ _ _ _ q=>sub_int q
theorem op_mul:OpR X (binaryOp .Mult) (rI CMul fun i j=>.int (i * j)):=opI fun _ _ _ _ _ _ _ hc q=>mul_int q hc.ok
theorem op_mod:OpR X (binaryOp .Mod) (rI (fun _ j=>0<j) fun i j=>.int (i % j)):=opI fun i j _ _ _ _ _ hc q=>by
  have h1:(0:Int)<j:=hc
  exact mod_int' (by omega) (by rw [Int.fmod_eq_emod_of_nonneg i (by omega)]; exact q)
theorem op_shr:OpR X (binaryOp .RShift) (rI (fun _ j=>0≤j) fun i j=>.int (i / 2 ^ j.toNat)):=opI fun i j _ _ _ _ _ hc q =>
  rshift_int hc (by rw [Int.fdiv_eq_ediv_of_nonneg i (two_pow_nn _)]; exact q)
theorem op_or:OpR X (binaryOp .BitOr) (rI0 fun i j=>.int (Builtin.bitOr i j)):=opI0 fun _ _ _ _ _ _ _ q=>or_int q
theorem unI {f:Value→Sem Value}{g:Int→Int}
    (rule:∀ (i:Int) (t:Tok) (s:Shared) (Q:Value→Shared→Prop) (E:Value→Shared→Prop),Q (.int (g i) s.toks) { s with toks:=s.toks+1 }→wpAny (model X.prog X.w) X.A (f (.int i t)) Q E s) :
    UnR X f (rU fun i=>.int (g i)):=by
  intro pins s σ H x v Q I rx h
  obtain ⟨i,rfl,q⟩:=h
  obtain ⟨t,rfl⟩:=rx
  exact rule i t s _ _ ⟨.int (g i),H,I.tok _,⟨_,rfl⟩,q⟩
theorem un_neg:UnR X (unaryOp .USub) (rU fun i=>.int (-i)):=unI fun _ _ _ _ _ q=>neg_int q
end
def scal:V→V→Bool
  | .non,.non=>true | .non,.int _=>true | .int _,.non=>true | .non,.bl _=>true | .bl _,.non=>true | .non,.str _=>true | .str _,.non=>true
  | .int _,.int _=>true | .bl _,.bl _=>true | .str _,.str _=>true | .byt _,.byt _=>true
  | .int _,.str _=>true | .str _,.int _=>true | .bl _,.str _=>true | .str _,.bl _=>true
  | _,_=>false
def rEq:R2:=fun x y H Q=>scal x y=true∧Q (.bl (decide (x=y))) H
def rNe:R2:=fun x y H Q=>scal x y=true∧Q (.bl (!decide (x=y))) H
theorem dec_int {i j:Int}:decide (V.int i=V.int j)=(i == j):=by
  rw [Bool.eq_iff_iff]
  simp
theorem dec_bl {i j:Bool}:decide (V.bl i=V.bl j)=(i == j):=by
  rw [Bool.eq_iff_iff]
  simp
theorem dec_str {i j:Str}:decide (V.str i=V.str j)=(i == j):=by
  rw [Bool.eq_iff_iff]
  simp
theorem dec_byt {i j:Array UInt8}:decide (V.byt i=V.byt j)=(i.toList == j.toList):=by
  rw [Bool.eq_iff_iff]
  cases i
  cases j
  simp
section
variable {X:Cx}{a b c:Expr}{ta tb tc:TE}{pos:Pos}
theorem fin_bl {pins:List (Addr×Obj)}{σ:St}{H:Hp}{s:Shared}{Q:VK}{k k':Bool}(I:Inv X pins σ H s)(q:Q (.bl k) H)(e:k=k'):EP X pins σ Q (.bool k') s:=by
  subst e
  exact ⟨.bl k,H,I,rfl,q⟩
theorem op_eq:OpR X (compareOp .Eq) rEq:=by
  intro pins s σ H x y v u Q I rx ry h
  obtain ⟨hs,q⟩:=h
  cases x with
  | non =>
    cases rx
    cases y with
    | non=>cases ry; exact PySem.EqNone.eq_none_none (fin_bl I q (by simp))
    | bl j=>cases ry; exact PySem.EqNone.eq_none_bool (fin_bl I q (by simp))
    | int j=>obtain ⟨t',rfl⟩:=ry; exact PySem.EqNone.eq_none_int (fin_bl I q (by simp))
    | str j=>obtain ⟨t',rfl⟩:=ry; exact PySem.EqNone.eq_none_str (fin_bl I q (by simp))
    | _=>exact absurd (show false=true from hs) Bool.false_ne_true
  | bl i =>
    cases rx
    cases y with
    | non=>cases ry; exact PySem.EqNone.eq_bool_none (fin_bl I q (by simp))
    | bl j=>cases ry; exact eq_bool (fin_bl I q dec_bl)
    | str j=>obtain ⟨t',rfl⟩:=ry; exact PySem.EqMixed.eq_bool_str (fin_bl I q (by simp))
    | _=>exact absurd (show false=true from hs) Bool.false_ne_true
  | int i =>
    obtain ⟨t,rfl⟩:=rx
    cases y with
    | non=>cases ry; exact PySem.EqNone.eq_int_none (fin_bl I q (by simp))
    | int j=>obtain ⟨t',rfl⟩:=ry; exact eq_int (fin_bl I q dec_int)
    | str j=>obtain ⟨t',rfl⟩:=ry; exact PySem.EqMixed.eq_int_str (fin_bl I q (by simp))
    | _=>exact absurd (show false=true from hs) Bool.false_ne_true
  | str i =>
    obtain ⟨t,rfl⟩:=rx
    cases y with
    | non=>cases ry; exact PySem.EqNone.eq_str_none (fin_bl I q (by simp))
    | bl j=>cases ry; exact PySem.EqMixed.eq_str_bool (fin_bl I q (by simp))
    | int j=>obtain ⟨t',rfl⟩:=ry; exact PySem.EqMixed.eq_str_int (fin_bl I q (by simp))
    | str j=>obtain ⟨t',rfl⟩:=ry; exact eq_str (fin_bl I q dec_str)
    | _=>exact absurd (show false=true from hs) Bool.false_ne_true
  | byt i =>
    obtain ⟨t,rfl⟩:=rx
    cases y with
    | byt j=>obtain ⟨t',rfl⟩:=ry; exact PySem.W.eq_bytes (fin_bl I q dec_byt)
    | _=>exact absurd (show false=true from hs) Bool.false_ne_true
  | _=>cases y <;> exact absurd (show false=true from hs) Bool.false_ne_true
theorem op_ne:OpR X (compareOp .NotEq) rNe:=by
  intro pins s σ H x y v u Q I rx ry h
  obtain ⟨hs,q⟩:=h
  cases x with
  | non =>
    cases rx
    cases y with
    | non=>cases ry; exact PySem.EqNone.ne_none_none (fin_bl I q (by simp))
    | bl j=>cases ry; exact PySem.EqNone.ne_none_bool (fin_bl I q (by simp))
    | int j=>obtain ⟨t',rfl⟩:=ry; exact PySem.EqNone.ne_none_int (fin_bl I q (by simp))
    | str j=>obtain ⟨t',rfl⟩:=ry; exact PySem.EqNone.ne_none_str (fin_bl I q (by simp))
    | _=>exact absurd (show false=true from hs) Bool.false_ne_true
  | bl i =>
    cases rx
    cases y with
    | non=>cases ry; exact PySem.EqNone.ne_bool_none (fin_bl I q (by simp))
    | bl j=>cases ry; exact ne_bool (fin_bl I q (congrArg not dec_bl))
    | str j=>obtain ⟨t',rfl⟩:=ry; exact PySem.EqMixed.ne_bool_str (fin_bl I q (by simp))
    | _=>exact absurd (show false=true from hs) Bool.false_ne_true
  | int i =>
    obtain ⟨t,rfl⟩:=rx
    cases y with
    | non=>cases ry; exact PySem.EqNone.ne_int_none (fin_bl I q (by simp))
    | int j=>obtain ⟨t',rfl⟩:=ry; exact ne_int (fin_bl I q (congrArg not dec_int))
    | str j=>obtain ⟨t',rfl⟩:=ry; exact PySem.EqMixed.ne_int_str (fin_bl I q (by simp))
    | _=>exact absurd (show false=true from hs) Bool.false_ne_true
  | str i =>
    obtain ⟨t,rfl⟩:=rx
    cases y with
    | non=>cases ry; exact PySem.EqNone.ne_str_none (fin_bl I q (by simp))
    | bl j=>cases ry; exact PySem.EqMixed.ne_str_bool (fin_bl I q (by simp))
    | int j=>obtain ⟨t',rfl⟩:=ry; exact PySem.EqMixed.ne_str_int (fin_bl I q (by simp))
    | str j=>obtain ⟨t',rfl⟩:=ry; exact ne_str (fin_bl I q (congrArg not dec_str))
    | _=>exact absurd (show false=true from hs) Bool.false_ne_true
  | byt i =>
    obtain ⟨t,rfl⟩:=rx
    cases y with
    | byt j=>obtain ⟨t',rfl⟩:=ry; exact PySem.W.ne_bytes (fin_bl I q (congrArg not dec_byt))
    | _=>exact absurd (show false=true from hs) Bool.false_ne_true
  | _=>cases y <;> exact absurd (show false=true from hs) Bool.false_ne_true
theorem op_lt:OpR X (compareOp .Lt) (rI0 fun i j=>.bl (decide (i<j))):=opB0 fun _ _ _ _ _ _ _ q=>lt_int q
theorem op_le:OpR X (compareOp .LtE) (rI0 fun i j=>.bl (decide (i≤j))):=opB0 fun _ _ _ _ _ _ _ q=>le_int q
theorem op_gt:OpR X (compareOp .Gt) (rI0 fun i j=>.bl (decide (j<i))):=opB0 fun _ _ _ _ _ _ _ q=>gt_int q
theorem op_in_str:OpR X (compareOp .In) (fun x y H Q=>∃ i j,x=.str i∧y=.str j∧Q (.bl (!(Builtin.Str.occurrences j i 0 j.length 1).isEmpty)) H):=by
  intro pins s σ H x y v u Q I rx ry h
  obtain ⟨i,j,rfl,rfl,q⟩:=h
  obtain ⟨t,rfl⟩:=rx
  obtain ⟨t',rfl⟩:=ry
  exact in_str (fin_bl I q rfl)
theorem op_notin_str:OpR X (compareOp .NotIn) (fun x y H Q=>∃ i j,x=.str i∧y=.str j∧Q (.bl (!(!(Builtin.Str.occurrences j i 0 j.length 1).isEmpty))) H):=by
  intro pins s σ H x y v u Q I rx ry h
  obtain ⟨i,j,rfl,rfl,q⟩:=h
  obtain ⟨t,rfl⟩:=rx
  obtain ⟨t',rfl⟩:=ry
  exact notIn_str (fin_bl I q rfl)
theorem nomark (b:Expr){op:CmpOp}(h:op≠.In:=by decide)(h2:op≠.NotIn:=by decide):behindInMarks op b=false:=by
  have e1:(op == CmpOp.In)=false:=by cases op <;> first | rfl | exact absurd rfl h
  have e2:(op == CmpOp.NotIn)=false:=by cases op <;> first | rfl | exact absurd rfl h2
  cases b <;> simp [behindInMarks,e1,e2]
theorem pe_cmpR {op:CmpOp}{r:R2}(ho:OpR X (compareOp op) r)(ha:PE X a ta)(hb:PE X b tb)(hm:behindInMarks op b=false):PE X (.Compare a [op] [b] pos) (tOp r ta tb):=by
  intro pins s σ H Q I h
  exact wpAny_Compare1 (binT ha hb I h fun v u s2 x y H2 I2 rx ry q=>ho pins s2 σ H2 x y v u Q I2 rx ry q) hm
def tTest (t:TE):TT:=fun σ H Q=>t σ H fun x H'=>∃ k,x=.bl k∧Q k H'
theorem pt_cmpR {op:CmpOp}{r:R2}(ho:OpR X (compareOp op) r)(ha:PE X a ta)(hb:PE X b tb)(hm:behindInMarks op b=false):PT X (.Compare a [op] [b] pos) (tTest (tOp r ta tb)):=by
  intro pins s σ H Q I h
  refine wpAny_isTrue_Compare1 (thn (ha pins s σ H _ I h) fun v s1 ⟨x,H1,I1,r1,q1⟩=>thn (hb pins s1 σ H1 _ I1 q1) fun u s2 ⟨y,H2,I2,r2,q2⟩ =>
    thn (ho pins s2 σ H2 x y v u _ I2 r1 r2 q2) fun c s3 ⟨z,H3,I3,r3,k,e,q3⟩=>?_) hm
  subst e
  cases r3
  exact wpAny_truthy_bool ⟨H3,I3,q3⟩
theorem line63:(sizeLine:Nat)<2 ^ 63:=by rw [sizeLine_eq]; decide
theorem op_add_str:OpR X (binaryOp .Add) (fun x y H Q=>∃ i j,x=.str i∧y=.str j∧i.length+j.length≤sizeLine∧Q (.str (i++j)) H):=by
  intro pins s σ H x y v u Q I rx ry h
  obtain ⟨i,j,rfl,rfl,hz,q⟩:=h
  obtain ⟨t,rfl⟩:=rx
  obtain ⟨t',rfl⟩:=ry
  exact add_str (fun t' tk=>⟨.str (i++j),H,I.tok _,⟨_,rfl⟩,q⟩) hz
theorem vals1 {x:V}{us:List Value}(r:Vals [x] us):∃ u,us=[u]∧RelV x u:=by
  cases r with
  | cons r1 r2=>cases r2; exact ⟨_,rfl,r1⟩
theorem vals2 {x y:V}{us:List Value}(r:Vals [x,y] us):∃ u w',us=[u,w']∧RelV x u∧RelV y w':=by
  cases r with
  | cons r1 r2 =>
    cases r2 with
    | cons r3 r4=>cases r4; exact ⟨_,_,rfl,r1,r3⟩
theorem call_max2 (hc:X.calm=true):CallR X (.builtin "max") (fun xs H Q=>∃ i j,xs=[.int i,.int j]∧Q (.int (if j > i then j else i)) H):=by
  intro pins s σ H xs us Q I r h
  obtain ⟨i,j,rfl,q⟩:=h
  obtain ⟨u,w',rfl,⟨t,rfl⟩,⟨t',rfl⟩⟩:=vals2 r
  refine max_two_ints (I.ok.hd hc) fun h' tk k=>⟨_,H,I.kept k,?_,q⟩
  by_cases hj:j > i
  · rw [if_pos hj,if_pos hj]; exact ⟨_,rfl⟩
  · rw [if_neg hj,if_neg hj]; exact ⟨_,rfl⟩
theorem call_min2 (hc:X.calm=true):CallR X (.builtin "min") (fun xs H Q=>∃ i j,xs=[.int i,.int j]∧Q (.int (if j<i then j else i)) H):=by
  intro pins s σ H xs us Q I r h
  obtain ⟨i,j,rfl,q⟩:=h
  obtain ⟨u,w',rfl,⟨t,rfl⟩,⟨t',rfl⟩⟩:=vals2 r
  refine min_two_ints (I.ok.hd hc) fun h' tk k=>⟨_,H,I.kept k,?_,q⟩
  by_cases hj:j<i
  · rw [if_pos hj,if_pos hj]; exact ⟨_,rfl⟩
  · rw [if_neg hj,if_neg hj]; exact ⟨_,rfl⟩
theorem call_str_int:CallR X (.type "str") (fun xs H Q=>∃ i,xs=[.int i]∧i.natAbs.log2<1920∧Q (.str (toString i)) H):=by
  intro pins s σ H xs us Q I r h
  obtain ⟨i,rfl,hz,q⟩:=h
  obtain ⟨u,rfl,t,rfl⟩:=vals1 r
  exact PySem.P.str_of_int hz ⟨.str _,H,I.tok _,⟨_,rfl⟩,q⟩
end
end L2
namespace L2
open PySem PySem.Spec PyProof.Rows
structure ObjM (h:Heap)(x dx C:Addr)(mA:Str→Option Value):Prop where
  obj:h.get? x=some (PySem.W.instObj C dx)
  ns:h.Ns1 dx mA
  ne:dx≠x
theorem lookIn_ns {h:Heap}{dx:Addr}{mA:Str→Option Value}(n:h.Ns1 dx mA):∃ od,h.get? dx=some od∧∀ name,PySem.W.lookIn name od=some (mA name):=by
  obtain ⟨o,es,ep,ho,hd,hk,_,hm⟩:=n
  refine ⟨o,ho,fun name=>?_⟩
  have e:=hm name
  unfold nsFind findBy at e
  rw [← Array.find?_toList] at e
  unfold PySem.W.lookIn
  rw [hd]
  dsimp only
  split
  · rename_i y q
    rw [q] at e
    exact congrArg some e
  · rename_i q
    rw [q] at e
    have a:es.toList.any (·.refKey)=false:=by
      rw [List.any_eq_false]
      intro y hy
      obtain ⟨z,t,hkey⟩:=hk y (Array.mem_toList_iff.mp hy)
      simp [DictEntry.refKey,hkey]
    have a':¬ es.toList.any (·.refKey)=true:=by rw [a]; exact Bool.false_ne_true
    rw [if_neg a']
    exact congrArg some e
theorem ObjM.look {h:Heap}{x dx C:Addr}{mA:Str→Option Value}(I:ObjM h x dx C mA):∃ od,PySem.W.InstAt h x (PySem.W.instObj C dx) C (some od)∧∀ name,PySem.W.lookIn name od=some (mA name) :=
  let ⟨od,ho,hl⟩:=lookIn_ns I.ns
  ⟨od,⟨I.obj,rfl,rfl,ho⟩,hl⟩
section
variable {prog:Program}{w:World}{A:Around}{E:Value→Shared→Prop}{s:Shared}{K:PySem.W.Frag}{x dx C f:Addr}{mA:Str→Option Value}{name:Str}{v:Value}
end
def putF (f:Str)(v:V):List (Str×V)→List (Str×V)
  | []=>[(f,v)]
  | (g,x)::r=>if g=f then (g,v)::r else (g,x)::putF f v r
theorem RelO.some_of {v:V}{o:Option Value}(r:RelO (some v) o):∃ u,o=some u∧RelV v u:=by
  cases o with
  | none=>exact (show False from r).elim
  | some u=>exact ⟨u,rfl,r⟩
theorem handed_of {v:V}{u:Value}(r:RelV v u):PySem.W.handedIn u=true:=by
  cases v with
  | non=>cases (show u=Value.none from r); rfl
  | bl b=>cases (show u=Value.bool b from r); rfl
  | int i=>obtain ⟨t,e⟩:=(show ∃ t,u=Value.int i t from r); cases e; rfl
  | str x=>obtain ⟨t,e⟩:=(show ∃ t,u=Value.str x t from r); cases e; rfl
  | byt b=>obtain ⟨t,e⟩:=(show ∃ t,u=Value.bytes b t from r); cases e; rfl
  | flt b=>obtain ⟨t,e⟩:=(show ∃ t,u=Value.float b t from r); cases e; rfl
  | ref a=>cases (show u=Value.ref a from r); rfl
  | ty n=>cases (show u=Value.type n from r); rfl
section
variable {P:Program}{w:World}{H H':Hp}{h h':Heap}{a C dx:Addr}{fs fs':List (Str×V)}
theorem ins_get (hok:HOk P w H h)(e:H a=some (.ins C dx fs)):∃ mA,ObjM h a dx C mA∧(∀ f,RelO (fs.lookup f) (mA f))∧PySem.Within mA (fs.map (·.1))∧fs.length≤1000∧H dx=some (.own a):=by
  obtain ⟨d,z,ne,ob,mA,n,r,q⟩:=(show ObjOk P w H h a (.ins C dx fs) from hok a _ e)
  exact ⟨mA,⟨ob,n,ne⟩,r,q,z,d⟩
end
structure Cls (K:PySem.W.Frag)(C:Addr):Prop where
  pg:PySem.W.plainGet K C Str.empty=true
  hd:PySem.W.hasDictIn K C=true
  po:PySem.W.plainOver K C=true
  sa:PySem.W.findIn K (.ref C) "__setattr__"=some (some (.builtin "object.__setattr__"))
theorem Cls.get {K:PySem.W.Frag}{C:Addr}(c:Cls K C)(f:Str):PySem.W.plainGet K C f=true:=c.pg
def NoAttr (K:PySem.W.Frag)(C:Addr)(f:Str):Prop:=PySem.W.findIn K (.ref C) f=some none
structure Meth (K:PySem.W.Frag)(C:Addr)(m:Str)(f:Addr):Prop where
  at_:PySem.W.findIn K (.ref C) m=some (some (.ref f))
  fn:PySem.W.isFn K (.ref f)=true
  kp:PySem.W.keepIn K (.ref f)=true
section
variable {X:Cx}{pins:List (Addr×Obj)}{σ:St}{H:Hp}{s:Shared}{a C dx:Addr}{fs:List (Str×V)}{f:Str}{v:V}{A:Around}{E:Value→Shared→Prop}
theorem attr_of {prog:Program}{w:World}{env:Env}{e:Expr}{f:Str}{pos:Pos}{s:Shared}{Q:Value→Shared→Prop}(hb:attributeBase e f env (eval e env)=eval e env)
    (h:wpAny (model prog w) A (eval e env) (fun o s₁=>wpAny (model prog w) A (getAttr o f true) Q E s₁) E s):wpAny (model prog w) A (eval (.Attribute e f pos) env) Q E s :=
  Attribute_any_ h (by rw [arm_eval_Attribute,hb])
end
section
variable {X:Cx}{o e value:Expr}{f:Str}{pos pos' tpos:Pos}{ta tv:TE}
end
section
variable {X:Cx}{pins:List (Addr×Obj)}{σ:St}{H:Hp}{s:Shared}{A:Around}{E:Value→Shared→Prop}{Q:Value→Shared→Prop}{c:Value}{b:Bool}
inductive TyOf (K:PySem.W.Frag) (H:Hp):V→Value→Prop where
  | non:TyOf K H .non (.type "NoneType")
  | bl (x:Bool):TyOf K H (.bl x) (.type "bool")
  | int (i:Int):TyOf K H (.int i) (.type "int")
  | str (x:Str):TyOf K H (.str x) (.type "str")
  | flt (x:UInt64):TyOf K H (.flt x) (.type "float")
  | lst {a:Addr} {xs:List V} (e:H a=some (.lst xs)):TyOf K H (.ref a) (.type "list")
  | frz {a:Addr} {o:Obj} {xs:List V} (e:H a=some (.frz o (.lst xs))):TyOf K H (.ref a) (.type "list")
  | tup {a:Addr} {xs:List V} (e:H a=some (.tup xs)):TyOf K H (.ref a) (.type "tuple")
  | dK {a:Addr} {kvs:List (Key×V)} (e:H a=some (.dK kvs)):TyOf K H (.ref a) (.type "dict")
  | dT {a:Addr} {kvs:List (List Key×V)} (e:H a=some (.dT kvs)):TyOf K H (.ref a) (.type "dict")
  | ins {a C dx:Addr} {fs:List (Str×V)} (e:H a=some (.ins C dx fs)) (cl:Cls K C) (ha:PySem.W.findIn K (.ref C) "__class__"=some (some (.builtin "object.__class__")))
      (hn:PySem.W.specialIn K (.builtin "object.__class__") "__get__"=some (some (.builtin "getset_descriptor.__get__"))) (htk:PySem.W.takesIn K (.builtin "object.__class__")=some true)
      (hm:PySem.W.mroIn K C (.type "object")=some true):TyOf K H (.ref a) (.ref C)
theorem isinst_ok {x:V}{u t:Value}(I:Inv X pins σ H s)(rx:RelV x u)(ty:TyOf X.K H x t)(e:PySem.W.kitOne X.K t c=some b)(h:∀ tk,Q (.bool b) { s with toks:=tk }) :
    wpAny (model X.prog X.w) A (call (.builtin "isinstance") [u,c]) Q E s:=by
  cases ty with
  | non=>cases (show u=Value.none from rx); exact PySem.W.kia_one PySem.W.kitx_none I.kIn True.intro e (fun z=>nomatch z) h
  | bl y=>cases (show u=Value.bool y from rx); exact PySem.W.kia_one PySem.W.kitx_bool I.kIn True.intro e (fun z=>nomatch z) h
  | int i=>obtain ⟨t,q⟩:=(show ∃ t,u=Value.int i t from rx); cases q; exact PySem.W.kia_one PySem.W.kitx_int I.kIn True.intro e (fun z=>nomatch z) h
  | str y=>obtain ⟨t,q⟩:=(show ∃ t,u=Value.str y t from rx); cases q; exact PySem.W.kia_one PySem.W.kitx_str I.kIn True.intro e (fun z=>nomatch z) h
  | flt y=>obtain ⟨t,q⟩:=(show ∃ t,u=Value.float y t from rx); cases q; exact PySem.W.kia_one PySem.W.kitx_float I.kIn True.intro e (fun z=>nomatch z) h
  | @lst a xs ea =>
    cases (show u=Value.ref a from rx)
    obtain ⟨_,_,n,_,h1⟩:=(show ObjOk X.prog X.w H s.heap a (.lst xs) from I.hok a _ ea)
    exact PySem.W.kia_one PySem.W.kitx_list I.kIn ⟨_,h1,rfl⟩ e (fun z=>nomatch z) h
  | @frz a ob xs ea =>
    cases (show u=Value.ref a from rx)
    obtain ⟨_,_,_,n,_,h1⟩:=(show ObjOk X.prog X.w H s.heap a (.frz ob (.lst xs)) from I.hok a _ ea)
    exact PySem.W.kia_one PySem.W.kitx_list I.kIn ⟨_,h1,rfl⟩ e (fun z=>nomatch z) h
  | @tup a xs ea =>
    cases (show u=Value.ref a from rx)
    obtain ⟨_,_,_,p⟩:=(show ObjOk X.prog X.w H s.heap a (.tup xs) from I.hok a _ ea)
    obtain ⟨o,h1,h2,_⟩:=p
    exact PySem.W.kia_one PySem.W.kitx_tuple I.kIn ⟨o,h1,h2⟩ e (fun z=>nomatch z) h
  | @dK a kvs ea =>
    cases (show u=Value.ref a from rx)
    obtain ⟨_,_,vs,_,p⟩:=(show ObjOk X.prog X.w H s.heap a (.dK kvs) from I.hok a _ ea)
    obtain ⟨o,es,ep,h1,h2,_⟩:=p
    exact PySem.W.kia_one PySem.W.kitx_dict I.kIn ⟨o,h1,h2.1⟩ e (fun z=>nomatch z) h
  | @dT a kvs ea =>
    cases (show u=Value.ref a from rx)
    obtain ⟨_,_,xs,_,o,es,ep,h1,h2,_⟩:=(show ObjOk X.prog X.w H s.heap a (.dT kvs) from I.hok a _ ea)
    exact PySem.W.kia_one PySem.W.kitx_dict I.kIn ⟨o,h1,h2.1⟩ e (fun z=>nomatch z) h
  | @ins a C dx fs ea cl ha hn htk hm =>
    cases (show u=Value.ref a from rx)
    obtain ⟨mA,O,_⟩:=ins_get I.hok ea
    obtain ⟨od,J,_⟩:=O.look
    exact PySem.W.kia_one (PySem.W.kitx_own (cl.get _) cl.hd ha hn htk hm) I.kIn J e (fun z=>nomatch z) h
end
end L2
namespace L2
open PySem PySem.Spec PyProof.Rows
structure Room (k:Nat)(A:Around):Prop where
  hd:A.handled=none
  dp:A.depth+3 * k+5<recursionLimit
  un:A.units+16 * k+200<cLine
  gd:A.guards=some []
theorem Room.mono {j k:Nat}{A:Around}(r:Room k A)(h:j≤k):Room j A:=⟨r.hd,by have:=r.dp; omega,by have:=r.un; omega,r.gd⟩
theorem Room.deeper {k:Nat}{A:Around}(r:Room (k+1) A)(env:Env):Room k (A.deeper env) :=
  ⟨r.hd,by have:=r.dp; show A.depth+1+3 * k+5<_; omega,by have:=r.un; show A.units+3+16 * k+200<_; omega,r.gd⟩
theorem Room.in1 {k:Nat}{A:Around}(r:Room (k+1) A):Room k A.in1 :=
  ⟨r.hd,by have:=r.dp; show A.depth+3 * k+5<_; omega,by have:=r.un; show A.units+1+16 * k+200<_; omega,r.gd⟩
theorem make_depth {A:Around}{C:Addr}{us:List Value}{kw:List (Str×Value)}:(A.under (.builtin "type.__call__" ⟨.ref C::us,kw⟩)).depth=A.depth+1:=by
  first | rfl | simp [Around.under,Code.weight,Code.isCreation,Code.isGuard,Code.isCaller,Code.frames,Code.isFrame,guardIds]
theorem make_units {A:Around}{C:Addr}{us:List Value}{kw:List (Str×Value)}:(A.under (.builtin "type.__call__" ⟨.ref C::us,kw⟩)).units=A.units+1:=by
  first | rfl | simp [Around.under,Code.cUnits,Code.frames,Code.isFrame]
theorem make_guards {A:Around}{C:Addr}{us:List Value}{kw:List (Str×Value)}:(A.under (.builtin "type.__call__" ⟨.ref C::us,kw⟩)).guards=A.guards:=by
  first | rfl | (cases h:A.guards <;> simp [Around.under,Code.guards,Code.isGuard,guardIds,pushGuards,h])
theorem Room.make {k:Nat}{A:Around}(r:Room (k+1) A)(C:Addr)(us:List Value)(kw:List (Str×Value)):Room k (A.under (.builtin "type.__call__" ⟨.ref C::us,kw⟩)) :=
  ⟨r.hd,by have:=r.dp; rw [make_depth]; omega,by have:=r.un; rw [make_units]; omega,by rw [make_guards]; exact r.gd⟩
theorem Room.depth {k:Nat}{A:Around}(r:Room k A):A.depth<recursionLimit:=by have:=r.dp; omega
theorem Room.units {k:Nat}{A:Around}(r:Room k A):A.units+64<cLine:=by have:=r.un; omega
def tNil:TA:=fun _ H Q=>Q [] H
def tCons (ta:TE)(tr:TA):TA:=fun σ H Q=>ta σ H fun x H1=>tr σ H1 fun xs H2=>Q (x::xs) H2
section
variable {X:Cx}{e:Expr}{es:List Expr}{te:TE}{t:TA}{pos:Pos}
theorem pa_nil:PA X [] tNil:=fun _ _ _ _ H Q I h=>Calls.spliced_nil ⟨[],H,I,.nil,h⟩
theorem pa_cons (ha:PE X e te)(hr:PA X es t)(hs:starEach (e::es) X.env=(false,eval e X.env)::starEach es X.env:=by rfl):PA X (e::es) (tCons te t):=by
  intro pos pins s σ H Q I h
  rw [hs]
  show wpAny _ _ (spliced ((false,eval e X.env)::backTo pos (starEach es X.env))) _ _ s
  refine Calls.spliced_cons (thn (ha pins s σ H _ I h) fun u s1 ⟨x,H1,I1,r1,q1⟩=>?_)
  exact thn (hr pos pins s1 σ H1 _ I1 q1) fun us s2 ⟨xs,H2,I2,r2,q2⟩=>⟨x::xs,H2,I2,.cons r1 r2,q2⟩
def tTup (t:TA):TE:=fun σ H Q=>t σ H fun xs H1=>xs.length≤sizeLine∧∀ p,H1 p=none→Q (.ref p) (upd H1 p (.tup xs))
def tLst (t:TA):TE:=fun σ H Q=>t σ H fun xs H1=>xs.length≤sizeLine∧∀ p,H1 p=none→Q (.ref p) (upd H1 p (.lst xs))
theorem pe_tup {x1}(h:PA X es t):PE X (.Tuple es x1 pos) (tTup t):=by
  intro pins s σ H Q I hq
  refine wpAny_Tuple_spliced (thn (h pos pins s σ H _ I hq) fun us s1 ⟨xs,H1,I1,r,z,q⟩=>⟨by rw [← r.length]; exact z,?_⟩)
  have hf:H1 s1.heap.objs.size=none:=I1.hok.fresh (Nat.le_refl _)
  refine ⟨.ref s1.heap.objs.size,upd H1 s1.heap.objs.size (.tup xs),I1.laid (t':=s1.toks) (fun b u e=>Heap.get?_push_of_some _ e) (Nat.le_refl _) ?_,rfl,q _ hf⟩
  exact ⟨z,us,r,⟨_,Heap.get?_push_size _ rfl,rfl,_,rfl⟩⟩
theorem pe_lst (h:PA X es t):PE X (.List es pos) (tLst t):=by
  intro pins s σ H Q I hq
  refine wpAny_List_spliced (thn (h pos pins s σ H _ I hq) fun us s1 ⟨xs,H1,I1,r,z,q⟩=>⟨by rw [← r.length]; exact z,?_⟩)
  have hf:H1 s1.heap.objs.size=none:=I1.hok.fresh (Nat.le_refl _)
  refine ⟨.ref s1.heap.objs.size,upd H1 s1.heap.objs.size (.lst xs),I1.laid (t':=s1.toks) (fun b u e=>Heap.get?_push_of_some _ e) (Nat.le_refl _) ?_,rfl,q _ hf⟩
  exact ⟨z,us,0,r,Heap.get?_push_size _ rfl⟩
end
abbrev Sp:=List V→Hp→VK→XK→Prop
abbrev CXT:=List Env→Hp→Shared→XK→Value→Shared→Prop
structure Env0 (P:Program)(w:World)(K:PySem.W.Frag)(mg:Str→Option Value)(base:Heap)(A:Around)(outer:List Env)(s:Shared)(H:Hp):Prop where
  frames:A.frames=some outer
  mod:Mod K mg base
  bs:∀ b o,base.get? b=some o→s.heap.get? b=some o∧H b=none
  bsz:base.objs.size≤s.heap.objs.size
  funs:s.heap.FunFrames base outer
  frf:∀ b∈frs outer,H b=none
  hok:HOk P w H s.heap
  bare:AllBare s.gens
def CE (outer:List Env)(P:Program)(w:World)(H:Hp)(s:Shared)(Q:VK)(u:Value)(s':Shared):Prop :=
  ∃ v H',s'.os=s.os∧AllBare s'.gens∧Un (frs outer) [] H H' s.heap s'.heap∧HOk P w H' s'.heap∧RelV v u∧Q v H'
def CR (CX:CXT)(outer:List Env)(P:Program)(w:World)(H:Hp)(s:Shared)(Q:VK)(E:XK)(r:Result)(s':Shared):Prop :=
  match r with
  | .ok (.ret u)=>CE outer P w H s Q u s'
  | .ok _=>False
  | .error e=>CX outer H s E e s'
structure FnOk (P:Program)(w:World)(K:PySem.W.Frag)(mg:Str→Option Value)(base:Heap)(CX:CXT)(k:Nat)(f:Addr)(fd:FuncData)(ps:List Str)(sp:Sp):Prop where
  len:∀ vs H Q E,sp vs H Q E→vs.length=ps.length
  run:∀ (A:Around) (outer:List Env) (s:Shared) (H:Hp) (args:Args) (us:List Value) (vs:List V) (Q:VK) (E:XK),Room k A→Env0 P w K mg base A outer s H→BindsTo s fd args (ps.zip us)→Vals vs us→sp vs H Q E →
    codeAny (model P w) A (.call (.ref f) args) (CR CX outer P w H s Q E) s
theorem FnOk.mono {P:Program}{w:World}{K:PySem.W.Frag}{mg:Str→Option Value}{base:Heap}{CX:CXT}{j k:Nat}{f:Addr}{fd:FuncData}{ps:List Str}{sp:Sp}(F:FnOk P w K mg base CX j f fd ps sp)(h:j≤k) :
    FnOk P w K mg base CX k f fd ps sp:=⟨F.len,fun A outer s H args us vs Q E hr=>F.run A outer s H args us vs Q E (hr.mono h)⟩
theorem Env0.make {P:Program}{w:World}{K:PySem.W.Frag}{mg:Str→Option Value}{base:Heap}{A:Around}{outer:List Env}{s:Shared}{H:Hp}(e:Env0 P w K mg base A outer s H)(C:Addr)(us:List Value)(kw:List (Str×Value)) :
    Env0 P w K mg base (A.under (.builtin "type.__call__" ⟨.ref C::us,kw⟩)) outer s H:=⟨by first | exact e.frames | (simpa [Around.under,Code.envs,Code.isFrame,pushEnvs] using e.frames),e.mod,e.bs,e.bsz,e.funs,e.frf,e.hok,e.bare⟩
theorem Env0.in1 {P:Program}{w:World}{K:PySem.W.Frag}{mg:Str→Option Value}{base:Heap}{A:Around}{outer:List Env}{s:Shared}{H:Hp}(e:Env0 P w K mg base A outer s H) :
    Env0 P w K mg base A.in1 outer s H:=⟨e.frames,e.mod,e.bs,e.bsz,e.funs,e.frf,e.hok,e.bare⟩
section
variable {X:Cx}{pins:List (Addr×Obj)}{σ:St}{H:Hp}{s s':Shared}
theorem Inv.env0 (I:Inv X pins σ H s):Env0 X.prog X.w X.K X.mg X.base X.A X.stack s H :=
  ⟨I.ok.frames,I.ok.mod,I.bs,Nat.le_trans I.ok.bsz I.sz,I.stack,I.stkFree,I.hok,I.bare⟩
theorem Inv.after {Q:VK}{u:Value}(I:Inv X pins σ H s)(h:CE X.stack X.prog X.w H s Q u s'):EP X pins σ Q u s':=by
  obtain ⟨v,H',os,bare,un,hok,r,q⟩:=h
  obtain ⟨hh,g,d,t,os'⟩:=s'
  obtain rfl:os'=s.os:=os
  exact ⟨v,H',I.call (h':=hh) (g':=g) (d':=d) (t':=t) (ch:=[]) un hok bare (fun b z=>absurd z (by simp)),r,q⟩
end
def tCall (sp:Sp)(dvs:List V)(E:XK)(t:TA):TE:=fun σ H Q=>t σ H fun vs H1=>sp (vs++dvs) H1 Q E
def Binds (K:PySem.W.Frag)(fd:FuncData)(ps:List Str)(ds:List Value):Prop :=
  ∀ (s:Shared) (us:List Value),K.In s.heap→(us++ds).length=ps.length→BindsTo s fd ⟨us,[]⟩ (ps.zip (us++ds))
theorem Binds.all {K:PySem.W.Frag}{fd:FuncData}{ps:List Str}(h:∀ us:List Value,us.length=ps.length→bindArgs fd ⟨us,[]⟩=pure (ps.zip us)):Binds K fd ps []:=fun s us _ hl=>by
  rw [List.append_nil] at hl ⊢
  exact .of_eq (h us hl)
def Passes (CX:CXT)(X:Cx)(E:XK):Prop:=∀ (pins:List (Addr×Obj)) (σ:St) (H:Hp) (s:Shared) (e:Value) (s':Shared),Inv X pins σ H s→CX X.stack H s E e s'→X.xe e s'
section
variable {X:Cx}{CX:CXT}{k:Nat}{f C:Addr}{fd:FuncData}{ps:List Str}{sp:Sp}{dvs:List V}{ds:List Value}{E:XK}{x m:Str}{p pos apos:Pos}{e o:Expr}{es:List Expr}{ta:TE}{t:TA}
theorem run_fn {pins:List (Addr×Obj)}{σ:St}{H:Hp}{s:Shared}{Q:VK}{us:List Value}{vs:List V}(F:FnOk X.prog X.w X.K X.mg X.base CX k f fd ps sp)(hr:Room k X.A)(hb:Binds X.K fd ps ds)(hd:Vals dvs ds)(hx:Passes CX X E)
    (I:Inv X pins σ H s) (r:Vals vs us) (h:sp (vs++dvs) H Q E):wpAny (model X.prog X.w) X.A (call (.ref f) us) (EP X pins σ Q) X.xe s:=by
  have r2:Vals (vs++dvs) (us++ds):=r.append hd
  have hl:(us++ds).length=ps.length:=by rw [← r2.length]; exact F.len _ _ _ _ h
  refine wpAny_call (codeAny_mono (F.run X.A X.stack s H ⟨us,[]⟩ (us++ds) (vs++dvs) Q E hr I.env0 (hb s us I.kIn hl) r2 h) fun r s' hq=>?_)
  cases r with
  | error e=>exact hx pins σ H s e s' I hq
  | ok fl =>
    cases fl with
    | ret u=>exact I.after hq
    | next=>exact False.elim hq
    | brk=>exact False.elim hq
    | cont=>exact False.elim hq
theorem pe_call (F:FnOk X.prog X.w X.K X.mg X.base CX k f fd ps sp)(hr:Room k X.A)(hg:Gl X x)(hm:X.mg x=some (.ref f))(hk:PySem.W.keepIn X.K (.ref f)=true)(hb:Binds X.K fd ps ds)(hd:Vals dvs ds)(hx:Passes CX X E)
    (ha:PA X (e::es) t) (hdb:(x == ("__debug__":Str))=false:=by decide) (he:starEach (e::es) X.env=(false,eval e X.env)::starEach es X.env:=by rfl) (hpl:(backTo pos (starEach es X.env)).any (·.1)=false:=by rfl) :
    PE X (.Call (.Name x p) (e::es) [] pos) (tCall sp dvs E t):=by
  intro pins s σ H Q I h
  refine wpAny_Call_Name_kw (ld_glob I hg hm ?_ hdb)
  refine PySem.W.callWith_K (h₀:=X.base) I.ok.mod.kin hk (thn (ha pos pins s σ H _ I h) fun us s1 ⟨vs,H1,I1,r,q⟩=>⟨I1.kIn,?_⟩) he hpl
  exact run_fn F hr hb hd hx I1 r q
theorem pe_call0 (F:FnOk X.prog X.w X.K X.mg X.base CX k f fd ps sp)(hr:Room k X.A)(hg:Gl X x)(hm:X.mg x=some (.ref f))(hk:PySem.W.keepIn X.K (.ref f)=true)(hb:Binds X.K fd ps ds)(hd:Vals dvs ds)(hx:Passes CX X E)
    (hdb:(x == ("__debug__":Str))=false:=by decide):PE X (.Call (.Name x p) [] [] pos) (tCall sp dvs E tNil):=by
  intro pins s σ H Q I h
  refine wpAny_Call_Name_kw (ld_glob I hg hm ?_ hdb)
  exact PySem.W.callWith_K0 I.kIn hk (run_fn (us:=[]) F hr hb hd hx I .nil h)
end
section
variable {X:Cx}{CX:CXT}{k:Nat}{f C:Addr}{fd:FuncData}{ps ks:List Str}{sp:Sp}{E:XK}{x m:Str}{p pos apos kpos:Pos}{e o:Expr}{es:List Expr}{kws:List Keyword}{te ta:TE}{t tk:TA}{nm:Option Str}
variable {g:List Value→List Value→List Value}{gV:List V→List V→List V}
end
structure FnScope (N P:List Str)(sc:Scope):Prop where
  kind:sc.kind=.function
  co:sc.isCoroutine=false
  gen:sc.isGenerator=false
  nd:N.Nodup
  pre:N.take P.length=P
  par:∀ x∈P,sc.names.lookup x=some .local∨sc.names.lookup x=some .cell
  nofree:∀ y∈sc.names,y.2≠.free
theorem bindL_out {kindOf:Str→Option NameKind}{x:Str}:∀ {binds:List (Str×Value)} {m:Str→Option Value},(∀ v,(x,v)∉binds)→bindL kindOf binds m x=m x
  | [],_,_=>rfl
  | (n,v)::r,m,h=>by
    unfold bindL
    rw [bindL_out fun w hw=>h w (List.mem_cons_of_mem _ hw)]
    split
    · have:x≠n:=by rintro rfl; exact h v List.mem_cons_self
      simp [this]
    · rfl
theorem bindC_out {kindOf:Str→Option NameKind}{x:Str}:∀ {binds:List (Str×Value)} {m:Str→Option Value},(∀ v,(x,v)∉binds)→bindC kindOf binds m x=m x
  | [],_,_=>rfl
  | (n,v)::r,m,h=>by
    unfold bindC
    rw [bindC_out fun w hw=>h w (List.mem_cons_of_mem _ hw)]
    split
    · rfl
    · have:x≠n:=by rintro rfl; exact h v List.mem_cons_self
      simp [this]
theorem bindL_get {kindOf:Str→Option NameKind}{x:Str}{v:Value}:∀ {P:List Str} {vs:List Value} {i:Nat} {m:Str→Option Value},P.Nodup→P[i]?=some x→vs[i]?=some v→kindOf x=some .local →
    bindL kindOf (P.zip vs) m x=some v
  | [],_,_,_,_,h,_,_=>by simp at h
  | _::_,[],_,_,_,_,h,_=>by simp at h
  | p::P,w::vs,0,m,nd,h1,h2,hk=>by
    simp at h1 h2; subst h1; subst h2
    show bindL kindOf ((p,w)::P.zip vs) m p=_
    unfold bindL
    rw [bindL_out fun v hv=>(List.nodup_cons.mp nd).1 (List.of_mem_zip hv).1,if_pos hk]
    simp
  | p::P,w::vs,i+1,m,nd,h1,h2,hk=>by
    show bindL kindOf ((p,w)::P.zip vs) m x=_
    unfold bindL
    exact bindL_get (i:=i) (List.nodup_cons.mp nd).2 (by simpa using h1) (by simpa using h2) hk
theorem bindC_get {kindOf:Str→Option NameKind}{x:Str}{v:Value}:∀ {P:List Str} {vs:List Value} {i:Nat} {m:Str→Option Value},P.Nodup→P[i]?=some x→vs[i]?=some v→kindOf x≠some .local →
    bindC kindOf (P.zip vs) m x=some v
  | [],_,_,_,_,h,_,_=>by simp at h
  | _::_,[],_,_,_,_,h,_=>by simp at h
  | p::P,w::vs,0,m,nd,h1,h2,hk=>by
    simp at h1 h2; subst h1; subst h2
    show bindC kindOf ((p,w)::P.zip vs) m p=_
    unfold bindC
    rw [bindC_out fun v hv=>(List.nodup_cons.mp nd).1 (List.of_mem_zip hv).1,if_neg hk]
    simp
  | p::P,w::vs,i+1,m,nd,h1,h2,hk=>by
    show bindC kindOf ((p,w)::P.zip vs) m x=_
    unfold bindC
    exact bindC_get (i:=i) (List.nodup_cons.mp nd).2 (by simpa using h1) (by simpa using h2) hk
def start (N:List Str)(vs:List V):St:=vs.map some++List.replicate (N.length - vs.length) none
def cxOf (CX:CXT)(P:Program)(w:World)(K:PySem.W.Frag)(mg:Str→Option Value)(base:Heap)(N:List Str)(qual:Str)(scope:Scope)(f:Addr)(cd:Value)(A:Around)(outer:List Env)(s:Shared)(H:Hp)(E:XK):Cx where
  prog:=P
  w:=w
  K:=K
  mg:=mg
  base:=base
  A:=A.deeper (envOfC qual scope s.heap.objs.size f cd)
  N:=N
  s₀:=s
  H₀:=H
  env:=envOfC qual scope s.heap.objs.size f cd
  outer:=outer
  stack:=envOfC qual scope s.heap.objs.size f cd::outer
  ex:=[]
  calm:=true
  fn:=fun _=>true
  pn:=[]
  xe:=fun e s'=>wpAny (model P w) (A.deeper (envOfC qual scope s.heap.objs.size f cd)) (leaving (envOfC qual scope s.heap.objs.size f cd) e) (fun _ s''=>CX outer H s E e s'') (fun e' s''=>CX outer H s E e' s'') s'
theorem cell_has {sc:Scope}{n:Nat}{x:Str}(h:sc.names.lookup x=some .cell):∃ c,(cellsFrom n sc.names []).lookup x=some c:=by
  have q:=PySem.W.cellsFrom_some sc.names n [] (.inl h)
  exact Option.isSome_iff_exists.mp q
theorem inv_start {CX:CXT}{P:Program}{w:World}{K:PySem.W.Frag}{mg:Str→Option Value}{base:Heap}{N ps:List Str}{qual:Str}{scope:Scope}{f:Addr}{cd:Value}{A:Around}{outer:List Env}{s s1:Shared}{H:Hp}{E:XK}{us:List Value}{vs:List V}
    (S:FnScope N ps scope) (hd:A.handled=none) (e0:Env0 P w K mg base A outer s H) (hl:vs.length=ps.length) (r:Vals vs us)
    (x:InCallC s s.heap.objs.size (bindL (envOfC qual scope s.heap.objs.size f cd).kindOf (ps.zip us) fun _=>none) (cellsFrom (s.heap.objs.size+1) scope.names []) (bindC (envOfC qual scope s.heap.objs.size f cd).kindOf (ps.zip us) fun _=>none) s1) :
    Inv (cxOf CX P w K mg base N qual scope f cd A outer s H E) [] (start N vs) H s1:=by
  have hpl:ps.length≤N.length:=by have:=congrArg List.length S.pre; rw [List.length_take] at this; omega
  obtain ⟨h1,tk,rfl,hk⟩:=x.done
  have noA:∀ b:Addr,b∉(cxOf CX P w K mg base N qual scope f cd A outer s H E).ex:=fun b z=>absurd (show b∈([]:List Addr) from z) (by simp)
  refine ⟨⟨e0.mod,S.kind,rfl,rfl,Nat.le_refl _,fun y z c h1 h2=>?_,fun y hy=>?_,fun y c _ h=>?_,fun _=>hd,Around.frames_deeper e0.frames,.inr ⟨rfl,rfl⟩,fun b z=>absurd z (noA b),e0.bs,e0.bsz,fun b _ _=>noA b,fun b z=>absurd z (noA b),e0.funs,e0.frf⟩,
    rfl,e0.bare,Un.kept hk,⟨_,x.toInCall.ns,fun i y v h1 h2 h3=>?_⟩,fun y c h=>⟨_,x.cell y c h⟩,e0.hok.fresh (Nat.le_refl _),fun y c h=>?_,fun p hp=>absurd (show p∈([]:List (Addr×Obj)) from hp) (by simp),e0.hok.kept hk,?_⟩
  · exact name_of_addr x.apart (PySem.mem_of_lookup h1) (PySem.mem_of_lookup h2)
  · have hy:scope.names.lookup y=some .cell∨scope.names.lookup y=some .free:=hy
    rcases hy with hy | hy
    · exact cell_has hy
    · exact absurd rfl (S.nofree _ (PySem.mem_of_lookup hy))
  · exact Nat.le_of_lt (x.above y c (PySem.mem_of_lookup h))
  · have hi:i<vs.length:=by
      unfold start at h2
      by_cases hi:i<vs.length
      · exact hi
      · rw [List.getElem?_append_right (by simpa using hi)] at h2
        rw [List.getElem?_replicate] at h2
        split at h2 <;> cases h2
    have ha:vs[i]?=some v:=by
      unfold start at h2
      rw [List.getElem?_append_left (by simpa using hi),List.getElem?_map] at h2
      cases e:vs[i]? with
      | none=>rw [e] at h2; cases h2
      | some a=>rw [e] at h2; cases h2; rfl
    obtain ⟨u,hu,rv⟩:=r.get ha
    have hp:ps[i]?=some y:=by
      rw [← S.pre,List.getElem?_take_of_lt (by omega)]; exact h1
    have ndP:ps.Nodup:=by rw [← S.pre]; exact S.nd.sublist (List.take_sublist _ _)
    refine ⟨u,rv,?_⟩
    rcases S.par y (List.mem_of_getElem? hp) with k | k
    · exact .inl ⟨k,bindL_get ndP hp hu k⟩
    · obtain ⟨c,e⟩:=cell_has (n:=s.heap.objs.size+1) k
      refine .inr ⟨.inl k,c,e,?_⟩
      have q:=x.cell y c e
      rw [bindC_get ndP hp hu (by show scope.names.lookup y≠_; rw [k]; decide)] at q
      exact q
  · exact e0.hok.fresh (Nat.le_of_lt (x.above y c (PySem.mem_of_lookup h)))
  · unfold start
    show _=N.length
    rw [List.length_append,List.length_map,List.length_replicate]
    omega
theorem fn_of {CX:CXT}{P:Program}{w:World}{K:PySem.W.Frag}{mg:Str→Option Value}{base:Heap}{k:Nat}{f:Addr}{name qual:Str}{params:Arguments}{body:List Stmt}{scope:Scope}{dV kV doc pm cdv ct oc:Value}{an od:Option Addr}
    {osl:Array (Option Value)} {N ps:List Str} {sp:Sp} (lk:K.lookup f=some ⟨oc,od,.func (PySem.W.fnOf name qual params body scope dV kV doc pm an cdv ct),osl⟩) (hcd:PySem.W.codeIn K cdv qual=true) (S:FnScope N ps scope)
    (len:∀ vs H Q E,sp vs H Q E→vs.length=ps.length)
    (hbody:∀ (A:Around) (outer:List Env) (s:Shared) (H:Hp) (vs:List V) (Q:VK) (E:XK),Room k (A.deeper (envOfC qual scope s.heap.objs.size f cdv))→sp vs H Q E →
      ∃ t,PSs (cxOf CX P w K mg base N qual scope f cdv A outer s H E) body t∧t { nx:=fun _ H'=>Q .non H',rt:=Q } (start N vs) H) :
    FnOk P w K mg base CX (k+1) f (PySem.W.fnOf name qual params body scope dV kV doc pm an cdv ct) ps sp:=by
  refine ⟨len,fun A outer s H args us vs Q E hr e0 hb r hsp=>?_⟩
  have hl:=len _ _ _ _ hsp
  have KX:K.In s.heap:=e0.mod.kin.keeps fun b o e=>(e0.bs b o e).1
  have lim:s.heap.NoLimit:=e0.mod.nolimit.keeps fun b o e=>(e0.bs b o e).1
  have hkind:∀ y∈ps.zip us,scope.names.lookup y.1=some .local∨(scope.names.lookup y.1=some .cell∧((cellsFrom (s.heap.objs.size+1) scope.names []).lookup y.1).isSome=true):=fun ⟨n,v⟩ hy=>by
    rcases S.par n (List.of_mem_zip hy).1 with q | q
    · exact .inl q
    · exact .inr ⟨q,PySem.W.cellsFrom_some _ _ _ (.inl q)⟩
  refine codeAny_call_function hr.depth (KX _ _ lk) rfl S.co S.gen rfl (PySem.W.codeRec_of KX hcd) (hb _ _ _ _ ?_)
  refine wpAny_newFunctionEnv_cells S.kind hkind fun env he s1 x=>?_
  subst he
  refine ⟨lim.keeps x.toInCall.keep,codeAny_func ?_⟩
  obtain ⟨t,ht,hq⟩:=hbody A outer s H vs Q E (hr.deeper _) hsp
  have I:Inv (cxOf CX P w K mg base N qual scope f cdv A outer s H E) [] (start N vs) H s1:=inv_start S hr.hd e0 hl r x
  refine wpAny_mono (ht [] s1 (start N vs) H _ I hq) (fun fl s' hs=>?_) fun e s' hs=>hs
  have fin:∀ {σ':St} {H':Hp} {v:V} {u:Value},Inv (cxOf CX P w K mg base N qual scope f cdv A outer s H E) [] σ' H' s'→RelV v u→Q v H'→CE outer P w H s Q u s' :=
    fun {σ' H' v u} J rv q=>⟨v,H',J.os,J.bare,J.base,J.hok,rv,q⟩
  cases fl with
  | ret u =>
    obtain ⟨v,σ',H',J,rv,q⟩:=hs
    exact fin J rv q
  | next =>
    obtain ⟨σ',H',J,q⟩:=hs
    exact fin (v:=V.non) (u:=Value.none) J rfl q
  | brk =>
    obtain ⟨_,_,_,q⟩:=hs
    exact False.elim q
  | cont =>
    obtain ⟨_,_,_,q⟩:=hs
    exact False.elim q
end L2
namespace L2
open PySem PySem.Spec PyProof.Rows
section
variable {X:Cx}{x:Str}{p pos:Pos}{e:Expr}{es:List Expr}{t:TA}{id T:String}{r:List V→Hp→VK→Prop}
def tCB (r:List V→Hp→VK→Prop)(t:TA):TE:=fun σ H Q=>t σ H fun vs H1=>r vs H1 Q
theorem pe_callB (hc:CallR X (.builtin id) r)(hg:Gl X x)(hm:X.mg x=none)(hv:bootBuiltins x=some (.builtin id))(ha:PA X (e::es) t)(hn:x≠"__name__":=by decide)(hdb:(x == ("__debug__":Str))=false:=by decide)
    (he:starEach (e::es) X.env=(false,eval e X.env)::starEach es X.env:=by rfl) (hpl:(backTo pos (starEach es X.env)).any (·.1)=false:=by rfl):PE X (.Call (.Name x p) (e::es) [] pos) (tCB r t):=by
  intro pins s σ H Q I h
  refine wpAny_Call_Name_kw (ld_blt I hg hm hv ?_ hn hdb)
  exact PyProof.Rows.callWith_builtin1 (thn (ha pos pins s σ H _ I h) fun us s1 ⟨vs,H1,I1,r1,q1⟩=>hc pins s1 σ H1 vs us Q I1 r1 q1) he hpl
theorem pe_callTy (hc:CallR X (.type T) r)(hg:Gl X x)(hm:X.mg x=none)(hv:bootBuiltins x=some (.type T))(ha:PA X (e::es) t)(hn:x≠"__name__":=by decide)(hdb:(x == ("__debug__":Str))=false:=by decide)
    (he:starEach (e::es) X.env=(false,eval e X.env)::starEach es X.env:=by rfl) (hpl:(backTo pos (starEach es X.env)).any (·.1)=false:=by rfl):PE X (.Call (.Name x p) (e::es) [] pos) (tCB r t):=by
  intro pins s σ H Q I h
  refine wpAny_Call_Name_kw (ld_blt I hg hm hv ?_ hn hdb)
  exact PyProof.Rows.callWith_type1 (thn (ha pos pins s σ H _ I h) fun us s1 ⟨vs,H1,I1,r1,q1⟩=>hc pins s1 σ H1 vs us Q I1 r1 q1) he hpl
end
end L2
namespace HT
open PySem PyProof.Rows
section
open PySem.SeqAt
open PySem.AutoSeq1 (wpAny_loadPart')
open PySem.MeetsSeq PySem.MeetsSeq2 PySem.MeetsSeq3
end
section
variable {prog:Program}{w:World}{A:Around}{E:Value→Shared→Prop}{s:Shared}
theorem cat_tup {t b:Addr}{vs ws:List Value}{Q:Value→Shared→Prop}(ht:IsTup s.heap t vs.toArray)(hb:IsTup s.heap b ws.toArray)(hv:vs≠[])
    (h1:ws=[]→Q (.ref t) s) (h2:ws≠[]→Q (.ref s.heap.objs.size) { s with heap:=s.heap.push { cls:=.type "tuple",data:=.seq (vs++ws).toArray } })
    (hsz:vs.length+ws.length≤sizeLine):wpAny (model prog w) A (binaryOp .Add (.ref t) (.ref b)) Q E s:=by
  obtain ⟨⟨cls,dd,data,sl⟩,ho,hc,n,hd⟩:=id ht
  obtain ⟨⟨cls2,dd2,data2,sl2⟩,ho2,hc2,n2,hd2⟩:=id hb
  simp only at hc hd hc2 hd2
  subst hc hd hc2 hd2
  have e:vs.toArray++ws.toArray=(vs++ws).toArray:=by simp
  by_cases hw:ws=[]
  · exact concat_meets ⟨_,ho,rfl⟩ ⟨_,ho2,rfl⟩ noFill_tuple_add seq_tuple_add PySem.F.slot_tuple_add PySem.F.entry_tuple_add (PySem.F.args_tuple_add_2 _ _)
      (tuple_addW1 t b vs.toArray ws.toArray n n2 dd dd2 sl sl2 (by simpa using hv) (by simp [hw])) ⟨ho,ho2,h1 hw⟩
  · refine concat_meets ⟨_,ho,rfl⟩ ⟨_,ho2,rfl⟩ noFill_tuple_add seq_tuple_add PySem.F.slot_tuple_add PySem.F.entry_tuple_add (PySem.F.args_tuple_add_2 _ _)
      (tuple_addW2 t b vs.toArray ws.toArray n n2 dd dd2 sl sl2 (by simpa using hv) (by simpa using hw) (by rw [List.size_toArray,List.size_toArray]; exact hsz)) ⟨ho,ho2,?_⟩
    rw [e]
    exact h2 hw
def sIx (n d:Nat):Option Int→Nat
  | none=>d
  | some v=>if v<0 then (v+(n:Int)).toNat else min v.toNat n
theorem sIx_none (n d:Nat):sIx n d none=d:=rfl
theorem sIx_nat (n d k:Nat):sIx n d (some (k:Int))=min k n:=by
  show (if (k:Int)<0 then ((k:Int)+(n:Int)).toNat else min (k:Int).toNat n)=min k n
  rw [if_neg (by omega),Int.toNat_natCast]
end
end HT
namespace L2
open PySem PySem.Spec PyProof.Rows
abbrev TO:=St→Hp→(Option Int→Hp→Prop)→Prop
def PO (X:Cx)(e:Option Expr)(t:TO):Prop :=
  ∀ (pins:List (Addr×Obj)) (s:Shared) (σ:St) (H:Hp) (Q:Option Int→Hp→Prop),Inv X pins σ H s→t σ H Q →
    wpAny (model X.prog X.w) X.A (evalPart e X.env) (fun u s'=>∃ o H',Inv X pins σ H' s'∧IsPart u o∧Q o H') X.xe s
def tNoPart:TO:=fun _ H Q=>Q none H
def tPart (t:TE):TO:=fun σ H Q=>t σ H fun x H1=>∃ i,x=.int i∧Q (some i) H1
section
variable {X:Cx}{e:Expr}{te:TE}{lo hi:Option Expr}{tl th:TO}{pos p2:Pos}
theorem po_none:PO X none tNoPart:=by
  intro pins s σ H Q I h
  rw [evalPart_none]
  exact wpAny_pure ⟨none,H,I,.none,h⟩
theorem po_some (h:PE X e te):PO X (some e) (tPart te):=by
  intro pins s σ H Q I hw
  rw [evalPart_some]
  refine thn (h pins s σ H _ I hw) fun u s1 ⟨x,H1,I1,r1,q1⟩=>?_
  obtain ⟨i,rfl,q⟩:=q1
  obtain ⟨t,rfl⟩:=r1
  exact ⟨some i,H1,I1,.int i t,q⟩
def SlR (X:Cx)(r:V→Option Int→Option Int→Hp→VK→Prop):Prop :=
  ∀ (pins:List (Addr×Obj)) (s:Shared) (σ:St) (H:Hp) (x:V) (v vl vu:Value) (lo hi:Option Int) (sl:Addr) (Q:VK),Inv X pins σ H s→RelV x v→s.heap.IsSliceOf sl vl vu .none→IsPart vl lo→IsPart vu hi→r x lo hi H Q →
    ∃ T id,typeLookup (.type T) "__getitem__"=pure (some (.builtin id))∧s.TypeIs v T∧wpAny (model X.prog X.w) X.A (getItem v (.ref sl)) (EP X pins σ Q) X.xe s
def tSl (r:V→Option Int→Option Int→Hp→VK→Prop)(te:TE)(tl th:TO):TE:=fun σ H Q=>te σ H fun x H1=>tl σ H1 fun l H2=>th σ H2 fun u H3=>r x l u H3 Q
theorem pe_slice {r:V→Option Int→Option Int→Hp→VK→Prop}(hr:SlR X r)(he:PE X e te)(hl:PO X lo tl)(hu:PO X hi th):PE X (.Subscript e (.Slice lo hi none p2) pos) (tSl r te tl th):=by
  intro pins s σ H Q I h
  refine Subscript_ (thn (he pins s σ H _ I h) fun v s1 ⟨x,H1,I1,r1,q1⟩=>?_)
  refine wpAny_Slice (thn (hl pins s1 σ H1 _ I1 q1) fun vl s2 ⟨l,H2,I2,pl,q2⟩=>thn (hu pins s2 σ H2 _ I2 q2) fun vu s3 ⟨u,H3,I3,pu,q3⟩=>?_)
  rw [evalPart_none]
  refine wpAny_pure ?_
  have I4:Inv X pins σ H3 { s3 with heap:=s3.heap.push { cls:=.type "slice",data:=.fields #[vl,vu,.none] } }:=I3.kept (t':=s3.toks) fun b ob q=>Heap.get?_push_of_some _ q
  obtain ⟨T,id,hT,ht,hg⟩:=hr pins { s3 with heap:=s3.heap.push { cls:=.type "slice",data:=.fields #[vl,vu,.none] } } σ H3 x v vl vu l u s3.heap.objs.size Q I4 r1 (Heap.IsSliceOf.new ..) pl pu q3
  show wpAny (model X.prog X.w) X.A (subscriptTail e (.Slice lo hi none p2) v (.ref s3.heap.objs.size)) (EP X pins σ Q) X.xe { s3 with heap:=s3.heap.push { cls:=.type "slice",data:=.fields #[vl,vu,.none] } }
  exact tail_any (ops:=[.ref s3.heap.objs.size,v]) ht hT hg (by with_unfolding_all rfl)
def cutV (xs:List V)(lo hi:Option Int):List V:=(xs.drop (HT.sIx xs.length 0 lo)).take (HT.sIx xs.length xs.length hi - HT.sIx xs.length 0 lo)
theorem cutV_length (xs:List V)(lo hi:Option Int):(cutV xs lo hi).length≤xs.length:=by
  unfold cutV
  rw [List.length_take,List.length_drop]
  omega
def rCatT (K:PySem.W.Frag):R2:=fun x y H Q=>∃ a b xs ys,x=.ref a∧y=.ref b∧SqT K H a xs∧SqT K H b ys∧xs≠[]∧xs.length+ys.length≤sizeLine ∧
  (ys=[]→Q (.ref a) H)∧(ys≠[]→∀ p,H p=none→Q (.ref p) (upd H p (.tup (xs++ys))))
theorem Vals.nil_iff {xs:List V}{us:List Value}(r:Vals xs us):us=[]↔xs=[]:=by
  cases r with
  | nil=>simp
  | cons _ _=>simp
theorem op_catT:OpR X (binaryOp .Add) (rCatT X.K):=by
  intro pins s σ H x y v u Q I rx ry h
  obtain ⟨a,b,xs,ys,rfl,rfl,ha,hb,hx,hz,q1,q2⟩:=h
  cases rx
  cases ry
  obtain ⟨its,r1,p1,_⟩:=I.tuple ha
  obtain ⟨its2,r2,p2,_⟩:=I.tuple hb
  refine HT.cat_tup p1 p2 (fun z=>hx (r1.nil_iff.mp z)) (fun z=>⟨.ref a,H,I,rfl,q1 (r2.nil_iff.mp z)⟩) (fun z=>?_) (by rw [← r1.length,← r2.length]; exact hz)
  refine ⟨.ref s.heap.objs.size,_,I.laid (t':=s.toks) (o:=.tup (xs++ys)) (fun b ob q=>Heap.get?_push_of_some _ q) (Nat.le_refl _) ?_,rfl,q2 (fun w=>z (r2.nil_iff.mpr w)) _ (I.hok.fresh (Nat.le_refl _))⟩
  exact ⟨by rw [List.length_append]; exact hz,_,r1.append r2,IsTup.new _ _⟩
end
end L2
namespace L2
open PySem PySem.Spec PyProof.Rows
def ixN (n:Nat)(i:Int):Option Nat:=if 0≤i then (if i<n then some i.toNat else none) else if -(n:Int)≤i then some (i+n).toNat else none
def atI {α:Type}(xs:List α)(i:Int):Option α:=(ixN xs.length i).bind fun j=>xs[j]?
theorem ixN_seq {n:Nat}{i:Int}{j:Nat}(h:ixN n i=some j):seqIndex? i n=some j∧j<n∧-(n:Int)≤i∧i<n:=by
  unfold ixN at h
  by_cases h0:0≤i
  · rw [if_pos h0] at h
    by_cases h1:i<n
    · rw [if_pos h1] at h
      have e:i.toNat=j:=Option.some.inj h
      exact ⟨by rw [seqIndex_of h0 h1,e],by omega,by omega,h1⟩
    · rw [if_neg h1] at h; cases h
  · rw [if_neg h0] at h
    by_cases h1:-(n:Int)≤i
    · rw [if_pos h1] at h
      have e:(i+n).toNat=j:=Option.some.inj h
      exact ⟨by rw [seqIndex_neg (by omega) h1,e],by omega,h1,by omega⟩
    · rw [if_neg h1] at h; cases h
theorem atI_get {α:Type}{xs:List α}{i:Int}{v:α}(h:atI xs i=some v):∃ j,seqIndex? i xs.length=some j∧xs[j]?=some v∧j<xs.length∧-(xs.length:Int)≤i∧i<xs.length:=by
  unfold atI at h
  cases e:ixN xs.length i with
  | none=>rw [e] at h; cases h
  | some j =>
    rw [e] at h
    obtain ⟨h1,h2,h3,h4⟩:=ixN_seq e
    exact ⟨j,h1,h,h2,h3,h4⟩
theorem atI_nat {α:Type}{xs:List α}{j:Nat}{v:α}(h:xs[j]?=some v):atI xs (j:Int)=some v:=by
  have hj:j<xs.length:=(List.getElem?_eq_some_iff.mp h).1
  have e:ixN xs.length (j:Int)=some j:=by
    unfold ixN
    rw [if_pos (by omega),if_pos (by omega)]; simp
  unfold atI; rw [e]; exact h
theorem atI_last {α:Type}(xs:List α)(v:α):atI (xs++[v]) (-1)=some v:=by
  have hl:(xs++[v]).length=xs.length+1:=by simp
  have e:ixN (xs++[v]).length (-1)=some xs.length:=by
    unfold ixN
    rw [hl,if_neg (by decide),if_pos (by omega)]
    congr 1
    omega
  unfold atI
  rw [e]
  show (xs++[v])[xs.length]?=some v
  simp
def PlainIx (b:Expr):Prop:=∀ o i,subscripted b false o i=operate [o,i] (getItem o i)
def IxR (X:Cx)(r:R2):Prop :=
  ∀ (value slice:Expr) (pins:List (Addr×Obj)) (s:Shared) (σ:St) (H:Hp) (x y:V) (v u:Value) (Q:VK),Inv X pins σ H s→RelV x v→RelV y u→r x y H Q →
    subscripted slice false v u=operate [v,u] (getItem v u)→wpAny (model X.prog X.w) X.A (subscriptTail value slice v u) (EP X pins σ Q) X.xe s
def MtR (X:Cx)(id:String)(r:V→List V→Hp→VK→Prop):Prop :=
  ∀ (pins:List (Addr×Obj)) (s:Shared) (σ:St) (H:Hp) (x:V) (xs:List V) (v:Value) (us:List Value) (Q:VK),Inv X pins σ H s→RelV x v→Vals xs us→r x xs H Q →
    wpAny (model X.prog X.w) X.A (call (.builtin id) (v::us)) (EP X pins σ Q) X.xe s
section
variable {X:Cx}{a b:Expr}{ta tb:TE}{pos:Pos}
theorem pe_ix {r:R2}(hr:IxR X r)(ha:PE X a ta)(hb:PE X b tb)(hs:PlainIx b):PE X (.Subscript a b pos) (tOp r ta tb):=by
  intro pins s σ H Q I h
  exact Subscript_ (binT ha hb I h fun v u s2 x y H2 I2 rx ry q=>hr a b pins s2 σ H2 x y v u Q I2 rx ry q (hs _ _))
def rIxL (K:PySem.W.Frag):R2:=fun x y H Q=>∃ p xs i v,x=.ref p∧y=.int i∧SqL K H p xs∧atI xs i=some v∧Q v H
def rIxT (K:PySem.W.Frag):R2:=fun x y H Q=>∃ p xs i v,x=.ref p∧y=.int i∧SqT K H p xs∧atI xs i=some v∧Q v H
def rIxS:R2:=fun x y H Q=>∃ z i c,x=.str z∧y=.int i∧z.length≤sizeLine∧atI z.cps.toList i=some c∧Q (.str ⟨#[c]⟩) H
theorem ix_list:IxR X (rIxL X.K):=by
  intro value slice pins s σ H x y v u Q I rx ry h hs
  obtain ⟨p,xs,i,z,rfl,rfl,hq,he,q⟩:=h
  cases rx
  obtain ⟨t,rfl⟩:=ry
  obtain ⟨its,r,pl,hz⟩:=I.list hq
  obtain ⟨j,h1,h2,h3,h4,h5⟩:=atI_get he
  obtain ⟨w,ew,rw'⟩:=r.get h2
  have hl:=r.length
  have hn:=line63
  have fin:EP X pins σ Q w s:=⟨z,H,I,rw',q⟩
  by_cases h0:0≤i
  · have hj:i.toNat=j:=by
      rw [seqIndex_of h0 h5] at h1
      exact Option.some.inj h1
    exact item_listR pl.isList h0 (by omega) (by rw [hj]; simpa using ew) fin hs
  · have hj:(i+(its.toArray.size:Int)).toNat=j:=by
      rw [seqIndex_neg (by omega) h4] at h1
      rw [List.size_toArray,← hl]
      exact Option.some.inj h1
    exact subscriptTail_builtinR (x:=w) pl.isList.typeIs slot_list_getitem.lookup
      (wpAny_getItem_list_neg (Q:=fun r s'=>r=w∧EP X pins σ Q r s') pl.isList (by omega) (by rw [List.size_toArray] <;> omega) (by omega) (by rw [hj]; simpa using ew) ⟨rfl,fin⟩) hs
theorem ix_tup:IxR X (rIxT X.K):=by
  intro value slice pins s σ H x y v u Q I rx ry h hs
  obtain ⟨p,xs,i,z,rfl,rfl,hq,he,q⟩:=h
  cases rx
  obtain ⟨t,rfl⟩:=ry
  obtain ⟨its,r,pl,hz⟩:=I.tuple hq
  obtain ⟨j,h1,h2,h3,h4,h5⟩:=atI_get he
  obtain ⟨w,ew,rw'⟩:=r.get h2
  have hl:=r.length
  have hn:=line63
  have fin:EP X pins σ Q w s:=⟨z,H,I,rw',q⟩
  exact subscriptTail_builtinR (x:=w) pl.typeIs slot_tuple_getitem.lookup
    (getItem_tuple (j:=j) (Q:=fun r s'=>r=w∧EP X pins σ Q r s') pl (by omega) (by omega) (by rw [List.size_toArray,← hl]; exact h1) (by simpa using ew) ⟨rfl,fin⟩) hs
theorem ix_str:IxR X rIxS:=by
  intro value slice pins s σ H x y v u Q I rx ry h hs
  obtain ⟨z,i,c,rfl,rfl,hz,he,q⟩:=h
  obtain ⟨t,rfl⟩:=rx
  obtain ⟨t',rfl⟩:=ry
  obtain ⟨j,h1,h2,h3,h4,h5⟩:=atI_get he
  have hl:z.cps.toList.length=z.length:=by simp [Str.length]
  rw [hl] at h1 h4 h5
  have hn:=line63
  exact tail_any (typeIs_str s z t) slot_str_getitem.lookup (getItem_str (c:=c) (by
    have e1:decide (i < -(2 ^ 63:Int))=false:=decide_eq_false (by omega)
    have e2:decide (i ≥ 2 ^ 63)=false:=decide_eq_false (by omega)
    rw [e1,e2,Bool.or_false]) (by rw [h1]; simpa using h2) ⟨.str ⟨#[c]⟩,H,I.tok _,⟨_,rfl⟩,q⟩) hs
theorem slice_bounds (lo hi:Option Int)(n:Nat):(sliceBounds lo hi none n).1=((HT.sIx n 0 lo:Nat):Int)∧(sliceBounds lo hi none n).2.1=((HT.sIx n n hi:Nat):Int)∧(sliceBounds lo hi none n).2.2=1:=by
  refine ⟨?_,?_,rfl⟩
  · cases lo with
    | none=>simp [sliceBounds,HT.sIx]
    | some i =>
      simp only [sliceBounds,HT.sIx,Option.getD_none,show (1:Int) > 0 by decide,if_true]
      by_cases h:i<0
      · simp only [h,if_true] <;> omega
      · simp only [h,if_false] <;> omega
  · cases hi with
    | none=>simp [sliceBounds,HT.sIx]
    | some i =>
      simp only [sliceBounds,HT.sIx,Option.getD_none,show (1:Int) > 0 by decide,if_true]
      by_cases h:i<0
      · simp only [h,if_true] <;> omega
      · simp only [h,if_false] <;> omega
theorem slicePick_cut (its:List Value)(lo hi:Option Int):slicePick its.toArray lo hi none=((its.drop (HT.sIx its.length 0 lo)).take (HT.sIx its.length its.length hi - HT.sIx its.length 0 lo)).toArray:=by
  obtain ⟨h1,h2,h3⟩:=slice_bounds lo hi its.toArray.size
  unfold slicePick
  rw [h1,h2,h3]
  simp only [sliceRange_one,pick_run,List.size_toArray] <;> rfl
def rSlL (K:PySem.W.Frag):V→Option Int→Option Int→Hp→VK→Prop:=fun x lo hi H Q=>∃ a xs,x=.ref a∧SqL K H a xs∧∀ p,H p=none→Q (.ref p) (upd H p (.lst (cutV xs lo hi)))
theorem sl_list:SlR X (rSlL X.K):=by
  intro pins s σ H x v vl vu lo hi sl Q I rx hs pl pu h
  obtain ⟨a,xs,rfl,hx,q⟩:=h
  cases rx
  obtain ⟨its,r,ht,hz⟩:=I.list hx
  have hlen:=r.length
  refine ⟨"list",_,slot_list_getitem.lookup,ht.isList.typeIs,?_⟩
  refine wpAny_getItem_list_slice ht.isList hs pl pu .none (by simp) ?_ (by rw [List.size_toArray] <;> omega)
  rw [slicePick_cut,← hlen]
  refine ⟨.ref s.heap.objs.size,_,I.laid (t':=s.toks) (o:=.lst (cutV xs lo hi)) (fun b ob q=>Heap.get?_push_of_some _ q) (Nat.le_refl _) ?_,rfl,q _ (I.hok.fresh (Nat.le_refl _))⟩
  exact ⟨Nat.le_trans (cutV_length xs lo hi) hz,_,0,(r.drop (HT.sIx xs.length 0 lo)).take (HT.sIx xs.length xs.length hi - HT.sIx xs.length 0 lo),Heap.get?_push_size _ rfl⟩
def flatV:V→Bool
  | .non=>true
  | .bl _=>true
  | .int _=>true
  | .str _=>true
  | _=>false
def eqV:V→V→Bool
  | .non,.non=>true
  | .bl a,.bl b=>a == b
  | .bl a,.int b=>(if a then 1 else 0) == b
  | .int a,.bl b=>a == (if b then 1 else 0)
  | .int a,.int b=>a == b
  | .str a,.str b=>a == b
  | _,_=>false
theorem eqAt_V {A:Around}{s:Shared}{y x:V}{u v:Value}(ry:RelV y u)(rx:RelV x v)(fy:flatV y=true)(fx:flatV x=true):SeqAt.EqAt A s u v (eqV y x):=by
  cases y with
  | non =>
    cases ry
    cases x with
    | non=>cases rx; exact SeqAt.EqAt.same _
    | bl b=>cases rx; exact SeqAt.EqAt.none_bool b
    | int b=>obtain ⟨t,rfl⟩:=rx; exact SeqAt.EqAt.none_int b t
    | str b=>obtain ⟨t,rfl⟩:=rx; exact SeqAt.EqAt.none_str b t
    | _=>exact absurd (show false=true from fx) Bool.false_ne_true
  | bl a =>
    cases ry
    cases x with
    | non=>cases rx; exact SeqAt.EqAt.bool_none a
    | bl b=>cases rx; exact SeqAt.EqAt.bool_bool a b
    | int b=>obtain ⟨t,rfl⟩:=rx; exact SeqAt.EqAt.bool_int a b t
    | str b=>obtain ⟨t,rfl⟩:=rx; exact SeqAt.EqAt.bool_str a b t
    | _=>exact absurd (show false=true from fx) Bool.false_ne_true
  | int a =>
    obtain ⟨t',rfl⟩:=ry
    cases x with
    | non=>cases rx; exact SeqAt.EqAt.int_none a t'
    | bl b=>cases rx; exact SeqAt.EqAt.int_bool a t' b
    | int b=>obtain ⟨t,rfl⟩:=rx; exact SeqAt.EqAt.int_int a t' b t
    | str b=>obtain ⟨t,rfl⟩:=rx; exact SeqAt.EqAt.int_str a t' b t
    | _=>exact absurd (show false=true from fx) Bool.false_ne_true
  | str a =>
    obtain ⟨t',rfl⟩:=ry
    cases x with
    | non=>cases rx; exact SeqAt.EqAt.str_none a t'
    | bl b=>cases rx; exact SeqAt.EqAt.str_bool a t' b
    | int b=>obtain ⟨t,rfl⟩:=rx; exact SeqAt.EqAt.str_int a t' b t
    | str b=>obtain ⟨t,rfl⟩:=rx; exact SeqAt.EqAt.str_str a t' b t
    | _=>exact absurd (show false=true from fx) Bool.false_ne_true
  | _=>exact absurd (show false=true from fy) Bool.false_ne_true
def eqU (x:V)(u:Value):Bool:=match u with
  | .none=>eqV .non x
  | .bool b=>eqV (.bl b) x
  | .int i _=>eqV (.int i) x
  | .str z _=>eqV (.str z) x
  | _=>false
theorem eqU_of {x y:V}{u:Value}(r:RelV y u)(f:flatV y=true):eqU x u=eqV y x:=by
  cases y with
  | non=>cases r; rfl
  | bl b=>cases r; rfl
  | int i=>obtain ⟨t,rfl⟩:=r; rfl
  | str z=>obtain ⟨t,rfl⟩:=r; rfl
  | _=>exact absurd (show false=true from f) Bool.false_ne_true
theorem any_eqU {x:V}:∀ {xs:List V} {us:List Value},Vals xs us→xs.all flatV=true→us.any (eqU x)=xs.any fun y=>eqV y x
  | _,_,.nil,_=>rfl
  | y::xs,u::us,.cons r t,f=>by
    rw [List.all_cons,Bool.and_eq_true] at f
    rw [List.any_cons,List.any_cons,eqU_of r f.1,any_eqU t f.2]
theorem mem_eqAt {A:Around}{s:Shared}{x:V}{v:Value}(rx:RelV x v)(fx:flatV x=true):∀ {xs:List V} {us:List Value},Vals xs us→xs.all flatV=true→∀ u∈us,SeqAt.EqAt A s u v (eqU x u)
  | _,_,.nil,_=>fun u hu=>by cases hu
  | y::xs,u::us,.cons r t,f=>fun u' hu=>by
    rw [List.all_cons,Bool.and_eq_true] at f
    rcases List.mem_cons.mp hu with rfl | hu
    · rw [eqU_of r f.1]; exact eqAt_V r rx f.1 fx
    · exact mem_eqAt rx fx t f.2 u' hu
def inV (x:V)(xs:List V):Bool:=xs.any fun y=>eqV y x
def rIn (K:PySem.W.Frag)(neg:Bool):R2:=fun x y H Q=>∃ p xs,y=.ref p∧(SqL K H p xs∨SqT K H p xs)∧flatV x=true∧xs.all flatV=true∧Q (.bl (if neg then !inV x xs else inV x xs)) H
theorem op_in_seq:OpR X (compareOp .In) (rIn X.K false):=by
  intro pins s σ H x y v u Q I rx ry h
  obtain ⟨p,xs,rfl,hq,fx,fs,q⟩:=h
  cases ry
  rcases hq with hq | hq
  · obtain ⟨its,r,pl,hz⟩:=I.list hq
    refine SeqAt.in_listAt (eqU x) pl.isList (fun w hw=>mem_eqAt rx fx r fs w (by simpa using hw)) ⟨.bl _,H,I,rfl,?_⟩
    rw [show its.toArray.any (eqU x)=its.any (eqU x) by simp,any_eqU r fs]
    exact q
  · obtain ⟨its,r,pl,hz⟩:=I.tuple hq
    refine SeqAt.in_tupleAt (eqU x) pl (fun w hw=>mem_eqAt rx fx r fs w (by simpa using hw)) ⟨.bl _,H,I,rfl,?_⟩
    rw [show its.toArray.any (eqU x)=its.any (eqU x) by simp,any_eqU r fs]
    exact q
theorem op_notIn_seq:OpR X (compareOp .NotIn) (rIn X.K true):=by
  intro pins s σ H x y v u Q I rx ry h
  obtain ⟨p,xs,rfl,hq,fx,fs,q⟩:=h
  cases ry
  rcases hq with hq | hq
  · obtain ⟨its,r,pl,hz⟩:=I.list hq
    refine SeqAt.notIn_listAt (eqU x) pl.isList (fun w hw=>mem_eqAt rx fx r fs w (by simpa using hw)) ⟨.bl _,H,I,rfl,?_⟩
    rw [show its.toArray.any (eqU x)=its.any (eqU x) by simp,any_eqU r fs]
    exact q
  · obtain ⟨its,r,pl,hz⟩:=I.tuple hq
    refine SeqAt.notIn_tupleAt (eqU x) pl (fun w hw=>mem_eqAt rx fx r fs w (by simpa using hw)) ⟨.bl _,H,I,rfl,?_⟩
    rw [show its.toArray.any (eqU x)=its.any (eqU x) by simp,any_eqU r fs]
    exact q
theorem call_len_seq:CallR X (.builtin "len") (fun xs H Q=>∃ p ys,xs=[.ref p]∧(SqL X.K H p ys∨SqT X.K H p ys)∧Q (.int ys.length) H):=by
  intro pins s σ H xs us Q I r h
  obtain ⟨p,ys,rfl,hq,q⟩:=h
  obtain ⟨u,rfl,rx⟩:=vals1 r
  cases rx
  have hn:=line63
  rcases hq with hq | hq
  · obtain ⟨its,r',pl,hz⟩:=I.list hq
    have hlen:=r'.length
    exact Calls.call_len_list pl.isList (by simp only [List.size_toArray] <;> omega) ⟨.int ys.length,H,I.tok _,⟨s.toks+1,by rw [List.size_toArray,hlen]⟩,q⟩
  · obtain ⟨its,r',pl,hz⟩:=I.tuple hq
    have hlen:=r'.length
    exact len_tuple pl (by simp only [List.size_toArray] <;> omega) ⟨.int ys.length,H,I.tok _,⟨s.toks+1,by rw [List.size_toArray,hlen]⟩,q⟩
theorem call_len_str:CallR X (.builtin "len") (fun xs H Q=>∃ z,xs=[.str z]∧z.length≤sizeLine∧Q (.int z.length) H):=by
  intro pins s σ H xs us Q I r h
  obtain ⟨z,rfl,hz,q⟩:=h
  obtain ⟨u,rfl,t,rfl⟩:=vals1 r
  have hn:=line63
  exact len_str (by omega) ⟨.int z.length,H,I.tok _,⟨_,rfl⟩,q⟩
theorem call_list_of:CallR X (.type "list") (fun xs H Q=>∃ p ys,xs=[.ref p]∧(SqL X.K H p ys∨SqT X.K H p ys)∧∀ l,H l=none→Q (.ref l) (upd H l (.lst ys))):=by
  intro pins s σ H xs us Q I r h
  obtain ⟨p,ys,rfl,hq,q⟩:=h
  obtain ⟨u,rfl,rx⟩:=vals1 r
  cases rx
  have fin:∀ (its:List Value),Vals ys its→ys.length≤sizeLine→∀ (h':Heap) (c':Nat),(∀ b o',s.heap.get? b=some o'→h'.get? b=some o') →
      h'.get? s.heap.objs.size=some { cls:=.type "list",dict:=none,data:=.seq its.toArray c',slots:=#[] }→EP X pins σ Q (.ref s.heap.objs.size) { s with heap:=h' }:=fun its r' hz h' c' kp e =>
    ⟨.ref s.heap.objs.size,_,I.laid (t':=s.toks) kp (Nat.le_refl _) (show ObjOk X.prog X.w _ h' _ (.lst ys) from ⟨hz,its,c',r',e⟩),rfl,q _ (I.hok.fresh (Nat.le_refl _))⟩
  rcases hq with hq | hq
  · obtain ⟨its,r',pl,hz⟩:=I.list hq
    have hlen:=r'.length
    obtain ⟨o,ho,hc,n,hd⟩:=pl.isList
    exact call_list_seq p (.inl rfl) ho hc hd (fun h' c' kp e=>fin its r' hz h' c' kp e) (by simp only [List.size_toArray] <;> omega)
  · obtain ⟨its,r',pl,hz⟩:=I.tuple hq
    have hlen:=r'.length
    obtain ⟨o,ho,hc,n,hd⟩:=pl
    exact call_list_seq p (.inr rfl) ho hc hd (fun h' c' kp e=>fin its r' hz h' c' kp e) (by simp only [List.size_toArray] <;> omega)
theorem call_tuple_of:CallR X (.type "tuple") (fun xs H Q=>∃ p ys,xs=[.ref p]∧((SqL X.K H p ys∧∀ l,H l=none→Q (.ref l) (upd H l (.tup ys)))∨(SqT X.K H p ys∧Q (.ref p) H))):=by
  intro pins s σ H xs us Q I r h
  obtain ⟨p,ys,rfl,h⟩:=h
  obtain ⟨u,rfl,rx⟩:=vals1 r
  cases rx
  rcases h with ⟨hq,q⟩ | ⟨hq,q⟩
  · obtain ⟨its,r',pl,hz⟩:=I.list hq
    have hlen:=r'.length
    refine call_tuple_list pl.isList (fun h' kp=>?_) (by simp only [List.size_toArray] <;> omega)
    have I1:Inv X pins σ H { s with heap:=h' }:=I.kept (t':=s.toks) kp
    have I2:Inv X pins σ (upd H h'.objs.size (.tup ys)) { s with heap:=h'.push { cls:=.type "tuple",data:=.seq its.toArray } } :=
      I1.laid (t':=s.toks) (fun b o e=>Heap.get?_push_of_some _ e) (Nat.le_refl _) (show ObjOk X.prog X.w _ _ _ (.tup ys) from ⟨hz,its,r',IsTup.new _ _⟩)
    exact ⟨.ref h'.objs.size,_,I2,rfl,q _ (I1.hok.fresh (Nat.le_refl _))⟩
  · obtain ⟨its,r',pl,hz⟩:=I.tuple hq
    exact call_tuple_same pl ⟨.ref p,H,I,rfl,q⟩
def tyV (K:PySem.W.Frag)(T:String)(x:V)(H:Hp):Prop:=match x with
  | .str _=>T="str"
  | .int _=>T="int"
  | .ref p=>(T="list"∧∃ xs,SqL K H p xs)∨(T="tuple"∧∃ o,K.lookup p=some o∧o.cls=.type "tuple"∧o.dict=none) ∨
      (T="dict"∧((∃ kvs,H p=some (.dK kvs))∨∃ kvs,H p=some (.dT kvs)))∨(T="set"∧∃ S n,H p=some (.set S n))
  | _=>False
theorem tyV_is {pins:List (Addr×Obj)}{σ:St}{H:Hp}{s:Shared}{T:String}{x:V}{v:Value}(I:Inv X pins σ H s)(r:RelV x v)(ty:tyV X.K T x H) :
    s.TypeIs v T∧∀ a,v=.ref a→∃ ob,s.heap.get? a=some ob∧ob.dict=none:=by
  cases x with
  | str z =>
    obtain ⟨t,rfl⟩:=r
    cases (show T="str" from ty)
    exact ⟨typeIs_str s z t,fun _ e=>nomatch e⟩
  | int i =>
    obtain ⟨t,rfl⟩:=r
    cases (show T="int" from ty)
    exact ⟨typeIs_int s i t,fun _ e=>nomatch e⟩
  | ref p =>
    cases r
    rcases ty with ⟨rfl,xs,hq⟩ | ⟨rfl,o,hk,hc,hd⟩ | ⟨rfl,hk⟩ | ⟨rfl,S,n,hk⟩
    · obtain ⟨its,_,pl,_⟩:=I.list hq
      refine ⟨pl.isList.typeIs,fun a e=>?_⟩
      cases e
      obtain ⟨o,n,e,c,hd,_⟩:=pl
      exact ⟨o,e,hd⟩
    · refine ⟨⟨o,I.kIn p o hk,hc⟩,fun a e=>?_⟩
      cases e
      exact ⟨o,I.kIn _ o hk,hd⟩
    · have z:∃ o,s.heap.get? p=some o∧o.ExactDict:=by
        rcases hk with ⟨kvs,hk⟩ | ⟨kvs,hk⟩
        · obtain ⟨_,_,_,_,o,_,_,e,ex,_⟩:=I.hok p _ hk
          exact ⟨o,e,ex⟩
        · obtain ⟨_,_,_,_,o,_,_,e,ex,_⟩:=I.hok p _ hk
          exact ⟨o,e,ex⟩
      obtain ⟨o,e,ex⟩:=z
      refine ⟨⟨o,e,ex.1⟩,fun a e2=>?_⟩
      cases e2
      exact ⟨o,e,ex.2.1⟩
    · obtain ⟨o,_,_,_,e,ex,_⟩:=I.hok p _ hk
      refine ⟨⟨o,e,ex.1⟩,fun a e2=>?_⟩
      cases e2
      exact ⟨o,e,ex.2.1⟩
  | _=>exact False.elim ty
def tBM (K:PySem.W.Frag)(T:String)(r:V→List V→Hp→VK→Prop)(to:TE)(t:TA):TE:=fun σ H Q=>to σ H fun x H1=>tyV K T x H1∧t σ H1 fun xs H2=>r x xs H2 Q
variable {o e:Expr}{es:List Expr}{to:TE}{t:TA}{name:Str}{apos cpos:Pos}{T id:String}{r:V→List V→Hp→VK→Prop}
theorem pe_bm (pa:PlainAttrs T)(slot:Slot T name id)(hty:typeOf (.builtin id)=pure (.type "method_descriptor"))(hm:MtR X id r)(ho:PE X o to)(ha:PA X (e::es) t)
    (hbase:attributeBase o name X.env (eval o X.env)=eval o X.env:=by rfl)
    (hfew:((backTo cpos (starEach (e::es) X.env)).all (fun x=>!x.1) && (backToKw cpos (keywordEach [] X.env)).all (fun x=>x.1.isSome)
      && decide ((e::es).length+([]:List Keyword).length+(if ([]:List Keyword).isEmpty then 0 else 1)<30))=true:=by rfl)
    (hline:(apos.endLine == cpos.line)=true:=by rfl) (hs:starEach (e::es) X.env=(false,eval e X.env)::starEach es X.env:=by rfl) (hplain:(backTo cpos (starEach es X.env)).any (·.1)=false:=by rfl) :
    PE X (.Call (.Attribute o name apos) (e::es) [] cpos) (tBM X.K T r to t):=by
  intro pins s σ H Q I h
  refine wpAny_Call_method_late hbase hfew hline rfl (thn (ho pins s σ H _ I h) fun v s1 ⟨x,H1,I1,r1,ty,q1⟩=>?_)
  obtain ⟨h1,h2⟩:=tyV_is I1 r1 ty
  refine ⟨T,id,pa,slot,hty,h1,h2,?_⟩
  have hA:=ha cpos pins s1 σ H1 _ I1 q1
  rw [hs] at hA ⊢
  refine Calls.callWith_builtin (by show (false || (backTo cpos (starEach es X.env)).any (·.1))=false; rw [hplain] <;> rfl) (Calls.evalArgs_plain ?_)
  exact thn hA fun us s2 ⟨vs,H2,I2,r2,q2⟩=>hm pins s2 σ H2 x vs v us Q I2 r1 r2 q2
/- xs.append(e),list.index on a module's tuple .. are MtR facts of 06m -/
end
end L2
namespace L2
open PySem PySem.Spec PyProof.Rows
def MtM (X:Cx)(id:String)(r:V→List V→Hp→VK→Prop):Prop :=
  ∀ (pins:List (Addr×Obj)) (s:Shared) (σ:St) (H:Hp) (x:V) (xs:List V) (v:Value) (us:List Value) (Q:VK),Inv X pins σ H s→RelV x v→Vals xs us→r x xs H Q →
    wpAny (model X.prog X.w) X.A (call (.builtin id) (v::us)) (EP X pins σ Q) X.xe s
theorem Vals.one:∀ {x:V} {us:List Value},Vals [x] us→∃ u,us=[u]∧RelV x u
  | _,_,.cons r .nil=>⟨_,rfl,r⟩
theorem Vals.two:∀ {x y:V} {us:List Value},Vals [x,y] us→∃ u v,us=[u,v]∧RelV x u∧RelV y v
  | _,_,_,.cons r (.cons q .nil)=>⟨_,_,rfl,r,q⟩
section
variable {X:Cx}{pins:List (Addr×Obj)}{σ:St}{H:Hp}{s:Shared}{l b:Addr}{xs ys zs:List V}
theorem Inv.lset {its its':List Value}{n:Nat}{f:Array Value→Array Value}{t':Nat}(I:Inv X pins σ H s)(hH:H l=some (.lst xs))
    (e:s.heap.get? l=some { cls:=.type "list",data:=.seq its.toArray n }) (hf:f its.toArray=its'.toArray) (hv:Vals ys its') (hz:ys.length≤sizeLine) :
    Inv X pins σ (upd H l (.lst ys)) { s with heap:=s.heap.update l (Obj.mapSeq f),toks:=t' }:=by
  have q:=PySem.IsL.update e f
  rw [hf] at q
  refine I.write (x:=l) (e:=l) (by rw [hH]; exact trivial) (.inl rfl) (fun b' u hb hu=>(Heap.get?_update_other s.heap (Obj.mapSeq f) (Ne.symm hb)).trans hu) ⟨_,q⟩ ?_
  exact ⟨hz,its',_,hv,q⟩
theorem Inv.lnew {its:List Value}{t':Nat}(I:Inv X pins σ H s)(hv:Vals ys its)(hz:ys.length≤sizeLine) :
    Inv X pins σ (upd H s.heap.objs.size (.lst ys)) { s with heap:=s.heap.push { cls:=.type "list",data:=.seq its.toArray },toks:=t' } :=
  I.laid (fun _ _ q=>Heap.get?_push_of_some _ q) (Nat.le_refl _) ⟨hz,its,0,hv,Heap.get?_push_size _ rfl⟩
theorem Inv.fresh (I:Inv X pins σ H s):H s.heap.objs.size=none:=I.hok.fresh (Nat.le_refl _)
theorem Inv.lstM (I:Inv X pins σ H s)(hH:H l=some (.lst xs)):xs.length≤sizeLine∧∃ (its:List Value) (n:Nat),Vals xs its∧xs.length=its.length∧s.heap.get? l=some { cls:=.type "list",data:=.seq its.toArray n }:=by
  obtain ⟨z,its,n,r,e⟩:=I.hok l _ hH
  exact ⟨z,its,n,r,r.length,e⟩
end
section
variable {X:Cx}
def rAppend:V→List V→Hp→VK→Prop:=fun x vs H Q=>∃ l xs y,x=.ref l∧vs=[y]∧H l=some (.lst xs)∧xs.length<sizeLine∧Q .non (upd H l (.lst (xs++[y])))
theorem mt_append:MtM X "list.append" rAppend:=by
  intro pins s σ H x vs v us Q I rx rv h
  obtain ⟨l,xs,y,rfl,rfl,hH,hz,q⟩:=h
  cases rx
  obtain ⟨u,rfl,ru⟩:=rv.one
  obtain ⟨z,its,n,r,hl,e⟩:=I.lstM hH
  refine call_meets F.slot_list_append ⟨_,e,rfl⟩ F.entry_list_append (F.args_list_append_2 _ _) (PySem.list_append l its.toArray n u (by rw [List.size_toArray]; omega)) ⟨e,?_⟩
  refine ⟨.non,_,I.lset (its':=its++[u]) hH e (by simp) (r.append (.cons ru .nil)) ?_,rfl,q⟩
  rw [List.length_append,List.length_singleton]
  omega
end
section
variable {prog:Program}{w:World}{A:Around}{E:Value→Shared→Prop}{s:Shared}
set_option maxRecDepth 100000 in
end
section
variable {X:Cx}
end
end L2
namespace Att
open PySem PySem.W PySem.Calls PyProof.Rows
theorem ints_of_wellAll {P:Params}{h:Heap}:∀ (ns:List Int) (vs:List Value),WellAll P h vs (ns.map WData.int)→IntsAre vs ns:=by
  intro ns
  induction ns with
  | nil =>
    intro vs w
    rw [List.map_nil] at w
    cases w
    exact .nil
  | cons n ns ih =>
    intro vs w
    rw [List.map_cons] at w
    cases w with
    | cons a b =>
      cases a
      exact .cons _ _ (ih _ b)
theorem script_of {l:OpenLaw}{n:Nat}(hn:l.most=some n){P:Params}{h:Heap}{args:List WData}{vals:List Value}
    (hpre:l.row.toRowW.claim.pre args=true) (hwl:WellAll P h vals args) :
    ∃ a vs ns,vals=[Value.ref a]∧args=[WData.list (ns.map WData.int)]∧h.get? a=some { cls:=.type "list",data:=.seq vs.toArray }∧IntsAre vs ns∧ns.length≤n:=by
  have hsh:WShape.hasAll [] args [.list .int]=true:=(pre_splitW hpre).1
  have hc:l.pre.holds [] { args:=args }=true:=(pre_splitW hpre).2
  obtain ⟨d,r,rfl,h1,h2⟩:=hasAllW_cons hsh
  obtain rfl:=hasAllW_nil h2
  obtain ⟨xs,rfl,h3⟩:=hasW_list h1
  obtain ⟨ns,rfl⟩:=items_int h3
  have hlen:ns.length≤n:=by
    unfold OpenLaw.pre at hc
    have h4:(WTm.not (.lt (.lit (.int (n:Int))) (.len (.arg 0)))).holds [] { args:=[.list (ns.map .int)] }=true:=by
      have h4:=(holds_andW hc).1
      rw [hn] at h4
      exact h4
    have h5:=condW_of h4 (w_not (w_lt w_lit (w_len_list (w_arg rfl))))
    rw [List.length_map] at h5
    refine Nat.le_of_not_lt fun q=>?_
    have q':(n:Int)<((ns.length:Nat):Int):=by omega
    first
      | (rw [decide_eq_true q'] at h5; exact absurd h5 (by decide))
      | (simp at h5; omega)
  cases hwl with
  | cons w1 w2 =>
    cases w2
    cases w1 with
    | list ho hall=>exact ⟨_,_,ns,rfl,rfl,ho,ints_of_wellAll ns _ hall,hlen⟩
theorem post_true (l:OpenLaw)(args:List WData):l.row.toRowW.claim.post args (.bool true) args=true :=
  postW_of (r:=l.row.toRowW) (X:=(true == true))
    (show WShape.has [] (.bool true) .bool=true by first | rfl | decide | simp [WShape.has,WShape.arms,WShape.armsAll])
    (show (WTm.eq .res (.lit (.bool true))).value [] { args:=args,res:=some (.bool true),after:=args }=some (.bool (true == true)) from w_eq_bool (w_res rfl) w_lit) rfl
theorem attach_call {l:OpenLaw}{n:Nat}{q:Program}{loose:List Str}{XP:(Str→Option Value)→Heap→Prop}{YP:World→Heap→Prop}{d:DefRec}
    (hn:l.most=some n) (hdf:d.params.defaults=[])
    (call:∀ (w:World) (s₀ s₁:Shared) (mg mb:Str→Option Value) (fa:Addr) (o:Obj) (pm cd doc:Value) (a:Addr) (vs:List Value) (ns:List Int),
      Ground q loose [] XP w s₀ mg mb s₁.heap→YP w s₁.heap →
      s₁.heap.get? fa=some o→o.data=.func (docDef d.name d.params d.body d.scope pm cd doc)→s₁.heap.CodeRec cd d.name→mg d.name=some (.ref fa) →
      s₁.heap.get? a=some { cls:=.type "list",data:=.seq vs.toArray }→IntsAre vs ns→ns.length≤n→s₁.gens=#[] →
      codeAny (model l.prog w) callerA (.call (.ref fa) ⟨[.ref a],[]⟩) (fun r s'=>r=.ok (.ret (.bool true))∧OldK s₁.heap s'.heap∧s'.os=s₁.os∧AllBare s'.gens) s₁) :
    WalkO q loose XP YP l.row.toRowW d [] (fun f vs=>PySem.call f vs):=by
  intro w s₀ s₁ mg mb G Y fa o pm cd doc dV kV ho hd hcd hD hmg hg args vals as hpre hlay hrd hwl hlo
  obtain rfl:dV=.none:=Dflts.none hD hdf
  obtain rfl:kV=.none:=Dflts.noKw hD
  obtain ⟨a,vs,ns,rfl,rfl,hobj,hints,hlen⟩:=script_of hn hpre hwl
  refine enter_call (codeAny_mono (call w s₀ s₁ mg mb fa o pm cd doc a vs ns G Y ho (fd_plain hd) hcd hmg hobj hints hlen hg) fun r s' hq=>?_)
  obtain ⟨rfl,h2,h3,h4⟩:=hq
  exact ⟨.inl ⟨.bool true,.bool true,[],rfl,fun _=>rfl,.bool true,post_true l _,fun _=>⟨List.Pairwise.nil,fun _ hm=>(nomatch hm)⟩⟩,h2,h3,h4⟩
section
variable {prog:Program}{w:World}{A:Around}{E:Value→Shared→Prop}{s:Shared}{K:Frag}
end
end Att
namespace L2
open PySem PySem.Spec PyProof.Rows
theorem vals_ints:∀ {vs:List Value} {ns:List Int},IntsAre vs ns→Vals (ns.map V.int) vs
  | _,_,.nil=>.nil
  | _,_,.cons n t h=>.cons ⟨t,rfl⟩ (vals_ints h)
end L2
namespace L2
open PySem PySem.Spec PyProof.Rows
end L2
/- THE LAST THEOREM (shape; LID,My.* are yours):
   My.Adr: a structure of the addresses that your layer names (classes,functions); My.Txt K t: a structure (Prop) of the equations over K;
   My.txt_mk:{K} {implicit addresses ..} (e1:nsIn K mainGlobals "law"=some (some (.ref f))) (e2:K.lookup f=some ⟨oc,od,.func (fnOf "law" "law" params body scope dV kV doc pm an cdv ct),sl⟩) (e3:codeIn K cdv "law"=true) ..:∃ t,My.Txt K t
set_option maxRecDepth 100000 in
set_option maxHeartbeats 0 in
theorem PySem.Challenge.cw_LID_holds : PySem.Challenge.rw_LID.Holds := by
  w_on; o_law; k_head; (case hw=>w_witness2)
  k_fill
  refine L2.walk_of (l:=PySem.Challenge.rw_LID) (n:=63) (k:=40) (x:="script") (CX:=fun w=>..) (sp:=fun _=>My.sp_law) rfl (by decide) rfl ⟨rfl,by decide,by decide⟩ (fun w h Y=>PySem.W.kIn_of Y) ?F ?S ?C
  case F =>
    intro w mg fa h KX G hmg
    have T:∃ t,My.Txt (L2.KOf KX) t:=by
      dsimp only [L2.KOf]                          -- K must stand as «<heap const> w.params» for k_is
      refine' My.txt_mk ?e1 ?e2 ?e3 ..
      (case e1=>PySem.W.k_is)                    -- in the order: a name -> its address -> its object -> its parts
      (case e2=>PySem.W.k_is)
      ..
    obtain ⟨t,T⟩:=T
    have e0:=hmg.symm.trans (PySem.W.mg_of KX G T.law)
    cases e0                                       -- fa is the law's own address
    exact ⟨_,fun s u=>.of_eq rfl,fun base kb nb=>My.law_fn T kb nb⟩     -- if «.of_eq rfl» comes too early: refine' ⟨_,?b,fun base kb nb=>My.law_fn T kb nb⟩; exact fun s u=>.of_eq rfl
  case S=>exact fun w H a ns hl hO hS=>..
  case C=>exact ..
(the tactic k_is has no namespace: write k_is) -/
namespace L2
open PySem PySem.Spec PyProof.Rows
def inClass (s:Stmt)(j:Nat):Stmt:=match s with
  | .ClassDef _ _ _ body _ _ _ _ _ _ _=>body.getD j (.Pass ⟨0,0,0,0⟩)
  | _=>.Pass ⟨0,0,0,0⟩
def defArgs (s:Stmt):Arguments:=match s with
  | .FunctionDef _ a _ _ _ _ _ _ _ _=>a
  | _=>{ posonlyargs:=[],args:=[],vararg:=none,kwonlyargs:=[],kw_defaults:=[],kwarg:=none,defaults:=[] }
def defBody (s:Stmt):List Stmt:=match s with
  | .FunctionDef _ _ b _ _ _ _ _ _ _=>b
  | _=>[]
def defScope (s:Stmt):Scope:=match s with
  | .FunctionDef _ _ _ _ _ _ sc _ _ _=>sc
  | _=>{ kind:=.function,names:=[],isGenerator:=false,isCoroutine:=false }
abbrev CX0:CXT:=fun _ _ _ _ _ _=>False
abbrev E0:XK:=fun _ _ _=>False
theorem pass0 {X:Cx}:Passes CX0 X E0:=fun _ _ _ _ _ _ _ h=>h.elim
structure Fun (K:PySem.W.Frag)(x qual:Str)(st:Stmt)(f:Addr)(fd:FuncData):Prop where
  ex:∃ (oc:Value) (od:Option Addr) (kV doc pm:Value) (an:Option Addr) (cdv ct:Value) (osl:Array (Option Value)),
    fd=PySem.W.fnOf x qual (defArgs st) (defBody st) (defScope st) .none kV doc pm an cdv ct∧K.lookup f=some ⟨oc,od,.func fd,osl⟩∧PySem.W.codeIn K cdv qual=true
  kp:PySem.W.keepIn K (.ref f)=true
section
variable {P:Program}{w:World}{K:PySem.W.Frag}{mg:Str→Option Value}{base:Heap}
theorem Fun.ok {x qual:Str}{st:Stmt}{f:Addr}{fd:FuncData}{N ps:List Str}{k:Nat}{sp:Sp}(F:Fun K x qual st f fd)(S:FnScope N ps (defScope st))(len:∀ vs H Q E,sp vs H Q E→vs.length=ps.length)
    (hbody:∀ (cdv:Value) (A:Around) (outer:List Env) (s:Shared) (H:Hp) (vs:List V) (Q:VK) (E:XK),Room k (A.deeper (envOfC qual (defScope st) s.heap.objs.size f cdv))→sp vs H Q E →
      ∃ t,PSs (cxOf CX0 P w K mg base N qual (defScope st) f cdv A outer s H E).nox (defBody st) t∧t { nx:=fun _ H'=>Q .non H',rt:=Q } (start N vs) H):FnOk P w K mg base CX0 (k+1) f fd ps sp:=by
  obtain ⟨oc,od,kV,doc,pm,an,cdv,ct,osl,rfl,lk,hcd⟩:=F.ex
  refine fn_of lk hcd S len fun A outer s H vs Q E hr hsp=>?_
  obtain ⟨t,h,q⟩:=hbody cdv A outer s H vs Q E hr hsp
  exact ⟨t,h.nox,q⟩
theorem Fun.binds {x qual:Str}{st:Stmt}{f:Addr}{fd:FuncData}{ps:List Str}(F:Fun K x qual st f fd)
    (h:∀ (kV doc pm:Value) (an:Option Addr) (cdv ct:Value) (us:List Value),us.length=ps.length→bindArgs (PySem.W.fnOf x qual (defArgs st) (defBody st) (defScope st) .none kV doc pm an cdv ct) ⟨us,[]⟩=pure (ps.zip us)):Binds K fd ps []:=by
  obtain ⟨oc,od,kV,doc,pm,an,cdv,ct,osl,rfl,lk,hcd⟩:=F.ex
  exact .all (h kV doc pm an cdv ct)
theorem fun_mk {x qual:Str}{st:Stmt}{f:Addr}{oc:Value}{od an:Option Addr}{osl:Array (Option Value)}{kV doc pm cdv ct:Value}(l:K.lookup f=some ⟨oc,od,.func (PySem.W.fnOf x qual (defArgs st) (defBody st) (defScope st) .none kV doc pm an cdv ct),osl⟩)
    (c:PySem.W.codeIn K cdv qual=true) (k:PySem.W.keepIn K (.ref f)=true):Fun K x qual st f (PySem.W.fnOf x qual (defArgs st) (defBody st) (defScope st) .none kV doc pm an cdv ct):=⟨⟨oc,od,kV,doc,pm,an,cdv,ct,osl,rfl,l,c⟩,k⟩
end
theorem hu_of {A:Around}{k:Nat}(hr:Room k A):A.units+1<cLine:=Nat.lt_of_le_of_lt (Nat.add_le_add_left (by decide:1≤64) _) hr.units
theorem small1000 {n:Nat}(h:n≤1000):n<sizeLine:=Nat.lt_of_le_of_lt h (by decide)
section
variable {X:Cx}
theorem pv (i:Nat){x:Str}{pos:Pos}(hN:X.N[i]?=some x:=by rfl)(hv:Vis X.env.scope x:=by first | exact Or.inl rfl | exact Or.inr (Or.inl rfl) | exact Or.inr (Or.inr rfl))(hd:(x == ("__debug__":Str))=false:=by decide)
    (hcd:(x == ("__classdict__":Str))=false:=by decide):PE X (.Name x pos) (tVar i):=pe_var hN hv hd hcd
end
def Same (H H':Hp):Prop:=∀ b o,H b=some o→H' b=some o
theorem Same.refl (H:Hp):Same H H:=fun _ _ h=>h
theorem Same.trans {H H1 H2:Hp}(a:Same H H1)(b:Same H1 H2):Same H H2:=fun c o h=>b c o (a c o h)
theorem Same.seq {K:PySem.W.Frag}{H H':Hp}{a:Addr}{xs:List V}(e:Same H H')(h:SqL K H a xs):SqL K H' a xs:=by
  rcases h with (h | ⟨o,h⟩) | h
  · exact .inl (.inl (e _ _ h))
  · exact .inl (.inr ⟨o,e _ _ h⟩)
  · exact .inr h
end L2
section
namespace SvM
end SvM
open PySem
namespace SvM
def sz (b:Int):Int:=2 ^ (32 - b).toNat
theorem two_pow_pos (k:Nat):(0:Int)<2 ^ k:=by
  have h:(0:Nat)<2 ^ k:=Nat.two_pow_pos k
  have e:((2 ^ k:Nat):Int)=(2:Int) ^ k:=by norm_cast
  omega
theorem two_pow_cast (k:Nat):((2 ^ k:Nat):Int)=(2:Int) ^ k:=by norm_cast
theorem free_bits {b:Int}(h0:0≤b)(h1:b≤32):(4294967295:Int) / 2 ^ b.toNat=sz b - 1:=by
  have all:∀ k,k≤32→(4294967295:Int) / 2 ^ k=2 ^ (32 - k) - 1:=by decide +kernel
  have q:=all b.toNat (by omega)
  rw [q]
  have e:32 - b.toNat=(32 - b).toNat:=by omega
  rw [e]
  rfl
theorem mask (x:Int)(k:Nat)(hx:0≤x):Builtin.bitAnd x (2 ^ k - 1)=x % 2 ^ k:=by
  have hp:=two_pow_pos k
  rw [PyProof.Rows.bitAnd_pp hx (by omega)]
  have e:((2:Int) ^ k - 1).toNat=2 ^ k - 1:=by
    have c:=two_pow_cast k
    have np:0<2 ^ k:=Nat.two_pow_pos k
    omega
  rw [e,Nat.and_two_pow_sub_one_eq_mod]
  have c:=two_pow_cast k
  rw [← c]
  have x':(x.toNat:Int)=x:=by omega
  rw [Int.natCast_emod,x']
theorem or_mask {a b:Int}(ha:0≤a):Builtin.bitOr a (sz b - 1)=a / sz b * sz b+sz b - 1:=by
  have m:Builtin.bitAnd a (sz b - 1)=a % sz b:=mask a _ ha
  rw [PyProof.Rows.bitOr_and,m]
  have d:=Int.mul_ediv_add_emod a (sz b)
  rw [Int.mul_comm (a / sz b)]
  omega
end SvM
open PySem
namespace SvM
end SvM
end
set_option maxHeartbeats 4000000
namespace Sv
open PySem PySem.Spec PyProof.Rows L2
section
variable {X:Cx}
def CDivW (_ j:Int):Prop:=0<j∧j<18446744073709551616
theorem op_divW:OpR X (binaryOp .FloorDiv) (rI CDivW fun i j=>.int (i / j)):=opI fun i j _ _ _ _ _ hc q=>by
 have p1:(0:Int)<j:=hc.1
 have p2:j<18446744073709551616:=hc.2
 have lg:j.natAbs.log2<9000:=by
  have a:j.natAbs≠0:=by omega
  have b:j.natAbs<2 ^ 64:=by omega
  have c:=(Nat.log2_lt a).mpr b
  omega
 refine floordiv_int (by omega) ?_ (.inl (PyProof.noPylong_of_log2 lg))
 rw [Int.fdiv_eq_ediv_of_nonneg i (by omega)]
 exact q
def Its (lo c:Int)(n:Nat):It:=⟨fun i _=>i<n,fun i H x H'=>H'=H∧x=.int (lo+(i:Int) * c),fun i _=>n≤i⟩
theorem turn_step {P:Program}{w:World}{K:PySem.W.Frag}{tg:Expr}(it:Addr)(lo c:Int)(n:Nat) :
  Turn P w K tg (Its lo c n) [it] it (fun i h=>IsRangeIter h it (lo+(i:Nat) * c) ((n:Int) - (i:Nat)) c) where
 mem:=List.mem_singleton.mpr rfl
 obj:=fun i h st b hb=>by
  obtain rfl:b=it:=List.mem_singleton.mp hb
  refine ⟨_,st,fun v z=>?_⟩
  have z':Data.fields _=Data.cell v:=z
  cases z'
 keep:=fun i h h' st k=>k it (List.mem_singleton.mpr rfl) _ st
 item:=by
  intro X eP ew eK hc i pins s σ H E I hf st hg
  subst eP ew eK
  obtain ⟨f0,f1,f2,f3,f4,f5⟩:=hf it (List.mem_singleton.mpr rfl)
  refine (Walks.range (prog:=X.prog) (w:=X.w) (I.ok.hd hc) it lo c n).item i s _ _ hg st fun v h' tk hv st' kk=>?_
  obtain ⟨t,rfl⟩:=hv
  have J:Inv X pins σ H { s with heap:=h',toks:=tk }:=I.turned (fun b o hb e=>kk b o (fun z=>hb (List.mem_singleton.mp z)) e) f0 f1 f3 f4 f5
  exact ⟨_,rfl,go_of (s:={ s with heap:=h',toks:=tk }) (n:="range_iterator") st' rfl rfl (by decide)
   ⟨.int (lo+(i:Int) * c),H,J,⟨t,rfl⟩,⟨rfl,rfl⟩,st',fun b hb=>(hf b hb).1⟩⟩
 done:=by
  intro X eP ew eK hc i pins s σ H E I hf st hg
  subst eP ew eK
  obtain ⟨f0,f1,f2,f3,f4,f5⟩:=hf it (List.mem_singleton.mpr rfl)
  have le:n≤i:=hg
  exact wpAny_pyNext_range_end (I.ok.hd hc) st (by omega) fun h' eb=>⟨rfl,I.turned (t':=s.toks) (fun b o hb e=>eb b o hb e) f0 f1 f3 f4 f5⟩
 self:=fun _ _ _ _ _ st h=>wpAny_pyIter_rangeiter st h
def evens (hi:Int):Nat:=((hi+1) / 2).toNat
theorem size_two (hi:Int):Builtin.Range.rangeSize 0 hi 2=(evens hi:Nat):=by
 unfold Builtin.Range.rangeSize evens
 rw [if_pos (by decide)]
 split <;> omega
theorem small_two {hi:Int}(h0:0≤hi)(h1:hi<1000000):Builtin.Range.small 0 hi 2=true:=by
 unfold Builtin.Range.small
 rw [size_two]
 unfold evens
 simp only [Builtin.Range.rangeFitsLong,Bool.and_eq_true,Bool.or_eq_true,decide_eq_true_eq,beq_iff_eq,show (2:Int) > 0 by decide,if_true]
 omega
def iRng3 (ta:TA):TI:=fun σ H R=>ta σ H fun vs H1=>∃ j:Int,vs=[.int 0,.int j,.int 2]∧0≤j∧j<1000000∧R (Its 0 2 (evens j)) H1
theorem pi_range3 {tg a b c:Expr}{ta:TA}{p pos:Pos}(hg:Gl X "range")(hm:X.mg "range"=none)(ha:PA X [a,b,c] ta)
  (hs:starEach [a,b,c] X.env=[(false,eval a X.env),(false,eval b X.env),(false,eval c X.env)]:=by rfl)
  (hs2:starEach [b,c] X.env=[(false,eval b X.env),(false,eval c X.env)]:=by rfl):PI X tg (.Call (.Name "range" p) [a,b,c] [] pos) (iRng3 ta):=by
 intro pins s σ H R I h
 refine Call_ (ld_blt I hg hm boot_range (PyProof.Rows.callWith_type1 (thn (ha pos pins s σ H _ I h) fun us s1 ⟨vs,H1,I1,r1,q1⟩=>?_) (by rw [hs,hs2]) (by rw [hs2]; rfl)))
 obtain ⟨j,e,q1,q2,q⟩:=q1
 subst e
 obtain ⟨u0,u1,u2,rfl,⟨t0,rfl⟩,⟨t1,rfl⟩,⟨t2,rfl⟩⟩:∃ u0 u1 u2,us=[u0,u1,u2]∧RelV (.int 0) u0∧RelV (.int j) u1∧RelV (.int 2) u2:=by
  cases r1 with
  | cons ra rr =>
   cases rr with
   | cons rb rr =>
    cases rr with
    | cons rc rr =>
     cases rr
     exact ⟨_,_,_,rfl,ra,rb,rc⟩
 refine PySem.call_range_3 (by decide) ?_ (.inl (PyProof.noPylong_small (by decide)))
 have I2:Inv X pins σ H1 { s1 with heap:=s1.heap.push { cls:=.type "range",data:=.fields #[.int 0 t0,.int j t1,.int 2 t2] },toks:=s1.toks }:=I1.kept fun b o e=>Heap.get?_push_of_some _ e
 refine wpAny_pyIter_range (IsRange.new ..) (small_two q1 q2) ?_
 refine ⟨_,[_],_,_,H1,rfl,I2.kept (t':=s1.toks) fun b o e=>Heap.get?_push_of_some _ e,turn_step _ 0 2 (evens j),?_,fun b hb=>?_,q⟩
 ·show IsRangeIter _ _ (0+((0:Nat):Int) * 2) (((evens j:Nat):Int) - ((0:Nat):Int)) 2
  have e1:(0:Int)+((0:Nat):Int) * 2=0:=by decide
  have e2:((evens j:Nat):Int) - ((0:Nat):Int)=Builtin.Range.rangeSize 0 j 2:=by rw [size_two]; omega
  rw [e1,e2]
  exact Heap.get?_push_size _ rfl
 ·obtain rfl:=List.mem_singleton.mp hb
  exact I2.fpOk (Nat.le_refl _) (I2.hok.fresh (Nat.le_refl _))
theorem for_step {lo c:Int}{n:Nat}{g:TG}{tb:TS}{D:Ends}{σ:L2.St}{H:Hp}(Pv:Nat→L2.St→Hp→Prop)(h0:Pv 0 σ H)
  (hs:∀ i σ H,i<n→Pv i σ H→g (.int (lo+(i:Int) * c)) σ H fun σ2 H2=>tb { D with nx:=Pv (i+1),ct:=Pv (i+1),bk:=D.nx } σ2 H2) (hd:∀ σ H,Pv n σ H→D.nx σ H) :
  ∃ W:Nat→Nat→L2.St→Hp→Prop,(∃ m,W 0 m σ H)∧∀ i m σ H,W i m σ H →
   ((Its lo c n).stop i H∧D.nx σ H)∨((Its lo c n).go i H∧∃ N:L2.St→Hp→Prop,(∀ σ' H',N σ' H'→∃ m',m'<m∧W (i+1) m' σ' H')∧∀ x H',(Its lo c n).yld i H x H'→g x σ H' fun σ2 H2=>tb { D with nx:=N,ct:=N,bk:=D.nx } σ2 H2):=by
 refine ⟨fun i m σ H=>m=n - i∧i≤n∧Pv i σ H,⟨n,rfl,Nat.zero_le _,h0⟩,fun i m σ H hw=>?_⟩
 obtain ⟨rfl,hi,p⟩:=hw
 by_cases lt:i<n
 ·refine .inr ⟨lt,Pv (i+1),fun σ' H' p'=>⟨n - (i+1),by omega,rfl,lt,p'⟩,fun x H' y=>?_⟩
  obtain ⟨e,y⟩:=y
  subst e y
  exact hs i σ _ lt p
 ·obtain rfl:i=n:=by omega
  exact .inl ⟨Nat.le_refl _,hd σ H p⟩
def rIsi (K:PySem.W.Frag):List V→Hp→VK→Prop:=fun xs H Q=>∃ x T t b,xs=[x,.ty T]∧TyOf K H x t∧PySem.W.kitOne K t (.type T)=some b∧Q (.bl b) H
theorem call_isi:CallR X (.builtin "isinstance") (rIsi X.K):=by
 intro pins s σ H xs us Q I r h
 obtain ⟨x,T,t,b,rfl,ty,e,q⟩:=h
 obtain ⟨u,v,rfl,ru,rv⟩:=Vals.two r
 obtain rfl:v=Value.type T:=rv
 exact isinst_ok I ru ty e fun tk=>⟨.bl b,H,I.tok tk,rfl,q⟩
theorem kit_same (K:PySem.W.Frag)(T:String):PySem.W.kitOne K (.type T) (.type T)=some true:=by
 unfold PySem.W.kitOne
 rw [if_pos (beq_self_eq_true _)]
theorem kit_int_bool (K:PySem.W.Frag):PySem.W.kitOne K (.type "int") (.type "bool")=some false:=by
 first
 | decide +kernel
 | rfl
mutual
inductive Dt (H:Hp):V→PyData→Prop where
 | non:Dt H .non .none
 | bl (b:Bool):Dt H (.bl b) (.bool b)
 | int (i:Int):Dt H (.int i) (.int i)
 | str (x:Str):Dt H (.str x) (.str x)
 | tup {a:Addr} {xs:List V} {ds:List PyData} (e:Rd H a (.tup xs)) (r:Dts H xs ds):Dt H (.ref a) (.tuple ds)
 | lst {a:Addr} {xs:List V} {ds:List PyData} (e:Rd H a (.lst xs)) (r:Dts H xs ds):Dt H (.ref a) (.list ds)
inductive Dts (H:Hp):List V→List PyData→Prop where
 | nil:Dts H [] []
 | cons {x:V} {d:PyData} {xs:List V} {ds:List PyData} (h:Dt H x d) (t:Dts H xs ds):Dts H (x::xs) (d::ds)
end
mutual
theorem Dt.reads {pins:List (Addr×Obj)}{σ:L2.St}{H:Hp}{s:Shared}(I:Inv X pins σ H s):∀ {x:V} {d:PyData} {u:Value},Dt H x d→RelV x u→∃ as,Reads s.heap u d as
 | _,_,_,.non,r=>by cases r; exact ⟨_,.none⟩
 | _,_,_,.bl b,r=>by cases r; exact ⟨_,.bool b⟩
 | _,_,_,.int i,r=>by obtain ⟨t,rfl⟩:=r; exact ⟨_,.int i t⟩
 | _,_,_,.str x,r=>by obtain ⟨t,rfl⟩:=r; exact ⟨_,.str x t⟩
 | _,_,_,.tup e q,r=>by
  cases r
  obtain ⟨_,its,rv,o,h1,h2,n,h3⟩:=e.ok I.hok
  obtain ⟨as,ra⟩:=Dts.reads I q rv
  exact ⟨_,.tuple h1 h2 h3 (by simpa using ra)⟩
 | _,_,_,.lst e q,r=>by
  cases r
  obtain ⟨_,its,n,rv,h1⟩:=e.ok I.hok
  obtain ⟨as,ra⟩:=Dts.reads I q rv
  exact ⟨_,.list h1 rfl rfl (by simpa using ra)⟩
theorem Dts.reads {pins:List (Addr×Obj)}{σ:L2.St}{H:Hp}{s:Shared}(I:Inv X pins σ H s):∀ {xs:List V} {ds:List PyData} {us:List Value},Dts H xs ds→Vals xs us→∃ as,ReadsAll s.heap us ds as
 | _,_,_,.nil,r=>by cases r; exact ⟨_,.nil⟩
 | _,_,_,.cons h t,r=>by
  cases r with
  | cons r1 r2 =>
   obtain ⟨a1,q1⟩:=Dt.reads I h r1
   obtain ⟨a2,q2⟩:=Dts.reads I t r2
   exact ⟨_,.cons q1 q2⟩
end
def rEqD (neg:Bool):R2:=fun x y H Q=>∃ d e,Dt H x d∧Dt H y e∧SeqAt.shaped d=true∧SeqAt.shaped e=true∧Q (.bl (if neg then !PyData.eqv d e else PyData.eqv d e)) H
theorem op_neD (hu:X.A.units+64<cLine):OpR X (compareOp .NotEq) (rEqD true):=by
 intro pins s σ H x y v u Q I rx ry h
 obtain ⟨d,e,hd,he,sd,se,q⟩:=h
 obtain ⟨as,ra⟩:=hd.reads I rx
 obtain ⟨bs,rb⟩:=he.reads I ry
 exact SeqAt.neOverData X.prog X.w X.A _ s v u d e as bs _ ra rb (SeqAt.canLay_of_shaped sd) (SeqAt.canLay_of_shaped se) (SeqAt.room_of_shaped sd hu) ⟨.bl _,H,I,rfl,q⟩
end
end Sv
namespace Sv
open PySem PySem.Spec PyProof.Rows L2
def BrS (b:Bool)(f g:L2.St→Hp→Prop)(σ:L2.St)(H:Hp):Prop:=if b=true then f σ H else g σ H
def BrA (b:Bool)(u:TT)(σ:L2.St)(H:Hp)(Q:Bool→Hp→Prop):Prop:=if b=true then u σ H Q else Q false H
def BrO (b:Bool)(u:TT)(σ:L2.St)(H:Hp)(Q:Bool→Hp→Prop):Prop:=if b=true then Q true H else u σ H Q
def BrAV (b:Bool)(u:TE)(σ:L2.St)(H:Hp)(Q:VK):Prop:=if b=true then u σ H Q else Q (.bl false) H
section
variable {f g:L2.St→Hp→Prop}{σ:L2.St}{H:Hp}{u:TT}{ue:TE}{Q:Bool→Hp→Prop}{Qv:VK}{b:Bool}
theorem brS_t:BrS true f g σ H=f σ H:=rfl
theorem brS_f:BrS false f g σ H=g σ H:=rfl
theorem brA_t:BrA true u σ H Q=u σ H Q:=rfl
theorem brA_f:BrA false u σ H Q=Q false H:=rfl
theorem brO_t:BrO true u σ H Q=Q true H:=rfl
theorem brO_f:BrO false u σ H Q=u σ H Q:=rfl
theorem brAV_t:BrAV true ue σ H Qv=ue σ H Qv:=rfl
theorem brAV_f:BrAV false ue σ H Qv=Qv (.bl false) H:=rfl
theorem BrS.go (h1:b=true→f σ H)(h2:b=false→g σ H):BrS b f g σ H:=by
 cases b with
 | true=>exact h1 rfl
 | false=>exact h2 rfl
theorem BrS.dec {c:Prop} [Decidable c](h1:c→f σ H)(h2:¬ c→g σ H):BrS (decide c) f g σ H :=
 BrS.go (fun e=>h1 (of_decide_eq_true e)) fun e=>h2 (of_decide_eq_false e)
theorem BrS.ndec {c:Prop} [Decidable c](h1:¬ c→f σ H)(h2:c→g σ H):BrS (!decide c) f g σ H:=by
 by_cases z:c
 ·rw [decide_eq_true z]; exact h2 z
 ·rw [decide_eq_false z]; exact h1 z
theorem BrA.dec {c:Prop} [Decidable c](h1:c→u σ H Q)(h2:¬ c→Q false H):BrA (decide c) u σ H Q:=by
 by_cases z:c
 ·rw [decide_eq_true z]; exact h1 z
 ·rw [decide_eq_false z]; exact h2 z
theorem BrO.dec {c:Prop} [Decidable c](h1:c→Q true H)(h2:¬ c→u σ H Q):BrO (decide c) u σ H Q:=by
 by_cases z:c
 ·rw [decide_eq_true z]; exact h1 z
 ·rw [decide_eq_false z]; exact h2 z
end
def ForR (J:It)(g:TG)(tb:TS)(D:Ends)(σ:L2.St)(H:Hp):Prop:=∃ W:Nat→Nat→L2.St→Hp→Prop,(∃ m,W 0 m σ H)∧∀ i m σ H,W i m σ H →
 (J.stop i H∧D.nx σ H)∨(J.go i H∧∃ N:L2.St→Hp→Prop,(∀ σ' H',N σ' H'→∃ m',m'<m∧W (i+1) m' σ' H')∧∀ x H',J.yld i H x H'→g x σ H' fun σ2 H2=>tb { D with nx:=N,ct:=N,bk:=D.nx } σ2 H2)
theorem ForR.range {lo:Int}{n:Nat}{g:TG}{tb:TS}{D:Ends}{σ:L2.St}{H:Hp}(Pv:Nat→L2.St→Hp→Prop)(h0:Pv 0 σ H)
  (hs:∀ i σ H,i<n→Pv i σ H→g (.int (lo+i)) σ H fun σ2 H2=>tb { D with nx:=Pv (i+1),ct:=Pv (i+1),bk:=D.nx } σ2 H2) (hd:∀ σ H,Pv n σ H→D.nx σ H):ForR (Itr lo n) g tb D σ H :=
 for_range Pv h0 hs hd
theorem ForR.step {lo c:Int}{n:Nat}{g:TG}{tb:TS}{D:Ends}{σ:L2.St}{H:Hp}(Pv:Nat→L2.St→Hp→Prop)(h0:Pv 0 σ H)
  (hs:∀ i σ H,i<n→Pv i σ H→g (.int (lo+(i:Int) * c)) σ H fun σ2 H2=>tb { D with nx:=Pv (i+1),ct:=Pv (i+1),bk:=D.nx } σ2 H2) (hd:∀ σ H,Pv n σ H→D.nx σ H):ForR (Its lo c n) g tb D σ H :=
 for_step Pv h0 hs hd
theorem ForR.list {K:PySem.W.Frag}{a:Addr}{xs:List V}{g:TG}{tb:TS}{D:Ends}{σ:L2.St}{H:Hp}(Pv:Nat→L2.St→Hp→Prop)(h0:Pv 0 σ H)(hl:∀ i σ H,i≤xs.length→Pv i σ H→SqL K H a xs)
  (hs:∀ i x σ H,xs[i]?=some x→Pv i σ H→g x σ H fun σ2 H2=>tb { D with nx:=Pv (i+1),ct:=Pv (i+1),bk:=D.nx } σ2 H2) (hd:∀ σ H,Pv xs.length σ H→D.nx σ H):ForR (Itl K a) g tb D σ H :=
 for_list Pv h0 hl hs hd
section
variable {t u:TS}{D:Ends}{σ:L2.St}{H:Hp}{te ta tb tc:TE}{Q:VK}{tr:TA}{c tt tu:TT}{Qb:Bool→Hp→Prop}{Ql:List V→Hp→Prop}{G:TG}{v x:V}{r r':R2}{wi:TI}
theorem seq_:tSeq t u D σ H=t { D with nx:=u D } σ H:=rfl
theorem next_:tNext D σ H=D.nx σ H:=rfl
theorem ret_:tRet te D σ H=te σ H D.rt:=rfl
theorem drop_:tDrop te D σ H=te σ H fun _ H1=>D.nx σ H1:=rfl
theorem ifS_:tIfS c t u D σ H=c σ H fun b H1=>BrS b (t D) (u D) σ H1:=rfl
theorem asg_:tAsg te G D σ H=te σ H fun x H1=>G x σ H1 D.nx:=rfl
theorem gname_ {i:Nat}{R:L2.St→Hp→Prop}:gName i v σ H R=R (σ.set i (some v)) H:=rfl
theorem var_ {i:Nat}:tVar i σ H Q=∃ v,σ[i]?=some (some v)∧Q v H:=rfl
theorem ex_ {α:Type}{x:α}{P:α→Prop}:(∃ v,some (some x)=some (some v)∧P v)=P x:=by
 apply propext
 constructor
 ·intro h
  obtain ⟨v,e,p⟩:=h
  cases e
  exact p
 ·exact fun p=>⟨x,rfl,p⟩
theorem exb_ {b:Bool}{P:Bool→Prop}:(∃ k,V.bl b=V.bl k∧P k)=P b:=by
 apply propext
 constructor
 ·intro h
  obtain ⟨v,e,p⟩:=h
  cases e
  exact p
 ·exact fun p=>⟨b,rfl,p⟩
theorem c_:tC v σ H Q=Q v H:=rfl
theorem op_:tOp r ta tb σ H Q=ta σ H fun x H1=>tb σ H1 fun y H2=>r x y H2 Q:=rfl
theorem un_ {f:V→Hp→VK→Prop}:tUn f ta σ H Q=ta σ H fun x H1=>f x H1 Q:=rfl
theorem test_:tTest te σ H Qb=te σ H fun x H1=>∃ k,x=.bl k∧Qb k H1:=rfl
theorem tB_:tB te σ H Qb=te σ H fun x H1=>∃ k,x=.bl k∧Qb k H1:=rfl
theorem and_:tAnd tt tu σ H Qb=tt σ H fun b H1=>BrA b tu σ H1 Qb:=rfl
theorem or_:tOr tt tu σ H Qb=tt σ H fun b H1=>BrO b tu σ H1 Qb:=rfl
theorem not_:tNot tt σ H Qb=tt σ H fun b H1=>Qb (!b) H1:=rfl
theorem andV_:tAndV ta tb σ H Q=ta σ H fun x H1=>∃ k,x=.bl k∧BrAV k tb σ H1 Q:=rfl
theorem notV_:tNotV ta σ H Q=ta σ H fun x H1=>∃ k,x=.bl k∧Q (.bl (!k)) H1:=rfl
theorem rI0_ {g:Int→Int→V}{i j:Int}:rI0 g (.int i) (.int j) H Q=Q (g i j) H:=by
 apply propext
 constructor
 ·intro h
  obtain ⟨a,b,e1,e2,q⟩:=h
  cases e1; cases e2
  exact q
 ·exact fun q=>⟨i,j,rfl,rfl,q⟩
theorem rI_ {C:Int→Int→Prop}{g:Int→Int→V}{i j:Int}:rI C g (.int i) (.int j) H Q=(C i j∧Q (g i j) H):=by
 apply propext
 constructor
 ·intro h
  obtain ⟨a,b,e1,e2,q⟩:=h
  cases e1; cases e2
  exact q
 ·exact fun q=>⟨i,j,rfl,rfl,q⟩
theorem rEqI_ {i j:Int}:rEq (.int i) (.int j) H Q=Q (.bl (decide (i=j))) H:=by
 have e:decide (V.int i=V.int j)=decide (i=j):=by rw [dec_int,Bool.beq_eq_decide_eq]
 unfold rEq
 rw [e]
 exact propext ⟨fun h=>h.2,fun h=>⟨rfl,h⟩⟩
theorem rNeI_ {i j:Int}:rNe (.int i) (.int j) H Q=Q (.bl (!decide (i=j))) H:=by
 have e:decide (V.int i=V.int j)=decide (i=j):=by rw [dec_int,Bool.beq_eq_decide_eq]
 unfold rNe
 rw [e]
 exact propext ⟨fun h=>h.2,fun h=>⟨rfl,h⟩⟩
theorem rEqS_ {i j:Str}:rEq (.str i) (.str j) H Q=Q (.bl (decide (i=j))) H:=by
 have e:decide (V.str i=V.str j)=decide (i=j):=by rw [dec_str,Bool.beq_eq_decide_eq]
 unfold rEq
 rw [e]
 exact propext ⟨fun h=>h.2,fun h=>⟨rfl,h⟩⟩
theorem rNeS_ {i j:Str}:rNe (.str i) (.str j) H Q=Q (.bl (!decide (i=j))) H:=by
 have e:decide (V.str i=V.str j)=decide (i=j):=by rw [dec_str,Bool.beq_eq_decide_eq]
 unfold rNe
 rw [e]
 exact propext ⟨fun h=>h.2,fun h=>⟨rfl,h⟩⟩
theorem rU_ {g:Int→V}{i:Int}:rU g (.int i) H Q=Q (g i) H:=by
 apply propext
 constructor
 ·intro h
  obtain ⟨a,e,q⟩:=h
  cases e
  exact q
 ·exact fun q=>⟨i,rfl,q⟩
theorem nil_:tNil σ H Ql=Ql [] H:=rfl
theorem cons_:tCons te tr σ H Ql=te σ H fun x H1=>tr σ H1 fun xs H2=>Ql (x::xs) H2:=rfl
def TupR (xs:List V)(H:Hp)(Q:VK):Prop:=xs.length≤sizeLine∧∀ p,H p=none→Q (.ref p) (upd H p (.tup xs))
def LstR (xs:List V)(H:Hp)(Q:VK):Prop:=xs.length≤sizeLine∧∀ p,H p=none→Q (.ref p) (upd H p (.lst xs))
theorem tup_:tTup tr σ H Q=tr σ H fun xs H1=>TupR xs H1 Q:=rfl
theorem lst_:tLst tr σ H Q=tr σ H fun xs H1=>LstR xs H1 Q:=rfl
theorem TupR.go {xs:List V}(h:xs.length≤1000)(q:∀ p,H p=none→Q (.ref p) (upd H p (.tup xs))):TupR xs H Q:=⟨Nat.le_of_lt (small1000 h),q⟩
theorem LstR.go {xs:List V}(h:xs.length≤1000)(q:∀ p,H p=none→Q (.ref p) (upd H p (.lst xs))):LstR xs H Q:=⟨Nat.le_of_lt (small1000 h),q⟩
theorem call_ {sp:Sp}{E:XK}:tCall sp [] E tr σ H Q=tr σ H fun vs H1=>sp vs H1 Q E:=by
 unfold tCall
 simp only [List.append_nil]
theorem cb_ {f:List V→Hp→VK→Prop}:tCB f tr σ H Q=tr σ H fun vs H1=>f vs H1 Q:=rfl
theorem for_:tFor wi G t D σ H=wi σ H fun J H1=>ForR J G t D σ H1:=rfl
def RngR (vs:List V)(H:Hp)(R:It→Hp→Prop):Prop:=∃ j:Int,vs=[.int j]∧-(2 ^ 62)≤j∧j<2 ^ 62∧R (Itr 0 j.toNat) H
theorem rng1_ {R:It→Hp→Prop}:iRng1 tr σ H R=tr σ H fun vs H1=>RngR vs H1 R:=rfl
theorem RngR.go {j:Int}{R:It→Hp→Prop}(h1:-(2 ^ 62)≤j)(h2:j<2 ^ 62)(q:R (Itr 0 j.toNat) H):RngR [.int j] H R:=⟨j,rfl,h1,h2,q⟩
def Rng3R (vs:List V)(H:Hp)(R:It→Hp→Prop):Prop:=∃ j:Int,vs=[.int 0,.int j,.int 2]∧0≤j∧j<1000000∧R (Its 0 2 (evens j)) H
theorem rng3_ {R:It→Hp→Prop}:iRng3 tr σ H R=tr σ H fun vs H1=>Rng3R vs H1 R:=rfl
theorem Rng3R.go {j:Int}{R:It→Hp→Prop}(h1:0≤j)(h2:j<1000000)(q:R (Its 0 2 (evens j)) H):Rng3R [.int 0,.int j,.int 2] H R:=⟨j,rfl,h1,h2,q⟩
def LenR (K:PySem.W.Frag):List V→Hp→VK→Prop:=fun xs H Q=>∃ p ys,xs=[.ref p]∧(SqL K H p ys∨SqT K H p ys)∧Q (.int ys.length) H
theorem call_lenR {X:Cx}:CallR X (.builtin "len") (LenR X.K):=call_len_seq
theorem LenR.lst {K:PySem.W.Frag}{a:Addr}{ys:List V}(h:SqL K H a ys)(q:Q (.int ys.length) H):LenR K [.ref a] H Q:=⟨a,ys,rfl,.inl h,q⟩
def MaxR:List V→Hp→VK→Prop:=fun xs H Q=>∃ i j,xs=[.int i,.int j]∧Q (.int (if j > i then j else i)) H
def MinR:List V→Hp→VK→Prop:=fun xs H Q=>∃ i j,xs=[.int i,.int j]∧Q (.int (if j<i then j else i)) H
theorem call_maxR {X:Cx}(hc:X.calm=true):CallR X (.builtin "max") MaxR:=call_max2 hc
theorem call_minR {X:Cx}(hc:X.calm=true):CallR X (.builtin "min") MinR:=call_min2 hc
theorem max_ {i j:Int}:MaxR [.int i,.int j] H Q=Q (.int (max i j)) H:=by
 have e:(if j > i then j else i)=max i j:=by split <;> omega
 apply propext
 constructor
 ·intro h
  obtain ⟨a,b,e1,q⟩:=h
  cases e1
  rw [e] at q
  exact q
 ·intro q
  refine ⟨i,j,rfl,?_⟩
  rw [e]
  exact q
theorem min_ {i j:Int}:MinR [.int i,.int j] H Q=Q (.int (min i j)) H:=by
 have e:(if j<i then j else i)=min i j:=by split <;> omega
 apply propext
 constructor
 ·intro h
  obtain ⟨a,b,e1,q⟩:=h
  cases e1
  rw [e] at q
  exact q
 ·intro q
  refine ⟨i,j,rfl,?_⟩
  rw [e]
  exact q
theorem ixT_go {K:PySem.W.Frag}{a:Addr}{xs:List V}{i:Nat}(h:SqT K H a xs)(e:xs[i]?=some v)(q:Q v H):rIxT K (.ref a) (.int (i:Int)) H Q:=⟨a,xs,_,v,rfl,rfl,h,atI_nat e,q⟩
theorem ixL_go {K:PySem.W.Frag}{a:Addr}{xs:List V}{i:Nat}(h:SqL K H a xs)(e:xs[i]?=some v)(q:Q v H):rIxL K (.ref a) (.int (i:Int)) H Q:=⟨a,xs,_,v,rfl,rfl,h,atI_nat e,q⟩
theorem bm_ {K:PySem.W.Frag}{T:String}{f:V→List V→Hp→VK→Prop}:tBM K T f te tr σ H Q=te σ H fun x H1=>tyV K T x H1∧tr σ H1 fun xs H2=>f x xs H2 Q:=rfl
theorem tyInt_ {K:PySem.W.Frag}{i:Int}:tyV K "int" (.int i) H=True:=propext ⟨fun _=>True.intro,fun _=>rfl⟩
theorem tyStr_ {K:PySem.W.Frag}{z:Str}:tyV K "str" (.str z) H=True:=propext ⟨fun _=>True.intro,fun _=>rfl⟩
end
theorem isi_int {K:PySem.W.Frag}{H:Hp}{Q:VK}{i:Int}(q:Q (.bl true) H):rIsi K [.int i,.ty "int"] H Q:=⟨_,_,_,_,rfl,.int i,kit_same K "int",q⟩
theorem isi_int_bool {K:PySem.W.Frag}{H:Hp}{Q:VK}{i:Int}(q:Q (.bl false) H):rIsi K [.int i,.ty "bool"] H Q:=⟨_,_,_,_,rfl,.int i,kit_int_bool K,q⟩
theorem cxK {CX:CXT}{P:Program}{w:World}{K:PySem.W.Frag}{mg:Str→Option Value}{base:Heap}{N:List Str}{qual:Str}{sc:Scope}{f:Addr}{cd:Value}{A:Around}{outer:List Env}{s:Shared}{H:Hp}{E:XK} :
  (cxOf CX P w K mg base N qual sc f cd A outer s H E).nox.K=K:=rfl
theorem same_new {H:Hp}{p:Addr}(h:H p=none)(o:HO):Same H (upd H p o):=fun b u q=>by
 rw [upd_ne (ne_of_none q h)]
 exact q
end Sv
namespace Sv
open PySem L2
end Sv
namespace Sv
open PySem L2
theorem gtup2 {K:PySem.W.Frag}{a:Addr}{x y:V}{i j:Nat}{σ:L2.St}{H:Hp}{R:L2.St→Hp→Prop}(h:SqT K H a [x,y])(q:R ((σ.set i (some x)).set j (some y)) H) :
  gTup K 2 (gCons (gName i) (gCons (gName j) gNil)) (.ref a) σ H R:=⟨a,_,rfl,h,rfl,_,_,rfl,_,_,rfl,rfl,q⟩
theorem app_go {l:Addr}{xs:List V}{y:V}{H:Hp}{Q:VK}(h:H l=some (.lst xs))(z:xs.length≤1000)(q:Q .non (upd H l (.lst (xs++[y])))):rAppend (.ref l) [y] H Q :=
 ⟨l,xs,y,rfl,rfl,h,small1000 z,q⟩
theorem ty_lst {K:PySem.W.Frag}{l:Addr}{xs:List V}{H:Hp}(h:H l=some (.lst xs)):tyV K "list" (.ref l) H:=.inl ⟨rfl,xs,SqL.of h⟩
end Sv
namespace Sv
open PySem L2
def IlR (K:PySem.W.Frag)(x:V)(H:Hp)(R:It→Hp→Prop):Prop:=∃ a,x=.ref a∧(∃ xs,SqL K H a xs)∧R (Itl K a) H
theorem ilist_ {K:PySem.W.Frag}{te:TE}{σ:L2.St}{H:Hp}{R:It→Hp→Prop}:iList K te σ H R=te σ H fun x H1=>IlR K x H1 R:=rfl
theorem IlR.go {K:PySem.W.Frag}{a:Addr}{xs:List V}{H:Hp}{R:It→Hp→Prop}(h:SqL K H a xs)(q:R (Itl K a) H):IlR K (.ref a) H R:=⟨a,rfl,⟨xs,h⟩,q⟩
end Sv
namespace Sv
open PySem L2
theorem cxK2 {CX:CXT}{P:Program}{w:World}{K:PySem.W.Frag}{mg:Str→Option Value}{base:Heap}{N:List Str}{qual:Str}{sc:Scope}{f:Addr}{cd:Value}{A:Around}{outer:List Env}{s:Shared}{H:Hp}{E:XK} :
  (cxOf CX P w K mg base N qual sc f cd A outer s H E).K=K:=rfl
end Sv
namespace Sv
open PySem PySem.Spec PyProof.Rows L2
theorem bo_len:bootBuiltins "len"=some (.builtin "len"):=by decide +kernel
theorem bo_max:bootBuiltins "max"=some (.builtin "max"):=by decide +kernel
theorem bo_min:bootBuiltins "min"=some (.builtin "min"):=by decide +kernel
theorem bo_isinstance:bootBuiltins "isinstance"=some (.builtin "isinstance"):=by decide +kernel
theorem bo_all:bootBuiltins "all"=some (.builtin "all"):=by decide +kernel
theorem bo_int:bootBuiltins "int"=some (.type "int"):=by decide +kernel
theorem bo_bool:bootBuiltins "bool"=some (.type "bool"):=by decide +kernel
theorem bo_str:bootBuiltins "str"=some (.type "str"):=by decide +kernel
theorem bo_tuple:bootBuiltins "tuple"=some (.type "tuple"):=by decide +kernel
theorem bo_list:bootBuiltins "list"=some (.type "list"):=by decide +kernel
structure Fn (P:Program)(w:World)(K:PySem.W.Frag)(mg:Str→Option Value)(base:Heap)(x:Str)(k:Nat)(ps:List Str)(sp:Sp):Prop where
 ex:∃ (f:Addr) (fd:FuncData),FnOk P w K mg base CX0 k f fd ps sp∧mg x=some (.ref f)∧PySem.W.keepIn K (.ref f)=true∧Binds K fd ps []
section
variable {X:Cx}{x:Str}{k j:Nat}{ps:List Str}{sp:Sp}{e:Expr}{es:List Expr}{t:TA}{p pos:Pos}
theorem pe_fn (F:Fn X.prog X.w X.K X.mg X.base x k ps sp)(hr:Room j X.A)(hk:k≤j)(hg:Gl X x)(ha:PA X (e::es) t)(hdb:(x == ("__debug__":Str))=false:=by decide)
  (he:starEach (e::es) X.env=(false,eval e X.env)::starEach es X.env:=by rfl) (hpl:(backTo pos (starEach es X.env)).any (·.1)=false:=by rfl):PE X (.Call (.Name x p) (e::es) [] pos) (tCall sp [] E0 t):=by
 obtain ⟨f,fd,G,m,kp,b⟩:=F.ex
 exact pe_call G (hr.mono hk) hg m kp b .nil pass0 ha hdb he hpl
theorem pe_fn0 (F:Fn X.prog X.w X.K X.mg X.base x k ps sp)(hr:Room j X.A)(hk:k≤j)(hg:Gl X x)(hdb:(x == ("__debug__":Str))=false:=by decide):PE X (.Call (.Name x p) [] [] pos) (tCall sp [] E0 tNil):=by
 obtain ⟨f,fd,G,m,kp,b⟩:=F.ex
 exact pe_call0 G (hr.mono hk) hg m kp b .nil pass0 hdb
end
structure Def (K:PySem.W.Frag)(mg:Str→Option Value)(x:Str)(st:Stmt):Prop where
 ex:∃ (f:Addr) (fd:FuncData),Fun K x x st f fd∧mg x=some (.ref f)
theorem mk_def {K:PySem.W.Frag}{h:Heap}{mg:Str→Option Value}{x:Str}{st:Stmt}{f:Addr}{oc kV dc pm cd ct:Value}{od an:Option Addr}{sl:Array (Option Value)}(X:K.In h)(G:h.Ns mainGlobals mg)
  (a:PySem.W.nsIn K mainGlobals x=some (some (.ref f))) (l:K.lookup f=some ⟨oc,od,.func (PySem.W.fnOf x x (defArgs st) (defBody st) (defScope st) .none kV dc pm an cd ct),sl⟩)
  (c:PySem.W.codeIn K cd x=true) (k:PySem.W.keepIn K (.ref f)=true):Def K mg x st:=⟨⟨f,_,fun_mk l c k,PySem.W.mg_of X G a⟩⟩
theorem Def.fn {P:Program}{w:World}{K:PySem.W.Frag}{mg:Str→Option Value}{base:Heap}{x:Str}{st:Stmt}{k:Nat}{ps:List Str}{sp:Sp}(D:Def K mg x st)
  (b:∀ (kV doc pm:Value) (an:Option Addr) (cdv ct:Value) (us:List Value),us.length=ps.length→bindArgs (PySem.W.fnOf x x (defArgs st) (defBody st) (defScope st) .none kV doc pm an cdv ct) ⟨us,[]⟩=pure (ps.zip us))
  (ok:∀ (f:Addr) (fd:FuncData),Fun K x x st f fd→FnOk P w K mg base CX0 k f fd ps sp):Fn P w K mg base x k ps sp:=by
 obtain ⟨f,fd,F,m⟩:=D.ex
 exact ⟨⟨f,fd,ok f fd F,m,F.kp,F.binds b⟩⟩
def cell (ns:List Int)(k:Int):Int:=ns.getD k.toNat 0
def spCell (K:PySem.W.Frag):Sp:=fun vs H Q _=>∃ (a:Addr) (ns:List Int) (k:Int),vs=[.ref a,.int k]∧SqL K H a (ns.map V.int)∧0≤k∧Q (.int (cell ns k)) H
def spWhole:Sp:=fun vs H Q _=>∃ i:Int,vs=[.int i]∧Q (.bl true) H
theorem spCell.go {K:PySem.W.Frag}{H:Hp}{Q:VK}{E:XK}{a:Addr}{ns:List Int}{k:Int}(h:SqL K H a (ns.map V.int))(h0:0≤k)(q:Q (.int (cell ns k)) H):spCell K [.ref a,.int k] H Q E:=⟨a,ns,k,rfl,h,h0,q⟩
theorem spWhole.go {H:Hp}{Q:VK}{E:XK}{i:Int}(q:Q (.bl true) H):spWhole [.int i] H Q E:=⟨i,rfl,q⟩
end Sv
namespace Sv
theorem us1 {α:Type}{us:List α}(h:us.length=1):∃ a,us=[a]:=by
 cases us with
 | nil=>cases h
 | cons a us=>cases us with
  | nil=>exact ⟨a,rfl⟩
  | cons b us=>cases h
theorem us2 {α:Type}{us:List α}(h:us.length=2):∃ a b,us=[a,b]:=by
 cases us with
 | nil=>cases h
 | cons a us =>
  obtain ⟨b,rfl⟩:=us1 (Nat.succ.inj h)
  exact ⟨a,b,rfl⟩
theorem us3 {α:Type}{us:List α}(h:us.length=3):∃ a b c,us=[a,b,c]:=by
 cases us with
 | nil=>cases h
 | cons a us =>
  obtain ⟨b,c,rfl⟩:=us2 (Nat.succ.inj h)
  exact ⟨a,b,c,rfl⟩
theorem us4 {α:Type}{us:List α}(h:us.length=4):∃ a b c d,us=[a,b,c,d]:=by
 cases us with
 | nil=>cases h
 | cons a us =>
  obtain ⟨b,c,d,rfl⟩:=us3 (Nat.succ.inj h)
  exact ⟨a,b,c,d,rfl⟩
end Sv
namespace Sv
open PySem PySem.Spec PyProof.Rows L2
def VarQ (o:Option (Option V))(H:Hp)(Q:VK):Prop:=match o with
 | some (some v)=>Q v H
 | _=>False
theorem VarQ.ex {o:Option (Option V)}{H:Hp}{Q:VK}(h:VarQ o H Q):∃ v,o=some (some v)∧Q v H:=by
 match o,h with
 | some (some v),h=>exact ⟨v,rfl,h⟩
def jI0 (g:Int→Int→V):R2:=fun x y H Q=>match x,y with
 | .int i,.int j=>Q (g i j) H
 | _,_=>False
def jI (C:Int→Int→Prop)(g:Int→Int→V):R2:=fun x y H Q=>match x,y with
 | .int i,.int j=>C i j∧Q (g i j) H
 | _,_=>False
theorem jI0.ex {g:Int→Int→V}{x y:V}{H:Hp}{Q:VK}(h:jI0 g x y H Q):rI0 g x y H Q:=by
 match x,y,h with
 | .int i,.int j,h=>exact ⟨i,j,rfl,rfl,h⟩
theorem jI.ex {C:Int→Int→Prop}{g:Int→Int→V}{x y:V}{H:Hp}{Q:VK}(h:jI C g x y H Q):rI C g x y H Q:=by
 match x,y,h with
 | .int i,.int j,h=>exact ⟨i,j,rfl,rfl,h.1,h.2⟩
section
variable {X:Cx}
theorem OpR.j {f:Value→Value→Sem Value}{C:Int→Int→Prop}{g:Int→Int→V}(o:OpR X f (rI C g)):OpR X f (jI C g):=fun pins s σ H x y v u Q I r1 r2 h=>o pins s σ H x y v u Q I r1 r2 h.ex
variable {x:Str}{k j:Nat}{ps:List Str}{sp:Sp}{e:Expr}{es:List Expr}{t:TA}{p pos:Pos}
end
end Sv
namespace Sv
open PySem PySem.Spec PyProof.Rows L2
theorem forIn_foldl {α β:Type}{f:α→β→Sem (ForInStep β)}(g:β→α→β):∀ (l:List α) (c:β),(∀ x∈l,∀ c,f x c=pure (.yield (g c x)))→forIn l c f=pure (l.foldl g c)
 | [],_,_=>rfl
 | x::l,c,h=>by
  rw [List.forIn_cons,h x List.mem_cons_self,pure_bind]
  exact forIn_foldl g l (g c x) fun y hy=>h y (List.mem_cons_of_mem _ hy)
def clStep (env:Env)(b:List (Str×Addr))(x:Str×NameKind):List (Str×Addr):=if x.2 == .free then (x.1,(env.cells.lookup x.1).getD 0)::b else b
def clOf (env:Env)(sc:Scope):List (Str×Addr):=sc.names.foldl (clStep env) []
theorem closure_eq {env:Env}{sc:Scope}(hf:∀ x∈sc.names,x.2=.free→∃ c,env.cells.lookup x.1=some c):closureFor sc env=pure (clOf env sc):=by
 simp only [closureFor]
 rw [forIn_foldl (clStep env) sc.names [] (fun x hx c=>by
  obtain ⟨n,k⟩:=x
  cases hk:k == NameKind.free with
  | true =>
   obtain ⟨a,ha⟩:=hf (n,k) hx (by simpa using hk)
   have ha':env.cells.lookup n=some a:=ha
   simp only [clStep,hk,if_true,cellOf,ha',Option.getD_some,pure_bind]
  | false=>simp only [clStep,hk,Bool.false_eq_true,if_false])]
 rfl
theorem cl_all {env:Env}:∀ (names:List (Str×NameKind)) (acc:List (Str×Addr)),(∀ x∈names,x.2=.free→∃ c,env.cells.lookup x.1=some c)→(∀ p∈acc,env.cells.lookup p.1=some p.2) →
  ∀ p∈names.foldl (clStep env) acc,env.cells.lookup p.1=some p.2
 | [],_,_,ha,p,hp=>ha p hp
 | (n,k)::r,acc,hf,ha,p,hp=>by
  refine cl_all r (clStep env acc (n,k)) (fun x hx=>hf x (List.mem_cons_of_mem _ hx)) (fun q hq=>?_) p hp
  unfold clStep at hq
  split at hq
  ·rename_i hk
   rcases List.mem_cons.mp hq with e | hq
   ·obtain ⟨c,hc⟩:=hf (n,k) List.mem_cons_self (by simpa using hk)
    have hc':env.cells.lookup n=some c:=hc
    rw [e]
    show env.cells.lookup n=some ((env.cells.lookup n).getD 0)
    rw [hc']
    rfl
   ·exact ha q hq
  ·exact ha q hq
theorem cl_sub {env:Env}:∀ (names:List (Str×NameKind)) (acc:List (Str×Addr)) (p:Str×Addr),p∈acc→p∈names.foldl (clStep env) acc
 | [],_,_,h=>h
 | (n,k)::r,acc,p,h=>by
  refine cl_sub r (clStep env acc (n,k)) p ?_
  unfold clStep
  split
  ·exact List.mem_cons_of_mem _ h
  ·exact h
theorem cl_mem {env:Env}:∀ (names:List (Str×NameKind)) (acc:List (Str×Addr)) (x:Str),(x,NameKind.free)∈names→∃ c,(x,c)∈names.foldl (clStep env) acc
 | [],_,_,h=>nomatch h
 | (n,k)::r,acc,x,h=>by
  rcases List.mem_cons.mp h with e | h
  ·have e1:x=n:=congrArg Prod.fst e
   have e2:k=.free:=(congrArg Prod.snd e).symm
   refine ⟨(env.cells.lookup n).getD 0,cl_sub r (clStep env acc (n,k)) _ ?_⟩
   simp [clStep,e1,e2]
  ·exact cl_mem r (clStep env acc (n,k)) x h
theorem lookup_some {β:Type}:∀ {l:List (Str×β)} {x:Str} {c:β},(x,c)∈l→∃ c',l.lookup x=some c'
 | [],_,_,h=>nomatch h
 | (y,d)::r,x,c,h=>by
  rw [List.lookup_cons]
  cases e:x == y with
  | true=>exact ⟨d,rfl⟩
  | false =>
   rcases List.mem_cons.mp h with q | q
   ·cases q
    simp at e
   ·exact lookup_some q
theorem relabel_back {env:Env}:∀ {names:List (Str×NameKind)} {x:Str} {k':NameKind},
  (names.map fun (n,k)=>if (k == NameKind.free && env.scope.kind == .function && env.kindOf n == some .cell) then (n,NameKind.cell) else (n,k)).lookup x=some k' →
   names.lookup x=some k'∨(names.lookup x=some .free∧k'=.cell)
 | [],_,_,h=>by simp at h
 | (n,k)::r,x,k',h=>by
  have ih:=@relabel_back env r x k'
  rw [List.map_cons] at h
  dsimp only at h
  by_cases hc:(k == NameKind.free && env.scope.kind == .function && env.kindOf n == some .cell)=true
  ·rw [if_pos hc] at h
   have hk:k=.free:=by
    rw [Bool.and_eq_true,Bool.and_eq_true] at hc
    simpa using hc.1.1
   cases e:x == n with
   | true =>
    simp only [List.lookup_cons,e] at h ⊢
    rw [hk]
    exact .inr ⟨rfl,(Option.some.inj h).symm⟩
   | false =>
    simp only [List.lookup_cons,e] at h ⊢
    exact ih h
  ·rw [if_neg hc] at h
   cases e:x == n with
   | true =>
    simp only [List.lookup_cons,e] at h ⊢
    exact .inl h
   | false =>
    simp only [List.lookup_cons,e] at h ⊢
    exact ih h
theorem relabel_free {env:Env}:∀ {names:List (Str×NameKind)} {x:Str},names.lookup x=some .free →
  (names.map fun (n,k)=>if (k == NameKind.free && env.scope.kind == .function && env.kindOf n == some .cell) then (n,NameKind.cell) else (n,k)).lookup x=some .cell ∨
  (names.map fun (n,k)=>if (k == NameKind.free && env.scope.kind == .function && env.kindOf n == some .cell) then (n,NameKind.cell) else (n,k)).lookup x=some .free
 | [],_,h=>by simp at h
 | (n,k)::r,x,h=>by
  have ih:=@relabel_free env r x
  rw [List.map_cons]
  dsimp only
  by_cases hc:(k == NameKind.free && env.scope.kind == .function && env.kindOf n == some .cell)=true
  ·rw [if_pos hc]
   cases e:x == n with
   | true =>
    simp only [List.lookup_cons,e]
    exact .inl trivial
   | false =>
    simp only [List.lookup_cons,e] at h ⊢
    exact ih h
  ·rw [if_neg hc]
   cases e:x == n with
   | true =>
    simp only [List.lookup_cons,e] at h ⊢
    exact .inr h
   | false =>
    simp only [List.lookup_cons,e] at h ⊢
    exact ih h
def cxC (X:Cx)(sc:Scope)(T:List Str)(cap:List Nat)(fp:List Addr)(s:Shared)(H:Hp):Cx where
 prog:=X.prog
 w:=X.w
 K:=X.K
 mg:=X.mg
 base:=X.base
 A:=X.A
 N:=T++cap.map fun i=>X.N.getD i Str.empty
 s₀:=s
 H₀:=H
 env:=compEnvC sc (clOf X.env sc) s.heap.objs.size X.env
 outer:=X.stack
 stack:=X.stack
 ex:=fp
 fn:=fun _=>false
 calm:=X.calm
 pn:=[]
 xe:=fun _ _=>False
structure COk (X:Cx)(sc:Scope)(cap:List Nat):Prop where
 kind:sc.kind=.function
 nocell:∀ y∈sc.names,y.2≠.cell
 loc:∀ y∈sc.names,y.2=.local→sc.names.lookup y.1=some .local
 free:∀ y∈sc.names,y.2=.free→X.env.kindOf y.1=some .cell∨X.env.kindOf y.1=some .free
 cap:∀ i∈cap,∃ x,X.N[i]?=some x∧sc.names.lookup x=some .free
def cChk (sc out:Scope)(N:List Str)(cap:List Nat):Bool :=
 sc.kind == .function && (sc.names.all fun y=>y.2 != .cell && (y.2 != .local || sc.names.lookup y.1 == some .local) && (y.2 != .free || (out.names.lookup y.1 == some .cell || out.names.lookup y.1 == some .free))) &&
  cap.all fun i=>match N[i]? with | some x=>sc.names.lookup x == some .free | none=>false
theorem COk.of {X:Cx}{sc out:Scope}{N:List Str}{cap:List Nat}(ho:X.env.scope=out)(hN:X.N=N)(h:cChk sc out N cap=true):COk X sc cap:=by
 unfold cChk at h
 rw [Bool.and_eq_true,Bool.and_eq_true,List.all_eq_true,List.all_eq_true] at h
 obtain ⟨⟨h1,h2⟩,h3⟩:=h
 have h2':∀ y∈sc.names,y.2≠.cell∧(y.2=.local→sc.names.lookup y.1=some .local)∧(y.2=.free→out.names.lookup y.1=some .cell∨out.names.lookup y.1=some .free):=fun y hy=>by
  have q:=h2 y hy
  rw [Bool.and_eq_true,Bool.and_eq_true] at q
  obtain ⟨⟨q1,q2⟩,q3⟩:=q
  refine ⟨by simpa using q1,fun e=>?_,fun e=>?_⟩
  ·rw [e] at q2
   simpa using q2
  ·rw [e] at q3
   simpa using q3
 refine ⟨by simpa using h1,fun y hy=>(h2' y hy).1,fun y hy=>(h2' y hy).2.1,fun y hy e=>?_,fun i hi=>?_⟩
 ·have q:=(h2' y hy).2.2 e
  rw [← ho] at q
  exact q
 ·have q:=h3 i hi
  rw [hN]
  cases e:N[i]? with
  | none =>
   rw [e] at q
   cases q
  | some x =>
   rw [e] at q
   exact ⟨x,rfl,by simpa using q⟩
section
variable {X:Cx}{sc:Scope}{T:List Str}{cap:List Nat}{fp:List Addr}{pins:List (Addr×Obj)}{σ:L2.St}{H:Hp}{s:Shared}{h₁:Heap}{t':Nat}{m:Str→Option Value}
theorem COk.cells (O:COk X sc cap)(ok:X.Ok):∀ x∈sc.names,x.2=.free→∃ c,X.env.cells.lookup x.1=some c:=fun x hx e=>ok.has x.1 (O.free x hx e)
theorem COk.cl (O:COk X sc cap)(ok:X.Ok){x:Str}{c:Addr}(h:(clOf X.env sc).lookup x=some c):X.env.cells.lookup x=some c :=
 cl_all sc.names [] (O.cells ok) (fun p hp=>nomatch hp) (x,c) (PySem.mem_of_lookup h)
theorem COk.has (O:COk X sc cap){x:Str}(h:sc.names.lookup x=some .free):∃ c,(clOf X.env sc).lookup x=some c:=by
 obtain ⟨c,hc⟩:=cl_mem (env:=X.env) sc.names [] x (PySem.mem_of_lookup h)
 exact lookup_some hc
theorem inv_comp (O:COk X sc cap)(I:Inv X pins σ H s)(hf:∀ b∈fp,FpOk X pins H b)(hfo:∀ b∈fp,∃ o,s.heap.get? b=some o)(hn:h₁.Ns s.heap.objs.size m)(keep:∀ b o,s.heap.get? b=some o→h₁.get? b=some o) :
  Inv (cxC X sc T cap fp s H) [] (List.replicate T.length none++cap.map fun i=>σ.getD i none) H { s with heap:=h₁,toks:=t' }:=by
 have cle:∀ x c,(clOf X.env sc).lookup x=some c→X.env.cells.lookup x=some c:=fun x c h=>O.cl I.ok h
 have fr:∀ x,(cxC X sc T cap fp s H).env.kindOf x=some .cell∨(cxC X sc T cap fp s H).env.kindOf x=some .free→sc.names.lookup x=some .free:=fun x h=>by
  rcases h with h | h
  ·rcases relabel_back (env:=X.env) (names:=sc.names) (x:=x) h with q | q
   ·exact absurd rfl (O.nocell _ (PySem.mem_of_lookup q))
   ·exact q.1
  ·rcases relabel_back (env:=X.env) (names:=sc.names) (x:=x) h with q | q
   ·exact q
   ·exact q.1
 refine ⟨⟨I.ok.mod,O.kind,I.ok.glob,I.ok.blt,Nat.le_refl _,fun x y c h1 h2=>I.ok.inj x y c (cle x c h1) (cle y c h2),fun x h=>O.has (fr x h),fun x c h=>absurd h Bool.false_ne_true,I.ok.hd,I.ok.frames,.inl rfl,
  fun b hb=>?_,I.bs,Nat.le_trans I.ok.bsz I.sz,fun b o e hb=>?_,fun b hb h=>?_,I.stack,I.stkFree⟩,rfl,I.bare,Un.kept keep,⟨m,hn,fun i x v e1 e2 e3=>?_⟩,fun x c e=>?_,I.hok.fresh (Nat.le_refl _),fun x c e=>I.freeC x c (cle x c e),
  fun p hp=>absurd hp (by simp [cxC]),I.hok.kept keep,?_⟩
 ·obtain ⟨o,ho⟩:=hfo b hb
  exact ⟨Nat.ne_of_lt (Heap.lt_size ho),fun x c e=>(hf b hb).2.2.2.2.1 x c (cle x c e)⟩
 ·rcases (hf b hb).2.2.2.1 with z | z
  ·exact I.ok.noex b o e z
  ·exact absurd (Nat.lt_of_lt_of_le (Heap.lt_size e) (Nat.le_trans I.ok.bsz z)) (Nat.lt_irrefl _)
 ·rcases List.mem_cons.mp (I.stkSub b h) with z | z
  ·exact (hf b hb).2.1 z
  ·exact (hf b hb).2.2.1 z
 ·have e1':(T++cap.map fun i=>X.N.getD i Str.empty)[i]?=some x:=e1
  by_cases hi:i<T.length
  ·rw [List.getElem?_append_left (by simpa using hi),List.getElem?_replicate] at e2
   split at e2 <;> cases e2
  ·rw [List.getElem?_append_right (by simpa using hi),List.length_replicate,List.getElem?_map] at e2
   rw [List.getElem?_append_right (by simpa using hi),List.getElem?_map] at e1'
   cases q:cap[i - T.length]? with
   | none=>rw [q] at e2; cases e2
   | some j =>
    rw [q] at e1' e2
    obtain ⟨x',hx',hfr⟩:=O.cap j (List.mem_of_getElem? q)
    have ex:x'=x:=by
     have z:X.N.getD j Str.empty=x:=Option.some.inj e1'
     rw [List.getD_eq_getElem?_getD,hx'] at z
     exact z
    subst ex
    have ev:σ[j]?=some (some v):=by
     have z:σ.getD j none=some v:=Option.some.inj e2
     rw [List.getD_eq_getElem?_getD] at z
     cases q2:σ[j]? with
     | none=>rw [q2] at z; cases z
     | some y=>rw [q2] at z; exact congrArg some z
    have vis:=O.free (x',.free) (PySem.mem_of_lookup hfr) rfl
    obtain ⟨m0,hn0,hl0⟩:=I.loc
    obtain ⟨u,r,l⟩:=hl0 j x' v hx' ev (.inr vis)
    refine ⟨u,r,.inr ⟨relabel_free (env:=X.env) hfr,?_⟩⟩
    obtain ⟨c',hc'⟩:=O.has hfr
    rcases l with ⟨kk,_⟩ | ⟨_,c,ec,z⟩
    ·rcases vis with z | z
     ·rw [show X.env.kindOf x'=some .local from kk] at z; cases z
     ·rw [show X.env.kindOf x'=some .local from kk] at z; cases z
    ·have e:=cle x' c' hc'
     rw [ec] at e
     cases e
     obtain ⟨o,ho,hd⟩:=z
     exact ⟨_,hc',o,keep _ o ho,hd⟩
 ·obtain ⟨v,o,ho,hd⟩:=I.cell x c (cle x c e)
  exact ⟨v,o,keep c o ho,hd⟩
 ·show _=(T++cap.map fun i=>X.N.getD i Str.empty).length
  simp
end
section
variable {prog:Program}{w:World}{A:Around}{R:Result→Shared→Prop}{s:Shared}
theorem compLoop_any {elt target iter:Expr}{ifs:List Expr}{scope:Scope}{pos:Pos}{it acc:Value}{env:Env}(I:Nat→Shared→Prop)
  (turn:∀ n s,I n s→wpAny (model prog w) A (pyNext it) (fun r s₁=>match r with
   | none=>R (.ok .next) s₁
   | some v=>wpAny (model prog w) A (letOwnedTupleGo target it v) (fun _ s₀=>wpAny (model prog w) A (assign target env v) (fun _ s₂ =>
     wpAny (model prog w) A (forIn ifs true fun c r=>if r=true then do let ok ← isTrue c env (eval c env); pure (ForInStep.yield ok) else pure (ForInStep.yield r)) (fun ok s₃ =>
      if ok=true then wpAny (model prog w) A (eval elt env) (fun x s₄=>wpAny (model prog w) A (call (.builtin "list.append") [acc,x]) (fun _ s₅=>∃ m,m<n∧I m s₅) (fun _ _=>False) s₄) (fun _ _=>False) s₃
      else ∃ m,m<n∧I m s₃) (fun _ _=>False) s₂) (fun _ _=>False) s₀) (fun _ _=>False) s₁) (fun _ _=>False) s)
  (n:Nat) (h:I n s):codeAny (model prog w) A (.compLoop (.ListComp elt [⟨target,iter,ifs,0⟩] scope pos) 0 it acc env) R s:=by
 refine codeAny_loop rfl I (fun n s hI=>?_) n h
 show wpAny _ A ((compTurn (.ListComp elt [⟨target,iter,ifs,0⟩] scope pos) 0 it acc env).onRaise (fun x=>do noteFrame x env; theTreesLotGoes x)) _ _ s
 refine wpAny_noted ?_
 rw [compTurn_list]
 have nf:∀ {E:Value→Shared→Prop} (x:Value) (s:Shared),(fun _ _=>False:Value→Shared→Prop) x s→E x s:=fun _ _ z=>z.elim
 refine wpAny_bind (wpAny_standAt (wpAny_bind (wpAny_mono (turn n s hI) (fun r s₁ h₁=>?_) nf)))
 cases r with
 | none=>exact wpAny_pure h₁
 | some v =>
  refine wpAny_bind (wpAny_mono h₁ (fun _ s₀ h₀=>wpAny_bind (wpAny_mono h₀ (fun _ s₂ h₂=>wpAny_bind (wpAny_mono h₂ (fun ok s₃ h₃=>?_) nf)) nf)) nf)
  cases ok with
  | false=>exact wpAny_pure ⟨rfl,h₃⟩
  | true=>exact wpAny_bind (wpAny_bind (wpAny_mono h₃ (fun x s₄ h₄=>wpAny_bind (wpAny_mono h₄ (fun _ s₅ h₅=>wpAny_pure (wpAny_pure ⟨rfl,h₅⟩)) nf)) nf))
end
def PIfs (X:Cx)(ifs:List Expr)(tc:TT):Prop:=∀ (pins:List (Addr×Obj)) (s:Shared) (σ:L2.St) (H:Hp) (Q:Bool→Hp→Prop),Inv X pins σ H s→tc σ H Q →
 wpAny (model X.prog X.w) X.A (forIn ifs true fun c r=>if r=true then do let ok ← isTrue c X.env (eval c X.env); pure (ForInStep.yield ok) else pure (ForInStep.yield r)) (TP X pins σ Q) X.xe s
def tYes:TT:=fun _ H Q=>Q true H
theorem pifs_nil {X:Cx}:PIfs X [] tYes:=fun _ _ _ H _ I h=>wpAny_tests_nil ⟨H,I,h⟩
theorem pifs_one {X:Cx}{c:Expr}{tc:TT}(hc:PT X c tc):PIfs X [c] tc:=fun pins s σ H Q I h=>wpAny_tests_one (hc pins s σ H Q I h)
def CompR (D:Addr)(J:It)(g:TG)(tc:TT)(te:TE)(σ:L2.St)(H:Hp)(Q:VK):Prop :=
 ∃ W:Nat→Nat→L2.St→Hp→Prop,(∃ m,W 0 m σ H)∧∀ i m σ H,W i m σ H →
  (J.stop i H∧Q (.ref D) H)∨(J.go i H∧∃ N:L2.St→Hp→Prop,(∀ σ' H',N σ' H'→∃ m',m'<m∧W (i+1) m' σ' H') ∧
   ∀ x H',J.yld i H x H'→g x σ H' fun σ2 H2=>tc σ2 H2 fun b H3=>if b=true then te σ2 H3 fun y H4=>∃ ys,H4 D=some (.lst ys)∧ys.length<sizeLine∧N σ2 (upd H4 D (.lst (ys++[y]))) else N σ2 H3)
def CmpR (nT:Nat)(cap:List Nat)(g:TG)(tc:TT)(te:TE)(J:It)(σ:L2.St)(H:Hp)(Q:VK):Prop :=
 ∀ D,H D=none→CompR D J g tc te (List.replicate nT none++cap.map fun i=>σ.getD i none) (upd H D (.lst [])) Q
def tComp (wi:TI)(nT:Nat)(cap:List Nat)(g:TG)(tc:TT)(te:TE):TE:=fun σ H Q=>wi σ H fun J H1=>CmpR nT cap g tc te J σ H1 Q
section
variable {X:Cx}{sc:Scope}{T:List Str}{cap:List Nat}{tg elt iter:Expr}{ifs:List Expr}{pos:Pos}{g:TG}{tc:TT}{te:TE}{wi:TI}
theorem comp_core {pins:List (Addr×Obj)}{s₂:Shared}{σ:L2.St}{H2:Hp}{it:Addr}{fp:List Addr}{tn:Nat→Heap→Prop}{J:It}{Q:VK}{RR:Value→Addr→Result→Shared→Prop}{E:Value→Shared→Prop}
  (hc:X.calm=true) (O:COk X sc cap) (hg:∀ fp s H,PG (cxC X sc T cap fp s H) tg g) (hifs:∀ fp s H,PIfs (cxC X sc T cap fp s H) ifs tc) (helt:∀ fp s H,PE (cxC X sc T cap fp s H) elt te)
  (I2:Inv X pins σ H2 s₂) (Tn:Turn X.prog X.w X.K tg J fp it tn) (st2:tn 0 s₂.heap) (f2:∀ b∈fp,FpOk X pins H2 b) (h:CmpR T.length cap g tc te J σ H2 Q)
  (hRR:∀ D C s' H',Inv X pins σ H' s'→FpOk X pins H' C→(∃ m,s'.heap.Ns C m)→Q (.ref D) H'→RR (.ref D) C (.ok .next) s') :
  wpAny (model X.prog X.w) X.A (newList []) (fun acc s₃=>wpAny (model X.prog X.w) X.A (newFunctionEnv sc X.env.globals (clOf X.env sc) [] X.env.qual none .none (some X.env)) (fun cenv s₄ =>
   codeAny (model X.prog X.w) X.A (.compStart (.ListComp elt [⟨tg,iter,ifs,0⟩] sc pos) 0 (.ref it) acc { cenv with scope:=relabel sc X.env }) (RR acc cenv.locals) s₄) E s₃) E s₂:=by
 have I3:=I2.lnew (its:=[]) (ys:=[]) (t':=s₂.toks) .nil (Nat.zero_le _)
 have hD:H2 s₂.heap.objs.size=none:=I2.fresh
 obtain ⟨W,⟨m0,w0⟩,turn⟩:=h _ hD
 refine wpAny_newObj_type (wpAny_newFunctionEnv O.nocell (by intro y hy; simp at hy) (fun h₁ hns₁ hsb₁=>?_) O.kind)
 dsimp only at hns₁ hsb₁ ⊢
 generalize hs3:({ s₂ with heap:=s₂.heap.push { cls:=.type "list",data:=.seq ([]:List Value).toArray },toks:=s₂.toks }:Shared)=s3 at I3
 have eh:s₂.heap.push { cls:=.type "list",dict:=none,data:=.seq ([]:List Value).toArray }=s3.heap:=by rw [← hs3]
 have e3:s3.os=s₂.os:=by rw [← hs3]
 have keep2:∀ b o,s₂.heap.get? b=some o→s3.heap.get? b=some o:=fun b o e=>by rw [← eh]; exact Heap.get?_push_of_some _ e
 have keep:∀ b o,s3.heap.get? b=some o→h₁.get? b=some o:=fun b o e=>by
  rw [eh] at hsb₁
  rw [hsb₁.2 b (Nat.ne_of_lt (Heap.lt_size e))]
  exact Heap.get?_push_of_some _ e
 have f3:∀ b∈fp,FpOk X pins (upd H2 s₂.heap.objs.size (.lst [])) b:=fun b hb=>by
  refine ⟨?_,(f2 b hb).2⟩
  obtain ⟨o,ho,_⟩:=Tn.obj 0 _ st2 b hb
  rw [upd_ne (Nat.ne_of_lt (Heap.lt_size ho))]
  exact (f2 b hb).1
 have fo3:∀ b∈fp,∃ o,s3.heap.get? b=some o:=fun b hb=>by
  obtain ⟨o,ho,_⟩:=Tn.obj 0 _ st2 b hb
  exact ⟨o,keep2 b o ho⟩
 have hns:h₁.Ns s3.heap.objs.size (fun x=>([]:List (Str×Value)).reverse.lookup x):=by rw [← eh]; exact hns₁
 have I4:=fun t'=>inv_comp (T:=T) (fp:=fp) (t':=t') O I3 f3 fo3 hns keep
 have st4:tn 0 h₁:=Tn.keep 0 _ _ st2 fun b _ o e=>keep b o (keep2 b o e)
 generalize hX:cxC X sc T cap fp s3 (upd H2 s₂.heap.objs.size (.lst []))=X' at I4
 have ex:X'.ex=fp:=by rw [← hX]; rfl
 have stat:∀ {H':Hp},(∀ b∈fp,H' b=none)→∀ b∈fp,FpOk X' [] H' b:=fun hn b hb=>by
  have ok:=(I4 0).ok
  have q:=ok.exf b (by rw [ex]; exact hb)
  refine ⟨hn b hb,q.1,ok.exfs b (by rw [ex]; exact hb),.inl (by rw [ex]; exact hb),q.2,fun p hp=>?_⟩
  subst hX
  exact absurd hp (by simp [cxC])
 have nf:∀ {E:Value→Shared→Prop} (x:Value) (s:Shared),X'.xe x s→E x s:=fun x s z=>by
  subst hX
  exact False.elim z
 have loop:∀ s4:Shared,(∃ t',s4={ s3 with heap:=h₁,toks:=t' })→codeAny (model X.prog X.w) X.A (.compLoop (.ListComp elt [⟨tg,iter,ifs,0⟩] sc pos) 0 (.ref it) (.ref s₂.heap.objs.size) (compEnvC sc (clOf X.env sc) s3.heap.objs.size X.env))
   (RR (.ref s₂.heap.objs.size) s3.heap.objs.size) s4:=by
  rintro s4 ⟨t',rfl⟩
  refine compLoop_any (fun n s'=>∃ i σ' H',Inv X' [] σ' H' s'∧tn i s'.heap∧(∀ b∈fp,H' b=none)∧W i n σ' H') ?_ m0 ⟨0,_,_,I4 t',st4,fun b hb=>(f3 b hb).1,w0⟩
  rintro n s5 ⟨i,σ5,H5,I5,st5,fr5,w5⟩
  rcases turn i n σ5 H5 w5 with ⟨stop,qn⟩ | ⟨go,N,hN,step⟩
  ·have ep:X'.prog=X.prog:=by rw [← hX]; rfl
   have ew:X'.w=X.w:=by rw [← hX]; rfl
   have eK:X'.K=X.K:=by rw [← hX]; rfl
   have ec:X'.calm=true:=by rw [← hX]; exact hc
   have eA:X'.A=X.A:=by rw [← hX]; rfl
   have d:=Tn.done X' ep ew eK ec i [] s5 σ5 H5 (fun _ _=>False) I5 (stat fr5) st5 stop
   rw [eA] at d
   refine thn d fun r s6 ⟨hr,I6⟩=>?_
   subst hr
   have un:=(Un.laid (fs:=frs X.stack) (ex:=fp) (o:=.lst []) keep2 (Nat.le_refl _) hD).trans (by
    have b:=I6.base
    subst hX
    exact b:Un (frs X.stack) fp (upd H2 s₂.heap.objs.size (.lst [])) H5 s3.heap s6.heap)
   have os6:s6.os=s₂.os:=by
    have q:=I6.os
    subst hX
    exact q.trans e3
   have hok:HOk X.prog X.w H5 s6.heap:=by
    have q:=I6.hok
    rw [ep,ew] at q
    exact q
   have J1:Inv X pins σ H5 s6:=I2.call' os6 un hok I6.bare fun b hb=>⟨(f2 b hb).2.2.2.1,(f2 b hb).2.1,(f2 b hb).2.2.2.2.1,(f2 b hb).2.2.2.2.2⟩
   have eL:X'.env.locals=s3.heap.objs.size:=by rw [← hX]; rfl
   have sz:s₂.heap.objs.size≤s3.heap.objs.size:=by rw [← eh,Heap.size_push]; exact Nat.le_succ _
   refine hRR _ _ s6 H5 J1 (I2.fpOk sz ?_) ?_ qn
   ·rw [← eL]; exact I6.free
   ·obtain ⟨m6,hm6,_⟩:=I6.loc
    rw [eL] at hm6
    exact ⟨m6,hm6⟩
  ·have ep:X'.prog=X.prog:=by rw [← hX]; rfl
   have ew:X'.w=X.w:=by rw [← hX]; rfl
   have eK:X'.K=X.K:=by rw [← hX]; rfl
   have ec:X'.calm=true:=by rw [← hX]; exact hc
   have d:=Tn.item X' ep ew eK ec i [] s5 σ5 H5 (fun _ _=>False) I5 (stat fr5) st5 go
   subst hX
   refine thn d fun r s6 ⟨u,hr,h6⟩=>?_
   subst hr
   refine thn h6 fun _ s7 ⟨x,H7,I7,r7,y7,st7,fr7⟩=>?_
   have I7':=I7.pinned (stat fr7) (Tn.obj _ _ st7)
   refine wpAny_mono (hg _ _ _ _ s7 σ5 H7 x u _ I7' r7 (step x H7 y7)) (fun _ s8 ⟨σ8,H8,I8,q8⟩=>?_) nf
   refine wpAny_mono (hifs _ _ _ _ s8 σ8 H8 _ I8 q8) (fun b s9 ⟨H9,I9,q9⟩=>?_) nf
   have again:∀ {s':Shared} {σ':L2.St} {H':Hp},Inv (cxC X sc T cap fp s3 (upd H2 s₂.heap.objs.size (.lst []))) ([]++pinsAt fp s7.heap) σ' H' s'→N σ' H' →
     ∃ m,m<n∧∃ i σ' H',Inv (cxC X sc T cap fp s3 (upd H2 s₂.heap.objs.size (.lst []))) [] σ' H' s'∧tn i s'.heap∧(∀ b∈fp,H' b=none)∧W i m σ' H':=fun {s' σ' H'} Ia na=>by
    obtain ⟨m',hm,w'⟩:=hN σ' H' na
    refine ⟨m',hm,i+1,σ',H',Ia.unpinned,Tn.keep _ _ _ st7 fun b hb o e=>(Ia.pin (b,o) (List.mem_append_right _ (List.mem_append_right _ (mem_pinsAt hb e)))).1,fun b hb=>?_,w'⟩
    obtain ⟨o,e,_⟩:=Tn.obj _ _ st7 b hb
    exact (Ia.pin (b,o) (List.mem_append_right _ (List.mem_append_right _ (mem_pinsAt hb e)))).2.1
   cases b with
   | false =>
    rw [if_neg Bool.false_ne_true] at q9 ⊢
    exact again I9 q9
   | true =>
    rw [if_pos rfl] at q9 ⊢
    refine wpAny_mono (helt _ _ _ _ s9 σ8 H9 _ I9 q9) (fun y s10 ⟨yv,H10,I10,ry,ys,hl,hz,n10⟩=>?_) nf
    refine wpAny_mono (mt_append (X:=cxC X sc T cap fp s3 (upd H2 s₂.heap.objs.size (.lst []))) _ s10 σ8 H10 (.ref s₂.heap.objs.size) [yv] (.ref s₂.heap.objs.size) [y] (fun _ H'=>N σ8 H') I10 rfl (.cons ry .nil) ⟨_,ys,yv,rfl,rfl,hl,hz,n10⟩)
     (fun _ s11 ⟨_,H11,I11,_,n11⟩=>again I11 n11) nf
 subst hs3
 exact codeAny_compStart_list (loop _ ⟨_,rfl⟩) (Tn.self X.A 0 _ _ _ st4 (loop _ ⟨_,rfl⟩))
theorem pe_comp (hc:X.calm=true)(O:COk X sc cap)(hi:PI X tg iter wi)(hg:∀ fp s H,PG (cxC X sc T cap fp s H) tg g)(hifs:∀ fp s H,PIfs (cxC X sc T cap fp s H) ifs tc)(helt:∀ fp s H,PE (cxC X sc T cap fp s H) elt te)
  (hs:∀ x,foldedSetIterable iter X.env x=pure x:=by intro _; rfl):PE X (.ListComp elt [⟨tg,iter,ifs,0⟩] sc pos) (tComp wi T.length cap g tc te):=by
 intro pins s σ H Q I h
 rw [eval_ListComp]
 refine wpAny_comprehension_free (use:=none) rfl hs (closure_eq (O.cells I.ok)) O.kind O.loc (wpAny_mono (hi pins s σ H _ I h) (fun v s1 h1=>wpAny_mono h1 (fun itv s2 h2=>?_) fun _ _ e=>e) fun _ _ e=>e)
 obtain ⟨it,fp,tn,J,H2,e,I2,Tn,st2,f2,R⟩:=h2
 subst e
 refine comp_core (RR:=fun acc C=>compPost (model X.prog X.w) X.A X.xe none (EP X pins σ Q) acc C) hc O hg hifs helt I2 Tn st2 f2 R fun D C s' H' I' f' hm q=>?_
 obtain ⟨m,hm⟩:=hm
 refine ⟨m,hm,fun h' hs'=>⟨.ref D,H',?_,rfl,q⟩⟩
 exact I'.turned (t':=s'.toks) (fun b o hb e=>(hs'.2 b hb).trans e) f'.1 f'.2.1 f'.2.2.2.1 f'.2.2.2.2.1 f'.2.2.2.2.2
def tSetComp (i:Nat)(te:TE):TS:=fun D σ H=>te σ H fun x H1=>D.nx (σ.set i (some x)) H1
end
structure ItOf (J:It)(xs:List V)(Ok:Hp→Prop):Prop where
 go:∀ i H,Ok H→i<xs.length→J.go i H
 yld:∀ i H x H',Ok H→i<xs.length→J.yld i H x H'→H'=H∧xs[i]?=some x
 stop:∀ i H,Ok H→xs.length≤i→J.stop i H
theorem itl {K:PySem.W.Frag}{a:Addr}{xs:List V}:ItOf (Itl K a) xs (fun H=>SqL K H a xs) :=
 ⟨fun i _ h l=>⟨xs,xs[i],h,List.getElem?_eq_getElem l⟩,fun _ _ _ _ h _ y=>⟨y.1,y.2 xs h⟩,fun _ _ h l=>⟨xs,h,l⟩⟩
theorem CmpR.map {cap:List Nat}{te:TE}{J:It}{σ:L2.St}{H:Hp}{Q:VK}{xs:List V}{Ok:Hp→Prop}(f:V→V)(it:ItOf J xs Ok)(hz:xs.length≤1000)(ok:∀ D ys,H D=none→Ok (upd H D (.lst ys)))
  (hs:∀ D x ys (Q':VK),H D=none→x∈xs→Q' (f x) (upd H D (.lst ys))→te (some x::cap.map fun i=>σ.getD i none) (upd H D (.lst ys)) Q')
  (hd:∀ D,H D=none→Q (.ref D) (upd H D (.lst (xs.map f)))):CmpR 1 cap (gName 0) tYes te J σ H Q:=by
 intro D hD
 refine ⟨fun i m σ' H'=>m=xs.length - i∧i≤xs.length∧∃ t,σ'=t::(cap.map fun i=>σ.getD i none)∧H'=upd H D (.lst ((xs.take i).map f)),⟨_,rfl,Nat.zero_le _,none,rfl,rfl⟩,fun i m σ' H' hw=>?_⟩
 obtain ⟨rfl,hi,t,rfl,rfl⟩:=hw
 by_cases lt:i<xs.length
 ·refine .inr ⟨it.go i _ (ok D _ hD) lt,fun σ2 H2=>∃ t,σ2=t::(cap.map fun i=>σ.getD i none)∧H2=upd H D (.lst ((xs.take (i+1)).map f)),fun σ2 H2 n2=>⟨_,?_,rfl,lt,n2⟩,fun x H2 y=>?_⟩
  ·omega
  ·obtain ⟨rfl,hx⟩:=it.yld i _ x H2 (ok D _ hD) lt y
   show te (some x::(cap.map fun i=>σ.getD i none)) _ _
   refine hs D x _ _ hD (List.mem_of_getElem? hx) ⟨_,upd_same,?_,_,rfl,?_⟩
   ·rw [List.length_map,List.length_take]
    exact small1000 (by omega)
   ·rw [upd_upd,List.take_add_one,hx,List.map_append]
    rfl
 ·obtain rfl:i=xs.length:=by omega
  refine .inl ⟨it.stop _ _ (ok D _ hD) (Nat.le_refl _),?_⟩
  rw [List.take_length]
  exact hd D hD
theorem CmpR.mapS {cap:List Nat}{te:TE}{J:It}{σ:L2.St}{H:Hp}{Q:VK}{xs:List V}{Ok:Hp→Prop}(f:V→V)(it:ItOf J xs Ok)(hz:xs.length≤1000)(ok:∀ H',Same H H'→Ok H')
  (hs:∀ x H' (Q':VK),x∈xs→Same H H'→(∀ H2,Same H' H2→Q' (f x) H2)→te (some x::cap.map fun i=>σ.getD i none) H' Q')
  (hd:∀ D H',H D=none→Same H H'→H' D=some (.lst (xs.map f))→Q (.ref D) H'):CmpR 1 cap (gName 0) tYes te J σ H Q:=by
 intro D hD
 have keep:∀ {H':Hp} {o:HO},Same H H'→Same H (upd H' D o):=fun sm b o e=>by
  rw [upd_ne (ne_of_none e hD)]
  exact sm b o e
 refine ⟨fun i m σ' H'=>m=xs.length - i∧i≤xs.length∧∃ t,σ'=t::(cap.map fun i=>σ.getD i none)∧Same H H'∧H' D=some (.lst ((xs.take i).map f)),⟨_,rfl,Nat.zero_le _,none,rfl,keep (Same.refl _),upd_same⟩,fun i m σ' H' hw=>?_⟩
 obtain ⟨rfl,hi,t,rfl,sm,hl⟩:=hw
 by_cases lt:i<xs.length
 ·refine .inr ⟨it.go i _ (ok _ sm) lt,fun σ2 H2=>∃ t,σ2=t::(cap.map fun i=>σ.getD i none)∧Same H H2∧H2 D=some (.lst ((xs.take (i+1)).map f)),fun σ2 H2 n2=>⟨_,?_,rfl,lt,n2⟩,fun x H2 y=>?_⟩
  ·omega
  ·obtain ⟨rfl,hx⟩:=it.yld i _ x H2 (ok _ sm) lt y
   show te (some x::(cap.map fun i=>σ.getD i none)) _ _
   refine hs x H2 _ (List.mem_of_getElem? hx) sm fun H3 s3=>⟨_,s3 _ _ hl,?_,_,rfl,keep (sm.trans s3),?_⟩
   ·rw [List.length_map,List.length_take]
    exact small1000 (by omega)
   ·rw [upd_same,List.take_add_one,hx,List.map_append]
    rfl
 ·obtain rfl:i=xs.length:=by omega
  refine .inl ⟨it.stop _ _ (ok _ sm) (Nat.le_refl _),?_⟩
  rw [List.take_length] at hl
  exact hd D H' hD sm hl
section
variable {wi:TI}{nT:Nat}{cap:List Nat}{g:TG}{tc:TT}{te:TE}{σ:L2.St}{H:Hp}{Q:VK}{D:Ends}{i:Nat}{Qb:Bool→Hp→Prop}
theorem comp_:tComp wi nT cap g tc te σ H Q=wi σ H fun J H1=>CmpR nT cap g tc te J σ H1 Q:=rfl
theorem setComp_:tSetComp i te D σ H=te σ H fun x H1=>D.nx (σ.set i (some x)) H1:=rfl
theorem yes_:tYes σ H Qb=Qb true H:=rfl
end
def ItR (K:PySem.W.Frag)(x:V)(H:Hp)(R:It→Hp→Prop):Prop:=∃ a,x=.ref a∧(∃ xs,SqT K H a xs)∧R (Itt K a) H
theorem ItR.go {K:PySem.W.Frag}{a:Addr}{xs:List V}{H:Hp}{R:It→Hp→Prop}(h:SqT K H a xs)(q:R (Itt K a) H):ItR K (.ref a) H R:=⟨a,rfl,⟨xs,h⟩,q⟩
theorem mk_tup {K:PySem.W.Frag}{h:Heap}{mg:Str→Option Value}{x:Str}{ad:Addr}{d:Option Addr}{its:Array Value}{n:Nat}{sl:Array (Option Value)}{xs:List V}(X:K.In h)(G:h.Ns mainGlobals mg)(a:PySem.W.nsIn K mainGlobals x=some (some (.ref ad)))
  (l:K.lookup ad=some ⟨.type "tuple",d,.seq its n,sl⟩) (z:its.size≤sizeLine) (v:Vals xs its.toList):∃ a,mg x=some (.ref a)∧∀ H,SqT K H a xs:=⟨ad,PySem.W.mg_of X G a,fun H=>.inr ⟨_,its,n,l,rfl,rfl,z,v⟩⟩
theorem ForR.items {J:It}{xs:List V}{Ok:Hp→Prop}{g:TG}{tb:TS}{D:Ends}{σ:L2.St}{H:Hp}(it:ItOf J xs Ok)(Pv:Nat→L2.St→Hp→Prop)(h0:Pv 0 σ H)(hok:∀ i σ H,Pv i σ H→Ok H)
  (hs:∀ i x σ H,xs[i]?=some x→Pv i σ H→g x σ H fun σ2 H2=>tb { D with nx:=Pv (i+1),ct:=Pv (i+1),bk:=D.nx } σ2 H2) (hd:∀ σ H,Pv xs.length σ H→D.nx σ H):ForR J g tb D σ H:=by
 refine ⟨fun i m σ H=>m=xs.length - i∧i≤xs.length∧Pv i σ H,⟨_,rfl,Nat.zero_le _,h0⟩,fun i m σ H hw=>?_⟩
 obtain ⟨rfl,hi,p⟩:=hw
 by_cases lt:i<xs.length
 ·refine .inr ⟨it.go i H (hok i σ H p) lt,Pv (i+1),fun σ' H' p'=>⟨_,?_,rfl,lt,p'⟩,fun x H' y=>?_⟩
  ·omega
  ·obtain ⟨rfl,hx⟩:=it.yld i H x H' (hok i σ H p) lt y
   exact hs i x σ H' hx p
 ·obtain rfl:i=xs.length:=by omega
  exact .inl ⟨it.stop _ _ (hok _ _ _ p) (Nat.le_refl _),hd σ H p⟩
def Itc (z:Str):It:=⟨fun i _=>i<z.cps.size,fun i H x H'=>H'=H∧∃ c,z.cps[i]?=some c∧x=.str ⟨#[c]⟩,fun i _=>z.cps.size≤i⟩
theorem turn_str {P:Program}{w:World}{K:PySem.W.Frag}{tg:Expr}{it:Addr}{z:Str}{t:Tok}{ty:String}
  (hty:["enumerate","zip","dict_itemiterator","dict_reverseitemiterator","odict_iterator","itertools.zip_longest","itertools.pairwise"].contains ty=false)
  (hitem:∀ (A:Around) (s:Shared) (i c:Nat) (Q:Option Value→Shared→Prop) (E:Value→Shared→Prop),s.heap.IsStrIter it ty z t i→z.cps[i]?=some c →
   (∀ h',h'.IsStrIter it ty z t (i+1)→Heap.SameBut it s.heap h'→Q (some (.str ⟨#[c]⟩ s.toks)) { s with heap:=h',toks:=s.toks+1 })→wpAny (model P w) A (pyNext (.ref it)) Q E s)
  (hend:∀ (A:Around) (s:Shared) (i:Nat) (Q:Option Value→Shared→Prop) (E:Value→Shared→Prop),A.handled=none→s.heap.IsStrIter it ty z t i→z.cps[i]?=none →
   (∀ h',Heap.ExtBut it s.heap h'→Q none { s with heap:=h' })→wpAny (model P w) A (pyNext (.ref it)) Q E s)
  (hself:∀ (A:Around) (s:Shared) (i:Nat) (Q:Value→Shared→Prop) (E:Value→Shared→Prop),s.heap.IsStrIter it ty z t i→Q (.ref it) s→wpAny (model P w) A (pyIter (.ref it)) Q E s) :
  Turn P w K tg (Itc z) [it] it (fun i h=>h.IsStrIter it ty z t i) where
 mem:=List.mem_singleton.mpr rfl
 obj:=fun i h st b hb=>by
  obtain rfl:b=it:=List.mem_singleton.mp hb
  obtain ⟨o,e,_,d⟩:=st
  exact ⟨o,e,fun v q=>by rw [d] at q; cases q⟩
 keep:=fun i h h' st k=>by
  obtain ⟨o,e,r⟩:=st
  exact ⟨o,k it (List.mem_singleton.mpr rfl) o e,r⟩
 item:=by
  intro X eP ew eK hc i pins s σ H E I hf st hg
  subst eP ew eK
  obtain ⟨f0,f1,f2,f3,f4,f5⟩:=hf it (List.mem_singleton.mpr rfl)
  have lt:i<z.cps.size:=hg
  have hx:z.cps[i]?=some z.cps[i]:=Array.getElem?_eq_getElem lt
  refine hitem X.A s i _ _ _ st hx fun h' st' sb=>?_
  have J:Inv X pins σ H { s with heap:=h',toks:=s.toks+1 }:=I.turned (fun b o hb e=>(sb.2 b hb).trans e) f0 f1 f3 f4 f5
  obtain ⟨o,e,c1,d1⟩:=id st'
  exact ⟨_,rfl,go_of (s:={ s with heap:=h',toks:=s.toks+1 }) e c1 d1 hty ⟨.str ⟨#[z.cps[i]]⟩,H,J,⟨_,rfl⟩,⟨rfl,_,hx,rfl⟩,st',fun b hb=>(hf b hb).1⟩⟩
 done:=by
  intro X eP ew eK hc i pins s σ H E I hf st hg
  subst eP ew eK
  obtain ⟨f0,f1,f2,f3,f4,f5⟩:=hf it (List.mem_singleton.mpr rfl)
  have le:z.cps.size≤i:=hg
  exact hend X.A s i _ _ (I.ok.hd hc) st (Array.getElem?_eq_none le) fun h' eb=>⟨rfl,I.turned (t':=s.toks) (fun b o hb e=>eb b o hb e) f0 f1 f3 f4 f5⟩
 self:=fun A i s Q E st h=>hself A s i Q E st h
def iStr (tl:TE):TI:=fun σ H R=>tl σ H fun x H1=>∃ z,x=.str z∧R (Itc z) H1
theorem pi_str {X:Cx}{tg l:Expr}{tl:TE}(hl:PE X l tl):PI X tg l (iStr tl):=by
 intro pins s σ H R I h
 refine thn (hl pins s σ H _ I h) fun v s1 ⟨x,H1,I1,r1,q1⟩=>?_
 obtain ⟨z,e,q⟩:=q1
 subst e
 obtain ⟨t,rfl⟩:=(show ∃ t,v=Value.str z t from r1)
 have fp:∀ b∈[s1.heap.objs.size],FpOk X pins H1 b:=fun b hb=>by
  obtain rfl:=List.mem_singleton.mp hb
  exact I1.fpOk (Nat.le_refl _) (I1.hok.fresh (Nat.le_refl _))
 cases ha:z.cps.all (·<128) with
 | true =>
  refine wpAny_pyIter_ascii ha ⟨_,[_],_,_,H1,rfl,I1.kept (t':=s1.toks) fun b o e=>Heap.get?_push_of_some _ e,
   turn_str (ty:="str_ascii_iterator") (z:=z) (t:=t) (by decide) (fun _ _ _ _ _ _ st hx hQ=>wpAny_pyNext_ascii_item st hx hQ) (fun _ _ _ _ _ hh st hx hQ=>wpAny_pyNext_ascii_end hh st hx hQ) (fun _ _ _ _ _ st h=>wpAny_pyIter_striter_ascii st h),?_,fp,q⟩
  exact ⟨_,Heap.get?_push_size _ rfl,rfl,rfl⟩
 | false =>
  refine wpAny_pyIter_wide ha ⟨_,[_],_,_,H1,rfl,I1.kept (t':=s1.toks) fun b o e=>Heap.get?_push_of_some _ e,
   turn_str (ty:="str_iterator") (z:=z) (t:=t) (by decide) (fun _ _ _ _ _ _ st hx hQ=>wpAny_pyNext_wide_item st hx hQ) (fun _ _ _ _ _ hh st hx hQ=>wpAny_pyNext_wide_end hh st hx hQ) (fun _ _ _ _ _ st h=>wpAny_pyIter_striter_wide st h),?_,fp,q⟩
  exact ⟨_,Heap.get?_push_size _ rfl,rfl,rfl⟩
def IsR (x:V)(H:Hp)(R:It→Hp→Prop):Prop:=∃ z,x=.str z∧R (Itc z) H
theorem istr_ {te:TE}{σ:L2.St}{H:Hp}{R:It→Hp→Prop}:iStr te σ H R=te σ H fun x H1=>IsR x H1 R:=rfl
theorem IsR.go {z:Str}{H:Hp}{R:It→Hp→Prop}(q:R (Itc z) H):IsR (.str z) H R:=⟨z,rfl,q⟩
def signsV (z:Str):List V:=z.cps.toList.map fun c=>V.str ⟨#[c]⟩
theorem signsV_length (z:Str):(signsV z).length=z.cps.size:=by unfold signsV; rw [List.length_map,Array.length_toList]
theorem itc {z:Str}:ItOf (Itc z) (signsV z) (fun _=>True) where
 go:=fun i H _ l=>by
  rw [signsV_length] at l
  exact l
 yld:=fun i H x H' _ l y=>by
  obtain ⟨e,c,hc,rfl⟩:=y
  refine ⟨e,?_⟩
  unfold signsV
  rw [List.getElem?_map,Array.getElem?_toList,hc]
  rfl
 stop:=fun i H _ l=>by
  rw [signsV_length] at l
  exact l
def cval:Expr→Option V
 | .Constant (.str x) _ _=>some (.str x)
 | .Constant (.int i) _ _=>some (.int i)
 | .Constant (.bool b) _ _=>some (.bl b)
 | .Constant .none _ _=>some .non
 | _=>none
def cvals:List Expr→Option (List V)
 | []=>some []
 | e::es=>(cval e).bind fun v=>(cvals es).map fun vs=>v::vs
def tVals (vs:List V):TA:=fun _ H Q=>Q vs H
theorem vals_ {vs:List V}{σ:L2.St}{H:Hp}{Q:List V→Hp→Prop}:tVals vs σ H Q=Q vs H:=rfl
theorem cval_inv {e:Expr}{v:V}(h:cval e=some v):∃ c a b,e=.Constant c a b∧((∃ x,c=.str x∧v=.str x)∨(∃ x,c=.int x∧v=.int x)∨(∃ x,c=.bool x∧v=.bl x)∨(c=.none∧v=.non)):=by
 unfold cval at h
 split at h
 ·cases h; exact ⟨_,_,_,rfl,.inl ⟨_,rfl,rfl⟩⟩
 ·cases h; exact ⟨_,_,_,rfl,.inr (.inl ⟨_,rfl,rfl⟩)⟩
 ·cases h; exact ⟨_,_,_,rfl,.inr (.inr (.inl ⟨_,rfl,rfl⟩))⟩
 ·cases h; exact ⟨_,_,_,rfl,.inr (.inr (.inr ⟨rfl,rfl⟩))⟩
 ·cases h
theorem pe_cval {X:Cx}{e:Expr}{v:V}(h:cval e=some v):PE X e (tC v)∧∀ es,starEach (e::es) X.env=(false,eval e X.env)::starEach es X.env:=by
 obtain ⟨c,a,b,rfl,⟨x,rfl,rfl⟩ | ⟨x,rfl,rfl⟩ | ⟨x,rfl,rfl⟩ | ⟨rfl,rfl⟩⟩:=cval_inv h
 ·exact ⟨pe_str,fun _=>rfl⟩
 ·exact ⟨pe_int,fun _=>rfl⟩
 ·exact ⟨pe_bl,fun _=>rfl⟩
 ·exact ⟨pe_non,fun _=>rfl⟩
theorem pa_consts {X:Cx}:∀ {es:List Expr} {vs:List V},cvals es=some vs→PA X es (tVals vs)
 | [],vs,h=>by
  cases h
  exact pa_nil
 | e::es,vs,h=>by
  unfold cvals at h
  cases h1:cval e with
  | none=>rw [h1] at h; cases h
  | some v =>
   cases h2:cvals es with
   | none=>rw [h1,h2] at h; cases h
   | some ws =>
    rw [h1,h2] at h
    obtain rfl:vs=v::ws:=(Option.some.inj h).symm
    obtain ⟨p1,p2⟩:=pe_cval (X:=X) h1
    exact pa_cons p1 (pa_consts h2) (p2 es)
end Sv
namespace Sv
open PySem PySem.Spec PyProof.Rows L2
open PySem.Builtin PySem.Builtin.Str
theorem strs_vals:∀ {ws:List Str} {us:List Value},Vals (ws.map V.str) us→∃ l:List (Str×Tok),us=strValues l∧l.map (·.1)=ws
 | [],_,r=>by
  cases r
  exact ⟨[],rfl,rfl⟩
 | w::ws,_,r=>by
  cases r with
  | cons r1 r2 =>
   obtain ⟨t,rfl⟩:=r1
   obtain ⟨l,rfl,rfl⟩:=strs_vals r2
   exact ⟨(w,t)::l,rfl,rfl⟩
theorem vals_strs:∀ l:List (Str×Tok),Vals (l.map fun p=>V.str p.1) (strValues l)
 | []=>.nil
 | p::l=>.cons ⟨p.2,rfl⟩ (vals_strs l)
theorem split_push {prog:Program}{w:World}{A:Around}{E:Value→Shared→Prop}{s:Shared}{x y:Str}{t u:Tok}{Q:Value→Shared→Prop}(hy:(y.length == 0)=false)(hx:x.length≤100000)
  (hq:∀ (l:List (Str×Tok)) (k:Nat),l.map (·.1)=Txt.split x y→Q (.ref s.heap.objs.size) { s with heap:=s.heap.push { cls:=.type "list",data:=.seq (strValues l).toArray },toks:=k }) :
  wpAny (model prog w) A (call (.builtin "str.split") [.str x t,.str y u]) Q E s:=by
 have hx':x.length≤sizeLine:=Nat.le_trans hx (by decide)
 cases h1:(decide (x.length<y.length) || decide (strKind x<strKind y)) with
 | true =>
  have e:Txt.split x y=[x]:=by unfold Txt.split; rw [if_pos h1]
  exact call_meets F.slot_str_split (typeIs_str _ _ _) F.entry_str_split (F.args_str_split_2 _ _) (meets_str_split_cannot_occur x y t u h1) (hq [(x,t)] s.toks e.symm)
 | false =>
  cases hf:(occurrences x y 0 x.length (x.length+1)).isEmpty with
  | true =>
   have e:Txt.split x y=[x]:=by unfold Txt.split; rw [if_neg (by rw [h1]; exact Bool.false_ne_true),if_pos hf]
   exact call_meets F.slot_str_split (typeIs_str _ _ _) F.entry_str_split (F.args_str_split_2 _ _) (meets_str_split_not_found x y t u h1 hy hf) (hq [(x,t)] s.toks e.symm)
  | false =>
   have e:Txt.split x y=partsBetween x (occurrences x y 0 x.length (x.length+1)) y.length:=by
    unfold Txt.split
    rw [if_neg (by rw [h1]; exact Bool.false_ne_true),if_neg (by rw [hf]; exact Bool.false_ne_true)]
   have hn:(partsBetween x (occurrences x y 0 x.length (x.length+1)) y.length).length≤sizeLine:=by
    rw [← e]
    exact Nat.le_trans (split_le x y) (Nat.le_trans (Nat.add_le_add_right hx 2) (by decide))
   refine call_meets F.slot_str_split (typeIs_str _ _ _) F.entry_str_split (F.args_str_split_2 _ _) (meets_str_split_sep x y t u h1 hy hf hx' hn) ?_
   have q:=hq (numbered s.toks (partsBetween x (occurrences x y 0 x.length (x.length+1)) y.length)) (s.toks+(partsBetween x (occurrences x y 0 x.length (x.length+1)) y.length).length) ((numbered_texts _ _).trans e.symm)
   rw [← strsFrom_eq] at q
   exact q
section
variable {X:Cx}
def rSplit:V→List V→Hp→VK→Prop:=fun x vs H Q=>∃ z y,x=.str z∧vs=[.str y]∧(y.length == 0)=false∧z.length≤100000∧∀ p,H p=none→Q (.ref p) (upd H p (.lst ((Txt.split z y).map V.str)))
theorem mt_split:MtR X "str.split" rSplit:=by
 intro pins s σ H x vs v us Q I rx rv h
 obtain ⟨z,y,rfl,rfl,hy,hz,q⟩:=h
 obtain ⟨t,rfl⟩:=rx
 obtain ⟨u',rfl,ru⟩:=rv.one
 obtain ⟨u,rfl⟩:=ru
 refine split_push hy hz fun l k e=>?_
 have r:=vals_strs l
 have e2:(l.map fun p=>V.str p.1)=(Txt.split z y).map V.str:=by
  rw [← e,List.map_map]
  rfl
 rw [e2] at r
 refine ⟨.ref s.heap.objs.size,upd H s.heap.objs.size (.lst ((Txt.split z y).map V.str)),I.lnew (its:=strValues l) r ?_,rfl,q _ I.fresh⟩
 rw [List.length_map]
 exact Nat.le_trans (split_le z y) (Nat.le_trans (Nat.add_le_add_right hz 2) (by decide))
theorem split_ {z y:Str}{H:Hp}{Q:VK}(hy:(y.length == 0)=false)(hz:z.length≤100000)(q:∀ p,H p=none→Q (.ref p) (upd H p (.lst ((Txt.split z y).map V.str)))):rSplit (.str z) [.str y] H Q:=⟨z,y,rfl,rfl,hy,hz,q⟩
def rJoin (K:PySem.W.Frag):V→List V→Hp→VK→Prop:=fun x vs H Q=>∃ z a ws,x=.str z∧vs=[.ref a]∧SqL K H a (ws.map V.str)∧JoinOk z ws=true∧Q (.str (Str.join z ws)) H
theorem mt_join:MtR X "str.join" (rJoin X.K):=by
 intro pins s σ H x vs v us Q I rx rv h
 obtain ⟨z,a,ws,rfl,rfl,hq,hok,q⟩:=h
 obtain ⟨t,rfl⟩:=rx
 obtain ⟨u',rfl,ru⟩:=rv.one
 obtain rfl:u'=Value.ref a:=ru
 obtain ⟨its,rv',p,hz⟩:=I.list hq
 obtain ⟨l,rfl,e⟩:=strs_vals rv'
 refine SC.join p.isList e hok fun t' k=>⟨.str (Str.join z ws),H,I.tok k,⟨t',?_⟩,q⟩
 rw [← StrLaws.glued_eq_join]
 rfl
theorem join_go {K:PySem.W.Frag}{z:Str}{a:Addr}{ws:List Str}{H:Hp}{Q:VK}(h:SqL K H a (ws.map V.str))(hk:JoinOk z ws=true)(q:Q (.str (Str.join z ws)) H):rJoin K (.str z) [.ref a] H Q:=⟨z,a,ws,rfl,rfl,h,hk,q⟩
theorem joinOk_small {z:Str}{ws:List Str}(h:(ws.map (·.length)).sum+ws.length * z.length≤1000000):JoinOk z ws=true:=by
 unfold JoinOk
 rw [StrLaws.joinTotal]
 rw [Bool.not_eq_true']
 unfold tooLong
 exact decide_eq_false (by
  have:(1000000:Nat)≤sizeLine:=by decide
  omega)
def rIntT:List V→Hp→VK→Prop:=fun xs H Q=>∃ z n,xs=[.str z]∧z.length≤640∧PySem.intText? z=some n∧Q (.int n) H
theorem call_intT:CallR X (.type "int") rIntT:=by
 intro pins s σ H xs us Q I r h
 obtain ⟨z,n,rfl,hl,hn,q⟩:=h
 obtain ⟨u,rfl,ru⟩:=r.one
 obtain ⟨t,rfl⟩:=ru
 exact PySem.W.KIN.call_text hn hl ⟨.int n,H,I.tok _,⟨_,rfl⟩,q⟩
theorem intT_go {z:Str}{n:Int}{H:Hp}{Q:VK}(hl:z.length≤640)(hn:PySem.intText? z=some n)(q:Q (.int n) H):rIntT [.str z] H Q:=⟨z,n,rfl,hl,hn,q⟩
def rStrI:List V→Hp→VK→Prop:=fun xs H Q=>∃ i:Int,xs=[.int i]∧i.natAbs.log2<1920∧Q (.str (toString i)) H
theorem call_strI:CallR X (.type "str") rStrI:=call_str_int
theorem strI_go {i:Int}{H:Hp}{Q:VK}(h:i.natAbs.log2<1920)(q:Q (.str (toString i)) H):rStrI [.int i] H Q:=⟨i,rfl,h,q⟩
theorem log_small {i:Int}(h0:0≤i)(h1:i<10 ^ 100):i.natAbs.log2<1920:=by
 by_cases z:i.natAbs=0
 ·rw [z]; decide
 ·rw [Nat.log2_lt z]
  have a:i.natAbs<10 ^ 100:=by omega
  exact Nat.lt_of_lt_of_le (Nat.lt_of_lt_of_le a (by decide +kernel:10 ^ 100≤2 ^ 400)) (Nat.pow_le_pow_right (by decide) (by decide))
def LenS:List V→Hp→VK→Prop:=fun xs H Q=>∃ z,xs=[.str z]∧z.length≤sizeLine∧Q (.int z.length) H
theorem call_lenS:CallR X (.builtin "len") LenS:=call_len_str
theorem lenS_go {z:Str}{H:Hp}{Q:VK}(h:z.length≤1000000)(q:Q (.int z.length) H):LenS [.str z] H Q:=⟨z,rfl,Nat.le_trans h (by decide),q⟩
theorem all_get:∀ bs:List Bool,(List.range bs.length).all (fun i=>bs.getD i false)=bs.all id:=fun bs=>by
 rw [Bool.eq_iff_iff,List.all_eq_true,List.all_eq_true]
 constructor
 ·intro h x hx
  obtain ⟨i,hi,e⟩:=List.mem_iff_getElem.mp hx
  have q:=h i (List.mem_range.mpr hi)
  rw [List.getD_eq_getElem?_getD,List.getElem?_eq_getElem hi] at q
  rw [← e]
  exact q
 ·intro h i hi
  have hi':=List.mem_range.mp hi
  rw [List.getD_eq_getElem?_getD,List.getElem?_eq_getElem hi']
  exact h _ (List.getElem_mem hi')
def rAll (K:PySem.W.Frag):List V→Hp→VK→Prop:=fun xs H Q=>∃ (a:Addr) (bs:List Bool),xs=[.ref a]∧SqL K H a (bs.map V.bl)∧Q (.bl (bs.all id)) H
theorem call_all (hc:X.calm=true):CallR X (.builtin "all") (rAll X.K):=by
 intro pins s σ H xs us Q I r h
 obtain ⟨a,bs,rfl,hq,q⟩:=h
 obtain ⟨u,rfl,ru⟩:=r.one
 obtain rfl:u=Value.ref a:=ru
 obtain ⟨its,rv,p,hz⟩:=I.list hq
 have hl:bs.length=its.length:=by
  have:=rv.length
  rw [List.length_map] at this
  exact this
 have ha:a<s.heap.objs.size:=by
  obtain ⟨o,n,e,_⟩:=p
  exact Heap.lt_size e
 refine call_all_walk (wpAny_pyIter_list p.isList ?_)
 refine ⟨s.heap.objs.size,[s.heap.objs.size,a],[s.heap.objs.size],its.toArray.size,_,_,fun i=>bs.getD i false,rfl,Walks.list (A:=X.A.in1) (I.ok.hd hc) _ a (Nat.ne_of_lt ha) its.toArray,⟨⟨_,Heap.get?_push_size _ rfl,rfl,rfl⟩,?_⟩,?_,fun h' tk k=>?_⟩
 ·obtain ⟨o,n,e,c,_,d⟩:=p
  exact ⟨o,Heap.get?_push_of_some _ e,c,n,d⟩
 ·intro i v s' Q' E' hp hQ
  have hv:its[i]?=some v:=by simpa using hp
  have hi:i<bs.length:=by
   rw [hl]
   exact (List.getElem?_eq_some_iff.mp hv).1
  obtain ⟨u,hu,ru⟩:=rv.get (i:=i) (x:=V.bl bs[i]) (by rw [List.getElem?_map,List.getElem?_eq_getElem hi]; rfl)
  rw [hv] at hu
  cases hu
  obtain rfl:v=Value.bool bs[i]:=ru
  refine wpAny_truthy_bool ?_
  have hQ':Q' (bs.getD i false) s':=hQ
  rw [List.getD_eq_getElem?_getD,List.getElem?_eq_getElem hi] at hQ'
  exact hQ'
 ·refine ⟨.bl (bs.all id),H,I.kept (t':=tk) fun b o e=>k b o (fun z=>?_) (Heap.get?_push_of_some _ e),?_,q⟩
  ·have:=Heap.lt_size e
   rw [List.mem_singleton.mp z] at this
   exact absurd this (Nat.lt_irrefl _)
  ·show Value.bool _=Value.bool _
   rw [List.size_toArray,← hl,all_get]
theorem all_go {K:PySem.W.Frag}{a:Addr}{bs:List Bool}{H:Hp}{Q:VK}(h:SqL K H a (bs.map V.bl))(q:Q (.bl (bs.all id)) H):rAll K [.ref a] H Q:=⟨a,bs,rfl,h,q⟩
def InS:R2:=fun x y H Q=>∃ i j,x=.str i∧y=.str j∧Q (.bl (!(occurrences j i 0 j.length 1).isEmpty)) H
theorem op_inS:OpR X (compareOp .In) InS:=op_in_str
theorem inS_ {i j:Str}{H:Hp}{Q:VK}:InS (.str i) (.str j) H Q=Q (.bl (!(occurrences j i 0 j.length 1).isEmpty)) H:=by
 apply propext
 constructor
 ·intro h
  obtain ⟨a,b,e1,e2,q⟩:=h
  cases e1; cases e2
  exact q
 ·exact fun q=>⟨i,j,rfl,rfl,q⟩
def AddS:R2:=fun x y H Q=>∃ i j,x=.str i∧y=.str j∧i.length+j.length≤sizeLine∧Q (.str (i++j)) H
theorem op_addS:OpR X (binaryOp .Add) AddS:=op_add_str
theorem addS_go {i j:Str}{H:Hp}{Q:VK}(h:i.length+j.length≤1000000)(q:Q (.str (i++j)) H):AddS (.str i) (.str j) H Q:=⟨i,j,rfl,rfl,Nat.le_trans h (by decide),q⟩
def rCatQ (K:PySem.W.Frag):R2:=fun x y H Q=>∃ l b xs zs,x=.ref l∧y=.ref b∧SqL K H l xs∧SqL K H b zs∧xs.length+zs.length≤sizeLine∧∀ p,H p=none→Q (.ref p) (upd H p (.lst (xs++zs)))
theorem op_catQ:OpR X (binaryOp .Add) (rCatQ X.K):=by
 intro pins s σ H x y v u Q I rx ry h
 obtain ⟨l,b,xs,zs,rfl,rfl,h1,h2,hz,q⟩:=h
 cases rx
 cases ry
 obtain ⟨its,r,p,_⟩:=I.list h1
 obtain ⟨its2,r2,p2,_⟩:=I.list h2
 obtain ⟨⟨c,d,dt,sl⟩,n,e,hc,hd,hdt⟩:=p
 obtain ⟨⟨c2,d2,dt2,sl2⟩,n2,e2,hc2,hd2,hdt2⟩:=p2
 simp only at hc hd hdt hc2 hd2 hdt2
 subst hc hd hdt hc2 hd2 hdt2
 have l1:=r.length
 have l2:=r2.length
 refine concat_meets ⟨_,e,rfl⟩ ⟨_,e2,rfl⟩ noFill_list_add seq_list_add PySem.F.slot_list_add PySem.F.entry_list_add (PySem.F.args_list_add_2 _ _) (list_addW l b its.toArray its2.toArray n n2 none none sl sl2 (by rw [List.size_toArray,List.size_toArray]; omega)) ⟨e,e2,?_⟩
 have ea:its.toArray++its2.toArray=(its++its2).toArray:=by simp
 rw [ea]
 exact ⟨.ref _,_,I.lnew (t':=s.toks) (r.append r2) (by rw [List.length_append]; omega),rfl,q _ I.fresh⟩
theorem catQ_go {K:PySem.W.Frag}{l b:Addr}{xs zs:List V}{H:Hp}{Q:VK}(h1:SqL K H l xs)(h2:SqL K H b zs)(hz:xs.length+zs.length≤1000000)(q:∀ p,H p=none→Q (.ref p) (upd H p (.lst (xs++zs)))):rCatQ K (.ref l) (.ref b) H Q :=
 ⟨l,b,xs,zs,rfl,rfl,h1,h2,Nat.le_trans hz (by decide),q⟩
end
theorem app_list (x y:Str):(x++y).cps.toList=x.cps.toList++y.cps.toList:=by
 show (x.cps++y.cps).toList=_
 rw [Array.toList_append]
theorem str_ext {x y:Str}(h:x.cps.toList=y.cps.toList):x=y:=by
 obtain ⟨a⟩:=x
 obtain ⟨b⟩:=y
 have:a=b:=Array.toList_inj.mp h
 rw [this]
theorem free_split {c:Nat}:∀ {a b r r':List Nat},c∉a→c∉b→a++c::r=b++c::r'→a=b∧r=r'
 | [],[],_,_,_,_,e=>⟨rfl,(List.cons.inj e).2⟩
 | [],y::b,_,_,_,hb,e=>absurd (List.mem_cons.mpr (.inl (List.cons.inj e).1)) hb
 | x::a,[],_,_,ha,_,e=>absurd (List.mem_cons.mpr (.inl (List.cons.inj e).1.symm)) ha
 | x::a,y::b,r,r',ha,hb,e=>by
  obtain ⟨e1,e2⟩:=List.cons.inj e
  obtain ⟨q1,q2⟩:=free_split (fun z=>ha (List.mem_cons_of_mem _ z)) (fun z=>hb (List.mem_cons_of_mem _ z)) e2
  exact ⟨by rw [e1,q1],q2⟩
theorem free_end {c:Nat}{a b r:List Nat}(ha:c∉a):a≠b++c::r:=fun e=>ha (by rw [e]; simp)
theorem join_inj {c:Nat}:∀ {ws vs:List Str},ws≠[]→vs≠[]→(∀ w∈ws,c∉w.cps.toList)→(∀ w∈vs,c∉w.cps.toList)→Str.join ⟨#[c]⟩ ws=Str.join ⟨#[c]⟩ vs→ws=vs
 | [],_,h,_,_,_,_=>absurd rfl h
 | _::_,[],_,h,_,_,_=>absurd rfl h
 | [w],[v],_,_,_,_,e=>by
  have e':w=v:=e
  rw [e']
 | [w],v::v'::vs,_,_,hw,_,e=>by
  have e':w=v++⟨#[c]⟩++Str.join ⟨#[c]⟩ (v'::vs):=e
  have e2:=congrArg (fun z=>z.cps.toList) e'
  simp only [app_list,List.append_assoc] at e2
  exact absurd e2 (free_end (hw w List.mem_cons_self))
 | w::w'::ws,[v],_,_,_,hv,e=>by
  have e':w++⟨#[c]⟩++Str.join ⟨#[c]⟩ (w'::ws)=v:=e
  have e2:=congrArg (fun z=>z.cps.toList) e'
  simp only [app_list,List.append_assoc] at e2
  exact absurd e2.symm (free_end (hv v List.mem_cons_self))
 | w::w'::ws,v::v'::vs,_,_,hw,hv,e=>by
  have e':w++⟨#[c]⟩++Str.join ⟨#[c]⟩ (w'::ws)=v++⟨#[c]⟩++Str.join ⟨#[c]⟩ (v'::vs):=e
  have e2:=congrArg (fun z=>z.cps.toList) e'
  simp only [app_list,List.append_assoc] at e2
  obtain ⟨q1,q2⟩:=free_split (hw w List.mem_cons_self) (hv v List.mem_cons_self) e2
  have q3:=join_inj (ws:=w'::ws) (vs:=v'::vs) (by simp) (by simp) (fun z hz=>hw z (List.mem_cons_of_mem _ hz)) (fun z hz=>hv z (List.mem_cons_of_mem _ hz)) (str_ext q2)
  rw [str_ext q1,q3]
theorem split_join {c:Nat}{ws:List Str}(h:ws≠[])(hf:∀ w∈ws,c∉w.cps.toList):Txt.split (Str.join ⟨#[c]⟩ ws) ⟨#[c]⟩=ws:=by
 refine join_inj (c:=c) ?_ h (StrLaws.split_free _ c) hf (StrLaws.join_split _ _)
 intro e
 have:=split_pos (Str.join ⟨#[c]⟩ ws) ⟨#[c]⟩
 rw [e] at this
 exact absurd this (by decide)
end Sv
namespace Sv
open PySem PySem.Spec PyProof.Rows L2
def Chn:List (Addr×Obj)→Value→Prop
 | [],v=>v=.none
 | p::l,v=>v=.ref p.1∧∃ (ws:Array Value) (c:Value),p.2.data=.fields ws∧ws[2]?=some c∧Chn l c
def Ctx2 (B:Heap)(U:Addr→Prop)(vs:Array Value):Prop:=∃ (c:Value) (l:List (Addr×Obj)),vs[2]?=some c∧Chn l c∧∀ p∈l,B.get? p.1=some p.2∧U p.1
theorem Ctx2.no {B:Heap}{U:Addr→Prop}{vs:Array Value}(h:vs[2]?=some .none):Ctx2 B U vs:=⟨_,[],h,rfl,fun _ z=>nomatch z⟩
theorem Ctx2.set {B:Heap}{U:Addr→Prop}{vs:Array Value}{x:Value}(h:Ctx2 B U vs):Ctx2 B U (vs.setIfInBounds 1 x):=by
 obtain ⟨c,l,h1,r⟩:=h
 exact ⟨c,l,by rw [Array.getElem?_setIfInBounds_ne (by decide)]; exact h1,r⟩
def Tr (h B:Heap)(U:Addr→Prop)(e:Addr)(cls:Value)(dd:Option Addr)(fl:Value):Prop :=
 ∃ (sl:Array (Option Value)) (vs:Array Value) (T:Addr) (oT:Obj) (ts:Array Value),h.get? e=some ⟨cls,dd,.fields vs,sl⟩∧vs[1]?=some (.ref T)∧B.get? T=none∧T≠e∧h.get? T=some oT∧oT.data=.fields ts∧ts[3]?=some fl∧Ctx2 B U vs
def Raw (h B:Heap)(U:Addr→Prop)(e:Addr)(cls:Value)(dd:Option Addr):Prop:=∃ (sl:Array (Option Value)) (vs:Array Value),h.get? e=some ⟨cls,dd,.fields vs,sl⟩∧vs[1]?=some .none∧Ctx2 B U vs
structure FlyD (B:Heap)(U:Addr→Prop)(l:List Env)(e:Addr)(cls:Value)(dd:Option Addr)(fl:Value)(h:Heap):Prop where
 st:B.StaysIn h
 ne:B.get? e=none
 fr:h.FunFrames B l
 tr:Tr h B U e cls dd fl
theorem upd_rest {h:Heap}{a:Addr}{o:Obj}{vs:Array Value}{f:Array Value→Array Value}(ha:h.get? a=some o)(hd:o.data=.fields vs) :
  (∀ b,b≠a→(h.update a (Obj.mapFields f)).get? b=h.get? b)∧(h.update a (Obj.mapFields f)).get? a=some { o with data:=.fields (f vs) }∧∀ b ob,h.get? b=some ob→(∀ ws,ob.data≠.fields ws)→(h.update a (Obj.mapFields f)).get? b=some ob:=by
 have other:∀ b,b≠a→(h.update a (Obj.mapFields f)).get? b=h.get? b:=fun b hb=>Heap.get?_update_other _ _ (Ne.symm hb)
 refine ⟨other,?_,fun b ob hb nf=>?_⟩
 ·obtain ⟨c,d,dt,sl⟩:=o
  have hdt:dt=.fields vs:=hd
  subst hdt
  exact Heap.get?_update_self _ ha rfl
 ·refine (other b fun z=>?_).trans hb
  rw [z,ha] at hb
  cases hb
  exact nf vs hd
theorem frames_up {h h' B:Heap}{l:List Env}(hl:h.FunFrames B l)(up:h.UpToSlots h'):h'.FunFrames B l:=hl.of_keeps fun b o hb nf=>by
 obtain ⟨sl,e⟩:=up b o hb nf
 exact ⟨_,e,rfl⟩
section
variable {M:Model}{A:Around}{E:Value→Shared→Prop}{s:Shared}{B:Heap}{U:Addr→Prop}{env:Env}{outer:List Env}{L e:Addr}{cls:Value}{dd:Option Addr}{Q:Unit→Shared→Prop}
theorem entry_d {vs:Array Value}{sl:Array (Option Value)}{head:Value}{had:Bool}(hfr:A.frames=some (env::outer))(hl:s.heap.FunFrames B (env::outer))(hf:env.frame=some L)(he:s.heap.get? e=some ⟨cls,dd,.fields vs,sl⟩)
  (hB:B.StaysIn s.heap) (hn:B.get? e=none) (hz:1<vs.size) (hc:Ctx2 B U vs) (k:∀ h',FlyD B U (env::outer) e cls dd (rawInt L) h'→s.heap.UpToSlots h'→Q () { s with heap:=h' }) :
  wpAny M A (do let fr ← frameOf env; let pl ← entryPlaceOf L had; let en ← EntryCells.newEntry head fr .none (rawInt L) .none pl; setField (.ref e) 1 en) Q E s:=by
 have eN:e∉(env::outer).filterMap (·.frame):=fun hm=>by
  obtain ⟨_,o,ho,nf⟩:=hl.mem hm
  rw [he] at ho
  cases ho
  exact nf vs rfl
 refine wpAny_bind (wpAny_frameOf_fun hfr hl hf fun h1 so=>wpAny_bind (wpAny_entryPlaceOf fun pl hpl=>?_))
 unfold EntryCells.newEntry newFields
 refine wpAny_bind (wpAny_newObj_type ?_ (hpl.sizeOk5 _ _ _ _ _))
 have t3:(([head,Value.ref L,.none,rawInt L,.none]++(if pl.isEmpty then List.replicate 6 Value.none else pl)).toArray:Array Value)[3]?=some (rawInt L):=by simp
 generalize (([head,Value.ref L,.none,rawInt L,.none]++(if pl.isEmpty then List.replicate 6 Value.none else pl)).toArray:Array Value)=ts at t3 ⊢
 have he1:h1.get? e=some ⟨cls,dd,.fields vs,sl⟩:=(so.2.1 e eN).trans he
 have he2:(h1.push { cls:=.type "traceback",dict:=none,data:=.fields ts }).get? e=some ⟨cls,dd,.fields vs,sl⟩:=Heap.get?_push_of_some _ he1
 have hT:h1.objs.size≠e:=Nat.ne_of_gt (Heap.lt_size he1)
 obtain ⟨u1,u2,u3⟩:=upd_rest (f:=fun w=>w.setIfInBounds 1 (Value.ref h1.objs.size)) he2 rfl
 have up:s.heap.UpToSlots ((h1.push { cls:=.type "traceback",dict:=none,data:=.fields ts }).update e (Obj.mapFields fun w=>w.setIfInBounds 1 (Value.ref h1.objs.size))):=fun b o hb nf=>by
  obtain ⟨sl',q⟩:=so.2.2 b o hb
  exact ⟨sl',u3 b _ (Heap.get?_push_of_some _ q) nf⟩
 refine wpAny_setField he2 rfl hz (k _ ⟨fun b o hb=>?_,hn,frames_up hl up,?_⟩ up)
 ·have ne:b≠e:=fun z=>by rw [z,hn] at hb; cases hb
  have nf:b∉(env::outer).filterMap (·.frame):=fun hm=>by rw [(hl.mem hm).1] at hb; cases hb
  exact (u1 b ne).trans (Heap.get?_push_of_some _ ((so.2.1 b nf).trans (hB b o hb)))
 ·have fresh:B.get? h1.objs.size=none:=by
   cases q:B.get? h1.objs.size with
   | none=>rfl
   | some o =>
    have nf:h1.objs.size∉(env::outer).filterMap (·.frame):=fun hm=>by rw [(hl.mem hm).1] at q; cases q
    have:=(so.2.1 _ nf).trans (hB _ o q)
    exact absurd (Heap.lt_size this) (Nat.lt_irrefl _)
  exact ⟨sl,_,h1.objs.size,_,ts,u2,by simp [hz],fresh,hT,(u1 _ hT).trans (Heap.get?_push_size _ rfl),rfl,t3,hc.set⟩
theorem note_d (hfr:A.frames=some (env::outer))(hl:s.heap.FunFrames B (env::outer))(hf:env.frame=some L)(hB:B.StaysIn s.heap)(hn:B.get? e=none)(x:Raw s.heap B U e cls dd∨Tr s.heap B U e cls dd .none)
  (k:∀ h',FlyD B U (env::outer) e cls dd (rawInt L) h'→s.heap.UpToSlots h'→Q () { s with heap:=h' }):wpAny M A (noteFrame (.ref e) env) Q E s:=by
 unfold noteFrame
 simp only [hf]
 rcases x with ⟨sl,vs,he,h1,hc⟩ | ⟨sl,vs,T,oT,ts,he,h1,hT,hne,ho,hd,h3,hc⟩
 ·refine wpAny_bind (wpAny_field he rfl h1 ?_)
  rw [if_neg (by decide)]
  exact entry_d hfr hl hf he hB hn (Array.getElem?_eq_some_iff.mp h1).1 hc k
 ·refine wpAny_bind (wpAny_field he rfl h1 ?_)
  rw [if_pos (show (Value.ref T != Value.none)=true by simp)]
  refine wpAny_bind (wpAny_field ho hd h3 ?_)
  rw [if_neg (show ¬ (Value.none == rawInt L)=true by simp [rawInt])]
  refine wpAny_bind (wpAny_setField ho hd (Array.getElem?_eq_some_iff.mp h3).1 ?_)
  obtain ⟨u1,u2,u3⟩:=upd_rest (f:=fun w=>w.setIfInBounds 3 Value.none) ho hd
  have up:s.heap.UpToSlots (s.heap.update T (Obj.mapFields fun w=>w.setIfInBounds 3 Value.none)):=fun b o hb nf=>⟨o.slots,u3 b o hb nf⟩
  refine entry_d (s:={ s with heap:=s.heap.update T (Obj.mapFields fun w=>w.setIfInBounds 3 Value.none) }) hfr (frames_up hl up) hf ((u1 e (Ne.symm hne)).trans he) (fun b o hb=>?_) hn (Array.getElem?_eq_some_iff.mp h1).1 hc fun h' f up'=>k h' f (up.trans up')
  exact (u1 b fun z=>by rw [z,hT] at hb; cases hb).trans (hB b o hb)
theorem flight_d {l:List Env}{fl:Value}(x:FlyD B U l e cls dd fl s.heap)(k:∀ h',FlyD B U l e cls dd .none h'→s.heap.UpToSlots h'→Q () { s with heap:=h' }):wpAny M A (setFlight (.ref e) none) Q E s:=by
 obtain ⟨hB,hn,hl,sl,vs,T,oT,ts,he,h1,hT,hne,ho,hd,h3,hc⟩:=x
 have hz:3<ts.size:=(Array.getElem?_eq_some_iff.mp h3).1
 unfold setFlight
 refine wpAny_bind (wpAny_field he rfl h1 ?_)
 rw [if_pos (show (Value.ref T != Value.none)=true by simp)]
 obtain ⟨u1,u2,u3⟩:=upd_rest (f:=fun w=>w.setIfInBounds 3 Value.none) ho hd
 have up:s.heap.UpToSlots (s.heap.update T (Obj.mapFields fun w=>w.setIfInBounds 3 Value.none)):=fun b o hb nf=>⟨o.slots,u3 b o hb nf⟩
 refine wpAny_setField ho hd hz (k _ ⟨fun b o hb=>?_,hn,frames_up hl up,?_⟩ up)
 ·exact (u1 b fun z=>by rw [z,hT] at hb; cases hb).trans (hB b o hb)
 ·exact ⟨sl,vs,T,_,_,(u1 e (Ne.symm hne)).trans he,h1,hT,hne,u2,rfl,by simp [hz],hc⟩
theorem leaves_d (hfr:A.frames=some (env::outer))(hl:s.heap.FunFrames B (env::outer))(hf:env.frame=some L)(hB:B.StaysIn s.heap)(hn:B.get? e=none)(x:Raw s.heap B U e cls dd∨Tr s.heap B U e cls dd .none)
  (k:∀ h',FlyD B U outer e cls dd .none h'→s.heap.UpToSlots h'→Q () { s with heap:=h' }):wpAny M A (leaving env (.ref e)) Q E s:=by
 unfold leaving
 refine wpAny_bind (note_d hfr hl hf hB hn x fun h1 f1 up1=>?_)
 refine flight_d (s:={ s with heap:=h1 }) f1 fun h2 f2 up2=>k h2 ⟨f2.st,f2.ne,?_,f2.tr⟩ (up1.trans up2)
 obtain ⟨_,_,q⟩:=f2.fr
 exact q
theorem lands_d (hfr:A.frames=some (env::outer))(hl:s.heap.FunFrames B (env::outer))(hf:env.frame=some L)(hB:B.StaysIn s.heap)(hn:B.get? e=none)(x:Raw s.heap B U e cls dd∨Tr s.heap B U e cls dd .none)
  (k:∀ h',FlyD B U (env::outer) e cls dd .none h'→s.heap.UpToSlots h'→Q () { s with heap:=h' }):wpAny M A (noteFrame (.ref e) env) (fun _ s2=>wpAny M A (setFlight (.ref e) none) Q E s2) E s :=
 note_d hfr hl hf hB hn x fun h1 f1 up1=>flight_d (s:={ s with heap:=h1 }) f1 fun h2 f2 up2=>k h2 f2 (up1.trans up2)
end
end Sv
namespace Sv
open PySem PySem.Spec PyProof.Rows L2
theorem obj_there {P:Program}{w:World}{H:Hp}{h:Heap}{a:Addr}{o:HO}(x:ObjOk P w H h a o):∃ ob,h.get? a=some ob:=by
 cases o with
 | lst xs=>obtain ⟨_,_,_,_,e⟩:=x; exact ⟨_,e⟩
 | tup xs=>obtain ⟨_,_,_,ob,e,_⟩:=x; exact ⟨ob,e⟩
 | dK kvs=>obtain ⟨_,_,_,_,ob,_,_,e,_⟩:=x; exact ⟨ob,e⟩
 | dT kvs=>obtain ⟨_,_,_,_,ob,_,_,e,_⟩:=x; exact ⟨ob,e⟩
 | set S n=>obtain ⟨ob,_,_,_,e,_⟩:=x; exact ⟨ob,e⟩
 | ins C dx fs=>obtain ⟨_,_,_,e,_⟩:=x; exact ⟨_,e⟩
 | own y=>exact x
 | xd fs=>obtain ⟨_,⟨ob,_,_,e,_⟩,_⟩:=x; exact ⟨ob,e⟩
 | rng lo hi=>obtain ⟨_,_,_,e⟩:=x; exact ⟨_,e⟩
 | frz ob u=>exact ⟨ob,x.1⟩
 | tbl ps=>exact ⟨_,x⟩
 | met f y=>exact ⟨_,x⟩
 | ext φ=>exact x.2.1
theorem hok_exact {P:Program}{w:World}{H:Hp}{h h':Heap}(x:HOk P w H h)(k:∀ b o u,h.get? b=some o→H b=some u→h'.get? b=some o):HOk P w H h':=fun a o e =>
 (x a o e).stay (fun b u hb q=>by
  rcases hb with rfl | hb
  ·exact k b u o q e
  ·exact k b u _ q hb) (fun _ q=>q) fun _ _ q=>q
def Cov (B:Heap)(H:Hp)(hs h':Heap)(fs:List Addr):Prop:=∀ b o,h'.get? b=some o→b∉fs→((∃ u,hs.get? b=some u)∨∃ u,H b=some u)→B.get? b=some o
structure Fly (P:Program)(w:World)(outer:List Env)(H:Hp)(s:Shared)(H':Hp)(xa:Addr)(cls:Value)(dd:Option Addr)(s':Shared):Prop where
 os:s'.os=s.os
 bare:AllBare s'.gens
 un:Un (frs outer) [] H H' s.heap s'.heap
 hok:HOk P w H' s'.heap
 fly:∃ B,FlyD B (fun b=>H' b=none) outer xa cls dd .none s'.heap∧Cov B H' s.heap s'.heap (frs outer)
 free:H' xa=none
 dct:∀ d,dd=some d→∃ fs,H' d=some (.xd fs)
def CXe (P:Program)(w:World):CXT:=fun outer H s E e s'=>∃ xa cls dd H',e=.ref xa∧Fly P w outer H s H' xa cls dd s'∧E cls dd H'
structure DefCx (X:Cx):Prop where
 stk:X.stack=X.env::X.outer
 frm:X.env.frame=some X.env.locals
 ex:X.ex=[]
structure XeOut (X:Cx)(E:XK):Prop extends DefCx X where
 out:∀ e s',wpAny (model X.prog X.w) X.A (leaving X.env e) (fun _ s''=>CXe X.prog X.w X.outer X.H₀ X.s₀ E e s'') (fun e' s''=>CXe X.prog X.w X.outer X.H₀ X.s₀ E e' s'') s'→X.xe e s'
theorem xeOut_cx {P:Program}{w:World}{K:PySem.W.Frag}{mg:Str→Option Value}{base:Heap}{N:List Str}{qual:Str}{sc:Scope}{f:Addr}{cd:Value}{A:Around}{outer:List Env}{s:Shared}{H:Hp}{E:XK} :
  XeOut (cxOf (CXe P w) P w K mg base N qual sc f cd A outer s H E) E:=⟨⟨rfl,rfl,rfl⟩,fun _ _ h=>h⟩
theorem mem_frs {env:Env}{outer:List Env}{L b:Addr}(hf:env.frame=some L):b∈frs (env::outer)↔b=L∨b∈frs outer:=by
 unfold frs
 rw [List.filterMap_cons,hf]
 exact List.mem_cons
section
variable {X:Cx}{E:XK}{pins:List (Addr×Obj)}{σ:L2.St}{H:Hp}{s s':Shared}{h' B:Heap}
theorem left_ok (hX:DefCx X)(J:Inv X pins σ H s')(st:B.StaysIn h')(up:s'.heap.UpToSlots h')
  (cov:∀ b o,s'.heap.get? b=some o→b∉frs X.stack→((∃ u,X.s₀.heap.get? b=some u)∨∃ u,H b=some u)→B.get? b=some o) :
  Un (frs X.outer) [] X.H₀ H X.s₀.heap h'∧HOk X.prog X.w H h'∧Cov B H X.s₀.heap h' (frs X.outer):=by
 have neL:∀ b u,X.s₀.heap.get? b=some u→b≠X.env.locals:=fun b u e=>Nat.ne_of_lt (Nat.lt_of_lt_of_le (Heap.lt_size e) J.ok.above)
 have nst:∀ b,b≠X.env.locals→b∉frs X.outer→b∉frs X.stack:=fun b h1 h2 h3=>by
  rw [hX.stk,mem_frs hX.frm] at h3
  exact h3.elim h1 h2
 have nex:∀ b:Addr,b∉X.ex:=fun b z=>by rw [hX.ex] at z; cases z
 have exact:∀ b o u,X.s₀.heap.get? b=some u→b∉frs X.outer→s'.heap.get? b=some o→h'.get? b=some o:=fun b o u e hb q=>st b o (cov b o q (nst b (neL b u e) hb) (.inl ⟨u,e⟩))
 have slots:∀ b o,b∈frs X.outer→s'.heap.get? b=some o→∃ sl,h'.get? b=some { o with slots:=sl }:=fun b o hb q=>by
  have fm:=J.funs.mem (b:=b) hb
  obtain ⟨_,o',ho',hd'⟩:=fm
  rw [q] at ho'
  cases ho'
  exact up b o q hd'
 have trk:∀ b u,H b=some u→∃ o,s'.heap.get? b=some o∧h'.get? b=some o∧B.get? b=some o:=fun b u e=>by
  obtain ⟨o,ho⟩:=obj_there (J.hok b u e)
  have nb:b∉frs X.stack:=fun z=>by rw [J.stkFree b z] at e; cases e
  have q:=cov b o ho nb (.inr ⟨u,e⟩)
  exact ⟨o,ho,st b o q,q⟩
 refine ⟨⟨fun b o e n hb _=>?_,fun b o e n hb _=>?_,fun b o e n _=>J.base.free b o e n (nex b),fun b o e _=>?_,J.base.tups,J.base.frzs,J.base.tbls⟩,hok_exact J.hok fun b o u q e=>?_,fun b o q hb hc=>?_⟩
 ·exact exact b o o e hb (J.base.keep b o e n hb (nex b))
 ·obtain ⟨sl,e1⟩:=J.base.slot b o e n hb (nex b)
  obtain ⟨sl',e2⟩:=slots b _ hb e1
  exact ⟨sl',e2⟩
 ·obtain ⟨o',e1⟩:=J.base.there b o e (nex b)
  by_cases hb:b∈frs X.outer
  ·obtain ⟨sl',e2⟩:=slots b _ hb e1
   exact ⟨_,e2⟩
  ·exact ⟨o',exact b o' o e hb e1⟩
 ·obtain ⟨o',q1,q2,_⟩:=trk b u e
  rw [q] at q1
  cases q1
  exact q2
 ·rcases hc with ⟨u,e⟩ | ⟨u,e⟩
  ·obtain ⟨o',e1⟩:=J.base.there b u e (nex b)
   have c:=cov b o' e1 (nst b (neL b u e) hb) (.inl ⟨u,e⟩)
   have:=st b o' c
   rw [q] at this
   cases this
   exact c
  ·obtain ⟨o',_,q2,q3⟩:=trk b u e
   rw [q] at q2
   cases q2
   exact q3
theorem land_ok (hX:DefCx X)(J:Inv X [] σ H s')(st:B.StaysIn h')(up:s'.heap.UpToSlots h')
  (cov:∀ b o,s'.heap.get? b=some o→b∉frs X.stack→((∃ u,X.s₀.heap.get? b=some u)∨(∃ u,H b=some u)∨∃ p∈X.pn,p.1=b)→B.get? b=some o):Inv X [] σ H { s' with heap:=h' }:=by
 obtain ⟨un,hok,_⟩:=left_ok hX J st up fun b o q hb hc=>cov b o q hb (hc.elim .inl fun z=>.inr (.inl z))
 have cellK:∀ c v,s'.heap.IsCell c v→h'.IsCell c v:=fun c v ⟨o,ho,hd⟩=>by
  obtain ⟨sl,e⟩:=up c o ho fun ws z=>by rw [hd] at z; cases z
  exact ⟨_,e,hd⟩
 refine ⟨J.ok,J.os,J.bare,?_,?_,fun x c e=>?_,J.free,J.freeC,fun p hp=>?_,hok,J.len⟩
 ·have e:X.ex=[]:=hX.ex
  rw [e]
  exact un
 ·obtain ⟨m,hn,hl⟩:=J.loc
  refine ⟨m,up.ns hn,fun i x v e1 e2 e3=>?_⟩
  obtain ⟨u,r,l⟩:=hl i x v e1 e2 e3
  refine ⟨u,r,?_⟩
  rcases l with l | ⟨k,c,e,z⟩
  ·exact .inl l
  ·exact .inr ⟨k,c,e,cellK c _ z⟩
 ·obtain ⟨v,z⟩:=J.cell x c e
  exact ⟨v,cellK c v z⟩
 ·obtain ⟨e,n,ne,nf,d⟩:=J.pin p hp
  have nb:p.1∉frs X.stack:=fun z=>by
   rw [hX.stk,mem_frs hX.frm] at z
   exact z.elim ne nf
  have hp':p∈X.pn:=by simpa using hp
  exact ⟨st _ _ (cov _ _ e nb (.inr (.inr ⟨p,hp',rfl⟩))),n,ne,nf,d⟩
theorem leave_made {e:Addr}{cls:Value}{dd:Option Addr}(hX:XeOut X E)(J:Inv X pins σ H s)(hx:Raw s.heap (PySem.W.hideAll s.heap (e::frs (X.env::X.outer))) (fun b=>H b=none) e cls dd)(h0:X.s₀.heap.get? e=none)(hf:H e=none)(hd:∀ d,dd=some d→∃ fs,H d=some (.xd fs))(hE:E cls dd H):X.xe (.ref e) s:=by
 refine hX.out _ _ ?_
 have stk:=J.stack
 rw [hX.stk] at stk
 have hfr:X.A.frames=some (X.env::X.outer):=by rw [← hX.stk]; exact J.ok.frames
 have hin:∀ env∈(X.env::X.outer),∀ a,env.frame=some a→a∈e::frs (X.env::X.outer):=fun env he a ha=>List.mem_cons_of_mem _ (List.mem_filterMap.mpr ⟨env,he,ha⟩)
 refine leaves_d (B:=PySem.W.hideAll s.heap (e::frs (X.env::X.outer))) hfr (PySem.W.funFrames_hide stk hin) hX.frm (fun b o q=>PySem.W.of_hideAll _ q) (PySem.W.hideAll_none _ List.mem_cons_self) (.inl hx) fun h' x1 x4=>?_
 have cov:∀ b o,s.heap.get? b=some o→b∉frs X.stack→((∃ u,X.s₀.heap.get? b=some u)∨∃ u,H b=some u)→(PySem.W.hideAll s.heap (e::frs (X.env::X.outer))).get? b=some o:=fun b o q hb hc=>by
  refine PySem.W.hideAll_get _ q fun z=>?_
  rcases List.mem_cons.mp z with z | z
  ·rcases hc with ⟨u,e'⟩ | ⟨u,e'⟩
   ·rw [z,h0] at e'; cases e'
   ·rw [z,hf] at e'; cases e'
  ·rw [hX.stk] at hb
   exact hb z
 obtain ⟨un,hok,cv⟩:=left_ok hX.toDefCx J x1.st x4 cov
 exact ⟨e,cls,dd,H,rfl,⟨J.os,J.bare,un,hok,⟨_,x1,cv⟩,hf,hd⟩,hE⟩
theorem leave_on {e:Value}(hX:XeOut X E)(I:Inv X pins σ H s)(h:CXe X.prog X.w X.stack H s E e s'):X.xe e s':=by
 obtain ⟨xa,cls,dd,H',rfl,F,hE⟩:=h
 have J:Inv X pins σ H' s':=I.call' F.os F.un F.hok F.bare fun b z=>nomatch z
 obtain ⟨B,fl,cov⟩:=F.fly
 have hfr:X.A.frames=some (X.env::X.outer):=by rw [← hX.stk]; exact I.ok.frames
 rw [hX.stk] at fl
 refine hX.out _ _ (leaves_d hfr fl.fr hX.frm fl.st fl.ne (.inr fl.tr) fun h' x1 x2=>?_)
 obtain ⟨un,hok,cv⟩:=left_ok (h':=h') hX.toDefCx J x1.st x2 fun b o q hb hc=>by
  refine cov b o q hb ?_
  rcases hc with ⟨u,e'⟩ | hc
  ·exact .inl (I.base.there b u e' (by rw [hX.ex]; simp))
  ·exact .inr hc
 exact ⟨xa,cls,dd,H',rfl,⟨J.os,J.bare,un,hok,⟨B,x1,cv⟩,F.free,F.dct⟩,hE⟩
end
theorem pass_on {X:Cx}{E:XK}(hX:XeOut X E):Passes (CXe X.prog X.w) X E:=fun _ _ _ _ _ _ I h=>leave_on hX I h
theorem fun_okX {P:Program}{w:World}{K:PySem.W.Frag}{mg:Str→Option Value}{base:Heap}{x qual:Str}{st:Stmt}{f:Addr}{fd:FuncData}{N ps:List Str}{k:Nat}{sp:Sp}(F:Fun K x qual st f fd)(S:FnScope N ps (defScope st))(len:∀ vs H Q E,sp vs H Q E→vs.length=ps.length)
  (hbody:∀ (cdv:Value) (A:Around) (outer:List Env) (s:Shared) (H:Hp) (vs:List V) (Q:VK) (E:XK),Room k (A.deeper (envOfC qual (defScope st) s.heap.objs.size f cdv))→sp vs H Q E →
   ∃ t,PSs (cxOf (CXe P w) P w K mg base N qual (defScope st) f cdv A outer s H E) (defBody st) t∧t { nx:=fun _ H'=>Q .non H',rt:=Q } (start N vs) H):FnOk P w K mg base (CXe P w) (k+1) f fd ps sp:=by
 obtain ⟨oc,od,kV,doc,pm,an,cdv,ct,osl,rfl,lk,hcd⟩:=F.ex
 exact fn_of lk hcd S len fun A outer s H vs Q E hr hsp=>hbody cdv A outer s H vs Q E hr hsp
theorem PS.nox {X:Cx}{st:Stmt}{t:TS}(h:PS X.nox st t):PS X st t:=fun pins s σ H D I hw =>
 wpAny_mono (h pins s σ H D (I.wish _) hw) (fun _ _ q=>q.unwish) fun _ _ z=>False.elim z
structure ExcC (K:PySem.W.Frag)(mg:Str→Option Value)(x:Str)(C:Addr):Prop where
 mg:mg x=some (.ref C)
 own:∃ (Bn newId initId:String) (bm:List Value),ExcBaseFacts Bn newId initId bm∧PySem.W.excIn K C bm newId=true
theorem ExcC.cls {K:PySem.W.Frag}{mg:Str→Option Value}{x:Str}{C:Addr}{h:Heap}(O:ExcC K mg x C)(kin:K.In h):∃ (Bn newId initId:String) (bm:List Value),ExcBaseFacts Bn newId initId bm∧OwnCls x C bm newId mg h:=by
 obtain ⟨Bn,newId,initId,bm,F,q⟩:=O.own
 refine ⟨Bn,newId,initId,bm,F,O.mg,?_⟩
 unfold PySem.W.excIn at q
 split at q
 ·rename_i dd cd sl ho
  split at q
  ·rename_i C' tl k0 k1 k2 k3 n k5 hm hs
   simp only [Bool.and_eq_true,beq_iff_eq,Bool.not_eq_true'] at q
   obtain ⟨⟨⟨⟨⟨rfl,rfl⟩,hdel⟩,ht⟩,hok⟩,hni⟩:=q
   obtain ⟨nm,bs,mro,ns,qn,hd,sn,sub,ab,col,del⟩:=cd
   dsimp only at hm hdel hok hni
   subst hm hdel
   have hsl:sl=#[k0,k1,k2,k3,some (.builtin n),k5]:=by
    obtain ⟨l⟩:=sl
    simp only at hs
    rw [hs]
   subst hsl
   exact ⟨tl,ns,nm,qn,bs,hd,sn,sub,ab,col,dd,k0,k1,k2,k3,k5,_,kin _ _ ho,.of_isNs (PySem.W.isNs_of_in kin hok),PySem.W.nsMap_none_of_in kin hok hni,PySem.W.tail_of_in kin ht⟩
  ·cases q
 ·cases q
def tRaise (C:Addr)(E:XK)(t:TA):TS:=fun _ σ H=>t σ H fun vs H1=>vs.length≤sizeLine∧E (.ref C) none H1
theorem ps_raise {X:Cx}{E:XK}{x:Str}{C:Addr}{np cpos pos:Pos}{e:Expr}{es:List Expr}{t:TA}(hX:XeOut X E)(O:ExcC X.K X.mg x C)(hc:X.calm=true)(hg:Gl X x)(ha:PA X (e::es) t)(hdb:(x == ("__debug__":Str))=false:=by decide)
  (he:starEach (e::es) X.env=(false,eval e X.env)::starEach es X.env:=by rfl) (hpl:(backTo cpos (starEach es X.env)).any (·.1)=false:=by rfl):PS X (.Raise (some (.Call (.Name x np) (e::es) [] cpos)) none pos) (tRaise C E t):=by
 intro pins s σ H D I h
 obtain ⟨Bn,newId,initId,bm,FB,oc⟩:=O.cls I.ok.mod.kin
 obtain ⟨tl,N,nm,q,bs,hdct,sn,sub,ab,col,dd,k0,k1,k2,k3,k5,mN,hC,hN,hni,T⟩:=oc.obj
 refine wpAny_Raise_call_subT (C:=C) (nm:=nm) (q:=q) (N:=N) (bs:=bs) (bm:=tl) (hdct:=hdct) (sn:=sn) (sub:=sub) (ab:=ab) (col:=col) (dd:=dd) (k0:=k0) (k1:=k1) (k2:=k2) (k3:=k3) (k5:=k5)
  FB (mN:=mN) (T.hasType FB.hasBase) (I.ok.hd hc) (by rw [he]; show (false || (backTo cpos (starEach es X.env)).any (·.1))=false; rw [hpl]; rfl) hni (ld_glob I hg O.mg ⟨rfl,?_⟩ hdb)
 have a:=ha cpos pins s σ H _ I h
 rw [he] at a ⊢
 refine Calls.evalArgs_plain (wpAny_mono a (fun us s2 ⟨vs,H2,I2,r,hz,hE⟩=>?_) fun _ _ y=>y)
 refine ⟨rfl,by rw [← r.length]; exact hz,I2.bk _ _ hC,hN.keeps I2.bk,T.keeps I2.bk,fun h' e hm=>?_⟩
 obtain ⟨t0,ht0,_,_⟩:=hm.there
 have hfree:∀ b u,H2 b=some u→b≠e:=fun b u q z=>by
  obtain ⟨o,ho⟩:=obj_there (I2.hok b u q)
  rw [z,hm.new] at ho
  cases ho
 refine leave_made (s:={ s2 with heap:=h' }) hX (I2.kept (t':=s2.toks) hm.keeps) ⟨_,_,ht0,rfl,.no rfl⟩ ?_ ?_ (fun d z=>nomatch z) hE
 ·cases q:X.s₀.heap.get? e with
  | none=>rfl
  | some u =>
   obtain ⟨o,ho⟩:=I2.base.there e u q (by rw [hX.ex]; simp)
   rw [hm.new] at ho
   cases ho
 ·cases q:H2 e with
  | none=>rfl
  | some u=>exact absurd rfl (hfree e u q)
end Sv
namespace Sv
open PySem PySem.Spec PyProof.Rows L2
theorem exc_matches {K:PySem.W.Frag}{M:Model}{h:Heap}{e C C':Addr}{oe:Obj}{b:Bool}(kin:K.In h)(e1:PySem.W.kitCls K (.ref C') (.ref C)=some b)(e2:PySem.W.mroIn K C (.type "BaseException")=some true)(he:h.get? e=some oe)(hc:oe.cls=.ref C') :
  PySem.W.Looks M h (excMatches (.ref e) (.ref C)) b:=by
 obtain ⟨l1,l2,l3⟩:=PySem.W.kit_cls (M:=M) kin e1
 have l4:PySem.W.Looks M h (isSubtype (.ref C) (.type "BaseException")) true:=PySem.W.looks_mroIn kin e2
 have l5:PySem.W.Looks M h (typeOf (.ref e)) (.ref C'):=hc▸(PySem.W.Looks.ld he).andThen .now
 have l6:PySem.W.Looks M h (isInstance (.ref C) (.type "tuple")) false:=l1.andThen (PySem.W.Looks.of_pure tc_notTuple)
 have l7:PySem.W.Looks M h (isExcClass (.ref C)) true:=l2.andThen l4
 unfold excMatches
 refine PySem.W.Looks.andThen l6 ?_
 simp only [Bool.false_eq_true,if_false,pure_bind,List.forIn_cons,List.forIn_nil,bind_assoc]
 refine PySem.W.Looks.andThen l7 ?_
 simp only [Bool.not_true,Bool.false_eq_true,if_false,pure_bind]
 refine PySem.W.Looks.andThen l5 (PySem.W.Looks.andThen l3 ?_)
 cases b with
 | true=>exact PySem.W.Looks.of_pure rfl
 | false=>exact PySem.W.Looks.of_pure rfl
def cxP (X:Cx)(pn:List (Addr×Obj)):Cx:={ X with pn:=pn }
def cxH (X:Cx)(xa:Addr):Cx:={ X with A:=X.A.mark (some (.ref xa)),calm:=false,xe:=fun _ _=>False }
section
variable {X:Cx}{pins pn:List (Addr×Obj)}{σ:L2.St}{H:Hp}{s s':Shared}{xa:Addr}{D:Ends}{f:Flow}
theorem okP (ok:X.Ok):(cxP X pn).Ok:=⟨ok.mod,ok.kind,ok.glob,ok.blt,ok.above,ok.inj,ok.has,ok.cab,ok.hd,ok.frames,ok.stk,ok.exf,ok.bs,ok.bsz,ok.noex,ok.exfs,ok.funs,ok.frf⟩
theorem unP (ok:(cxP X pn).Ok):X.Ok:=⟨ok.mod,ok.kind,ok.glob,ok.blt,ok.above,ok.inj,ok.has,ok.cab,ok.hd,ok.frames,ok.stk,ok.exf,ok.bs,ok.bsz,ok.noex,ok.exfs,ok.funs,ok.frf⟩
theorem inv_toP (I:Inv X pins σ H s):Inv (cxP X (X.pn++pins)) [] σ H s:=⟨okP I.ok,I.os,I.bare,I.base,I.loc,I.cell,I.free,I.freeC,fun p hp=>I.pin p (by simpa [cxP] using hp),I.hok,I.len⟩
theorem inv_ofP (I:Inv (cxP X (X.pn++pins)) [] σ H s):Inv X pins σ H s:=⟨unP I.ok,I.os,I.bare,I.base,I.loc,I.cell,I.free,I.freeC,fun p hp=>I.pin p (by simpa [cxP] using hp),I.hok,I.len⟩
theorem sp_ofP (h:SP (cxP X (X.pn++pins)) [] D f s'):SP X pins D f s':=by
 cases f with
 | next=>obtain ⟨σ',H',I,q⟩:=h; exact ⟨σ',H',inv_ofP I,q⟩
 | brk=>obtain ⟨σ',H',I,q⟩:=h; exact ⟨σ',H',inv_ofP I,q⟩
 | cont=>obtain ⟨σ',H',I,q⟩:=h; exact ⟨σ',H',inv_ofP I,q⟩
 | ret u=>obtain ⟨v,σ',H',I,r,q⟩:=h; exact ⟨v,σ',H',inv_ofP I,r,q⟩
theorem inv_toH (I:Inv X pins σ H s):Inv (cxH X xa) pins σ H s :=
 ⟨⟨I.ok.mod,I.ok.kind,I.ok.glob,I.ok.blt,I.ok.above,I.ok.inj,I.ok.has,I.ok.cab,fun z=>absurd z Bool.false_ne_true,I.ok.frames,I.ok.stk,I.ok.exf,I.ok.bs,I.ok.bsz,I.ok.noex,I.ok.exfs,I.ok.funs,I.ok.frf⟩,I.os,I.bare,I.base,I.loc,I.cell,I.free,I.freeC,I.pin,I.hok,I.len⟩
theorem inv_ofH (ok:X.Ok)(I:Inv (cxH X xa) pins σ H s):Inv X pins σ H s:=⟨ok,I.os,I.bare,I.base,I.loc,I.cell,I.free,I.freeC,I.pin,I.hok,I.len⟩
end
def excO (xa:Addr)(cls:Value)(dd:Option Addr):HO:=.ext fun h=>∃ (vs:Array Value) (sl:Array (Option Value)),h.get? xa=some ⟨cls,dd,.fields vs,sl⟩
abbrev RX:=Value→Option Addr→L2.St→Hp→Prop
def xeT (X:Cx)(Rr:RX):Value→Shared→Prop:=fun e s'=>∃ (xa:Addr) (cls:Value) (dd:Option Addr) (σ':L2.St) (H':Hp) (B:Heap),e=.ref xa∧Inv X [] σ' H' s'∧FlyD B (fun b=>H' b=none) X.stack xa cls dd .none s'.heap ∧
 (∀ b o,s'.heap.get? b=some o→b∉frs X.stack→((∃ u,X.s₀.heap.get? b=some u)∨(∃ u,H' b=some u)∨∃ p∈X.pn,p.1=b)→B.get? b=some o)∧H' xa=none∧(∀ d,dd=some d→∃ fs,H' d=some (.xd fs))∧Rr cls dd σ' H'
section
variable {X:Cx}{pins:List (Addr×Obj)}{σ:L2.St}{H:Hp}{s s':Shared}{Rr:RX}
theorem DefCx.p {pn:List (Addr×Obj)}(d:DefCx X):DefCx (cxP X pn):=⟨d.stk,d.frm,d.ex⟩
theorem catch_on {e:Value}{pn:List (Addr×Obj)}(hD:DefCx X)(I:Inv ((cxP X pn).wish (xeT (cxP X pn) Rr)) pins σ H s)(h:CXe X.prog X.w X.stack H s (fun cls dd H'=>Rr cls dd σ H') e s'):((cxP X pn).wish (xeT (cxP X pn) Rr)).xe e s':=by
 obtain ⟨xa,cls,dd,H',rfl,F,hE⟩:=h
 have I':Inv (cxP X pn) [] σ H s:=I.unwish.pins_of fun p hp=>nomatch hp
 have J:Inv (cxP X pn) [] σ H' s':=I'.call' F.os F.un F.hok F.bare fun b z=>nomatch z
 obtain ⟨B,fl,cov⟩:=F.fly
 refine ⟨xa,cls,dd,σ,H',B,rfl,J,fl,fun b o q hb hc=>cov b o q hb ?_,F.free,F.dct,hE⟩
 rcases hc with ⟨u,e'⟩ | hc | ⟨p,hp,e'⟩
 ·exact .inl (I'.base.there b u e' (by show b∉X.ex; rw [hD.ex]; simp))
 ·exact .inr hc
 ·have:=(I'.pin p (List.mem_append_left _ hp)).1
  rw [e'] at this
  exact .inl ⟨_,this⟩
theorem track_exc {xa:Addr}{cls:Value}{dd:Option Addr}{vs:Array Value}{sl:Array (Option Value)}(J:Inv X [] σ H s)(hx:s.heap.get? xa=some ⟨cls,dd,.fields vs,sl⟩)(hf:H xa=none)(h0:X.s₀.heap.get? xa=none)(hL:xa≠X.env.locals)(hp:∀ p∈X.pn,p.1≠xa) :
  Inv X [] σ (upd H xa (excO xa cls dd)) s:=by
 have ne:∀ b,b≠xa→upd H xa (excO xa cls dd) b=H b:=fun b h=>upd_ne h
 have nt:∀ b u,H b=some u→b≠xa:=fun b u e z=>by rw [z,hf] at e; cases e
 refine ⟨J.ok,J.os,J.bare,⟨J.base.keep,J.base.slot,fun b o e n hx'=>?_,J.base.there,fun b xs e=>?_,fun b o u e=>?_,fun b ps e=>?_⟩,J.loc,J.cell,?_,fun x c e=>?_,fun p hp'=>?_,fun b u e=>?_,J.len⟩
 ·rw [ne b fun z=>by rw [z,h0] at e; cases e]
  exact J.base.free b o e n hx'
 ·have q:=J.base.tups b xs e
  rw [ne b (nt b _ q)]
  exact q
 ·have q:=J.base.frzs b o u e
  rw [ne b (nt b _ q)]
  exact q
 ·obtain ⟨more,q⟩:=J.base.tbls b ps e
  exact ⟨more,by rw [ne b (nt b _ q)]; exact q⟩
 ·rw [ne _ (Ne.symm hL)]
  exact J.free
 ·rw [ne c fun z=>?_]
  ·exact J.freeC x c e
  ·obtain ⟨v,o,ho,hd⟩:=J.cell x c e
   rw [z,hx] at ho
   cases ho
   cases hd
 ·obtain ⟨e,n,n1,n2,d⟩:=J.pin p hp'
  have hp2:p∈X.pn:=by simpa using hp'
  exact ⟨e,by rw [ne _ (hp p hp2)]; exact n,n1,n2,d⟩
 ·by_cases hb:b=xa
  ·subst hb
   rw [upd_same] at e
   cases e
   exact ⟨⟨vs,sl,hx⟩,⟨_,hx⟩,fun h1 h2 ⟨vs',sl',q⟩ k=>⟨vs',sl',k _ q⟩⟩
  ·rw [ne b hb] at e
   exact (J.hok b u e).stay (fun _ _ _ q=>q) (fun c q=>by rw [ne c (nt c _ q)]; exact q) fun c xs q=>by rw [ne c (nt c _ q)]; exact q
theorem unbind_ok {M:Model}{A:Around}{E:Value→Shared→Prop}{i:Nat}{n:Str}{v:V}{Q:Unit→Shared→Prop}(I:Inv X pins σ H s)(hN:X.N.Nodup)(hi:X.N[i]?=some n)(hk:X.env.kindOf n=some .local)(hv:σ[i]?=some (some v))
  (k:∀ s',Inv X pins (σ.set i none) H s'→Q () s'):wpAny M A (unbindName X.env n) Q E s:=by
 obtain ⟨m,hn,hl⟩:=id I.loc
 obtain ⟨u,r,l⟩:=hl i n v hi hv (.inl hk)
 have hm:m n=some u:=by
  rcases l with ⟨_,e⟩ | ⟨k',_⟩
  ·exact e
  ·rcases k' with z | z <;> (rw [hk] at z; cases z)
 have hcls:(X.env.scope.kind == .class || (X.env.scope.kind == .module && X.env.locals != X.env.globals))=false:=by rw [I.ok.kind]; rfl
 have iσ:i<σ.length:=(List.getElem?_eq_some_iff.mp hv).1
 refine wpAny_unbindName_local hk hn hm hcls fun h' u' hn' hs=>k _ ?_
 have low:∀ b o,X.s₀.heap.get? b=some o→b≠X.env.locals:=fun b o e=>Nat.ne_of_lt (Nat.lt_of_lt_of_le (Heap.lt_size e) I.ok.above)
 obtain ⟨oL,_,_,hoL,_⟩:=id hn
 refine ⟨I.ok,I.os,I.bare,⟨fun b o e n' hb hx=>(hs.2 b (low b o e)).trans (I.base.keep b o e n' hb hx),fun b o e n' hb hx=>?_,I.base.free,fun b o e hx=>?_,I.base.tups,I.base.frzs,I.base.tbls⟩,⟨_,hn',fun j y v' e1 e2 e3=>?_⟩,fun y c e=>?_,I.free,I.freeC,fun p hp=>?_,fun b ob e=>?_,?_⟩
 ·obtain ⟨sl,e1⟩:=I.base.slot b o e n' hb hx
  exact ⟨sl,(hs.2 b (low b o e)).trans e1⟩
 ·obtain ⟨o',e1⟩:=I.base.there b o e hx
  exact ⟨o',(hs.2 b (low b o e)).trans e1⟩
 ·have hji:j≠i:=fun z=>by
   subst z
   rw [List.getElem?_set_self iσ] at e2
   cases e2
  rw [List.getElem?_set_ne (Ne.symm hji)] at e2
  obtain ⟨u2,r2,l2⟩:=hl j y v' e1 e2 e3
  refine ⟨u2,r2,?_⟩
  rcases l2 with ⟨k2,e⟩ | ⟨k2,c,e,z⟩
  ·refine .inl ⟨k2,?_⟩
   have hy:y≠n:=fun q=>hji (nodup_ix hN e1 (q▸hi))
   simp [hy,e]
  ·exact .inr ⟨k2,c,e,z.sameBut hs (I.cne y c e)⟩
 ·obtain ⟨w',z⟩:=I.cell y c e
  exact ⟨w',z.sameBut hs (I.cne y c e)⟩
 ·obtain ⟨e,n1,n2,n3,d⟩:=I.pin p hp
  exact ⟨(hs.2 p.1 n2).trans e,n1,n2,n3,d⟩
 ·refine (I.hok b ob e).stay (fun c w' hc q=>(hs.2 c ?_).trans q) (fun _ q=>q) fun _ _ q=>q
  rintro rfl
  rcases hc with z | z
  ·rw [← z,I.free] at e; cases e
  ·rw [I.free] at z; cases z
 ·rw [List.length_set]
  exact I.len
end
def asEnds (i:Nat)(D:Ends):Ends:={ nx:=fun σ H=>D.nx (σ.set i none) H,rt:=D.rt,bk:=fun σ H=>D.bk (σ.set i none) H,ct:=fun σ H=>D.ct (σ.set i none) H }
def tTryAs (Rr:RX)(i:Nat)(tb ts:TS):TS:=fun D σ H=>tb D σ H∧∀ cls dd σ' H' xa,Rr cls dd σ' H'→H' xa=none→ts (asEnds i D) (σ'.set i (some (.ref xa))) (upd H' xa (excO xa cls dd))
section
variable {X:Cx}{body suite:List Stmt}{b₀:Stmt}{x n:Str}{C:Addr}{np hpos pos:Pos}{tb ts:TS}{i:Nat}
theorem to_suite {Rr:RX}{pins:List (Addr×Obj)}{e:Value}{s1:Shared}{nm:Option Str}{Q:Flow→Shared→Prop}{E:Value→Shared→Prop}(hD:DefCx X)(hg:Gl X x)(hmg:X.mg x=some (.ref C))
  (hm:∀ cls dd σ H,Rr cls dd σ H→∃ C',cls=.ref C'∧PySem.W.kitCls X.K (.ref C') (.ref C)=some true) (hC:PySem.W.mroIn X.K C (.type "BaseException")=some true) (hdb:(x == ("__debug__":Str))=false)
  (q:xeT (cxP X (X.pn++pins)) Rr e s1)
  (k:∀ (xa:Addr) (cls:Value) (dd:Option Addr) (σ':L2.St) (H':Hp) (B h5:Heap),e=.ref xa→Rr cls dd σ' H'→H' xa=none→FlyD B (fun b=>H' b=none) (X.env::X.outer) xa cls dd .none h5 →
   (∀ h6,FlyD B (fun b=>H' b=none) (X.env::X.outer) xa cls dd .none h6→h5.UpToSlots h6→Inv (cxP X (X.pn++pins)) [] σ' (upd H' xa (excO xa cls dd)) { s1 with heap:=h6 }) →
   codeAny (model X.prog X.w) (X.A.mark (some (.ref xa))) (.handlers (.ref xa) [.ExceptHandler none nm (b₀::suite) hpos] X.env) (fun r s₂=>match r with
    | .ok f=>(match nm with | none=>Q f s₂ | some n=>wpAny (model X.prog X.w) X.A (do bindName X.env n .none; unbindBehindTheSuite X.env n hpos) (fun _ s₃=>Q f s₃) E s₂)
    | .error y=>cameBackBy (model X.prog X.w) X.A X.env E y s₂) { s1 with heap:=h5 }) :
  wpAny (model X.prog X.w) X.A (noteFrame e X.env) (fun _ s2=>wpAny (model X.prog X.w) X.A (setFlight e none) (fun _ s3=>wpAny (model X.prog X.w) X.A (handleBy e X.env [.ExceptHandler (some (.Name x np)) nm (b₀::suite) hpos]) Q E s3) E s2) E s1:=by
 obtain ⟨xa,cls,dd,σ',H',B,rfl,J,fl,cov,hf,dct,r⟩:=q
 have hfr:X.A.frames=some (X.env::X.outer):=by rw [← hD.stk]; exact J.ok.frames
 have fl':FlyD B (fun b=>H' b=none) (X.env::X.outer) xa cls dd .none s1.heap:=by
  rw [← hD.stk]
  exact fl
 refine lands_d hfr fl'.fr hD.frm fl'.st fl'.ne (.inr fl'.tr) fun h5 f5 up5=>?_
 have land:∀ h6,FlyD B (fun b=>H' b=none) (X.env::X.outer) xa cls dd .none h6→s1.heap.UpToSlots h6→Inv (cxP X (X.pn++pins)) [] σ' H' { s1 with heap:=h6 }:=fun h6 f6 up6=>land_ok hD.p J f6.st up6 cov
 obtain ⟨C',rfl,hk⟩:=hm cls dd σ' H' r
 have J5:=land h5 f5 up5
 refine wpAny_handleBy_cons (codeAny_handlers_test ?_) (by intro z; cases z)
 refine ld_glob (X:=cxH (cxP X (X.pn++pins)) xa) (inv_toH J5) hg hmg ?_ hdb
 obtain ⟨sl5,vs5,_,_,_,he5,_⟩:=id f5.tr
 refine exc_matches (K:=X.K) J5.kIn hk hC he5 rfl _ _ _ _ (fun _ _ z=>z) ?_
 refine k xa (.ref C') dd σ' H' B h5 rfl r hf f5 fun h6 f6 up6=>?_
 have J6:=land h6 f6 (up5.trans up6)
 obtain ⟨sl6,vs6,_,_,_,he6,_⟩:=id f6.tr
 have nfr:xa∉frs (X.env::X.outer):=fun z=>by
  obtain ⟨_,o,ho,nf⟩:=f6.fr.mem z
  rw [he6] at ho
  cases ho
  exact nf _ rfl
 have no:∀ {P:Prop},((∃ u,X.s₀.heap.get? xa=some u)∨(∃ u,H' xa=some u)∨∃ p∈X.pn++pins,p.1=xa)→P:=fun {P} z=>by
  obtain ⟨sl1,vs1,_,_,_,he1,_⟩:=id fl'.tr
  have c:=cov xa _ he1 (by show xa∉frs X.stack; rw [hD.stk]; exact nfr) z
  rw [fl'.ne] at c
  cases c
 refine track_exc J6 he6 hf ?_ (fun z=>nfr ((mem_frs hD.frm).mpr (.inl z))) fun p hp z=>no (.inr (.inr ⟨p,hp,z⟩))
 cases z:X.s₀.heap.get? xa with
 | none=>exact z
 | some u=>exact no (.inl ⟨u,z⟩)
theorem ps_tryAs {Rr:RX}(hD:DefCx X)(hg:Gl X x)(hmg:X.mg x=some (.ref C))(hm:∀ cls dd σ H,Rr cls dd σ H→∃ C',cls=.ref C'∧PySem.W.kitCls X.K (.ref C') (.ref C)=some true)(hC:PySem.W.mroIn X.K C (.type "BaseException")=some true)
  (hN:X.N.Nodup) (hi:X.N[i]?=some n) (hk:X.env.kindOf n=some .local) (hb:∀ pn,PSs ((cxP X pn).wish (xeT (cxP X pn) Rr)) body tb) (hs:∀ pn xa,PSs (cxH (cxP X pn) xa) (b₀::suite) ts) (hdb:(x == ("__debug__":Str))=false:=by decide) :
  PS X (.Try body [.ExceptHandler (some (.Name x np)) (some n) (b₀::suite) hpos] [] [] pos) (tTryAs Rr i tb ts):=by
 intro pins s σ H D I h
 obtain ⟨h1,h2⟩:=h
 refine wpAny_Try_except (wpAny_mono (hb (X.pn++pins) [] s σ H D ((inv_toP I).wish _) h1) (fun f s1 q=>?_) (fun e s1 q=>?_))
 ·have q':SP X pins D f s1:=sp_ofP q.unwish
  cases f with
  | next=>exact wpAny_execs_nil q'
  | brk=>exact q'
  | cont=>exact q'
  | ret u=>exact q'
 ·refine to_suite (nm:=some n) hD hg hmg hm hC hdb q fun xa cls dd σ' H' B h5 ee r hf f5 land=>?_
  subst ee
  refine codeAny_handlers_suite_as (flight_d (s:={ s1 with heap:=h5 }) f5 fun h6 f6 up6=>?_)
  have J7:=land h6 f6 up6
  refine store_ok (X:=cxH (cxP X (X.pn++pins)) xa) (v:=.ref xa) (inv_toH J7) hN hi (.inl hk) rfl (fun s7 I7=>?_) (.inr hk)
  refine wpAny_mono (hs (X.pn++pins) xa [] _ _ _ (asEnds i D) I7 (h2 cls dd σ' H' xa r hf)) (fun f s8 z=>?_) (fun _ _ z=>z.elim)
  have go:∀ {σ8:L2.St} {H8:Hp},Inv (cxH (cxP X (X.pn++pins)) xa) [] σ8 H8 s8→(∀ s9,Inv X pins (σ8.set i none) H8 s9→SP X pins D f s9) →
    wpAny (model X.prog X.w) X.A (do bindName X.env n .none; unbindBehindTheSuite X.env n hpos) (fun _ s9=>SP X pins D f s9) X.xe s8:=fun {σ8 H8} I8 kk=>by
   have I8':=inv_ofP (inv_ofH J7.ok I8)
   have il:i<σ8.length:=by rw [I8'.len]; exact (List.getElem?_eq_some_iff.mp hi).1
   refine wpAny_bind (wpAny_bindName (store_ok (v:=.non) I8' hN hi (.inl hk) rfl (fun s9 I9=>?_) (.inr hk)))
   unfold unbindBehindTheSuite
   refine wpAny_onRaise (unbind_ok I9 hN hi hk (List.getElem?_set_self il) fun s10 I10=>kk s10 ?_)
   rw [List.set_set] at I10
   exact I10
  cases f with
  | next =>
   obtain ⟨σ8,H8,I8,q8⟩:=z
   exact go I8 fun s9 I9=>⟨_,H8,I9,q8⟩
  | brk =>
   obtain ⟨σ8,H8,I8,q8⟩:=z
   exact go I8 fun s9 I9=>⟨_,H8,I9,q8⟩
  | cont =>
   obtain ⟨σ8,H8,I8,q8⟩:=z
   exact go I8 fun s9 I9=>⟨_,H8,I9,q8⟩
  | ret u =>
   obtain ⟨v,σ8,H8,I8,r8,q8⟩:=z
   exact go I8 fun s9 I9=>⟨v,_,H8,I9,r8,q8⟩
end
structure FnX (P:Program)(w:World)(K:PySem.W.Frag)(mg:Str→Option Value)(base:Heap)(x:Str)(k:Nat)(ps:List Str)(sp:Sp):Prop where
 ex:∃ (f:Addr) (fd:FuncData),FnOk P w K mg base (CXe P w) k f fd ps sp∧mg x=some (.ref f)∧PySem.W.keepIn K (.ref f)=true∧Binds K fd ps []
theorem Def.fnX {P:Program}{w:World}{K:PySem.W.Frag}{mg:Str→Option Value}{base:Heap}{x:Str}{st:Stmt}{k:Nat}{ps:List Str}{sp:Sp}(D:Def K mg x st)
  (b:∀ (kV doc pm:Value) (an:Option Addr) (cdv ct:Value) (us:List Value),us.length=ps.length→bindArgs (PySem.W.fnOf x x (defArgs st) (defBody st) (defScope st) .none kV doc pm an cdv ct) ⟨us,[]⟩=pure (ps.zip us))
  (ok:∀ (f:Addr) (fd:FuncData),Fun K x x st f fd→FnOk P w K mg base (CXe P w) k f fd ps sp):FnX P w K mg base x k ps sp:=by
 obtain ⟨f,fd,F,m⟩:=D.ex
 exact ⟨⟨f,fd,ok f fd F,m,F.kp,F.binds b⟩⟩
section
variable {X:Cx}{x:Str}{k j:Nat}{ps:List Str}{sp:Sp}{e:Expr}{es:List Expr}{t:TA}{p pos:Pos}
theorem pe_fnX {E:XK}(F:FnX X.prog X.w X.K X.mg X.base x k ps sp)(hX:XeOut X E)(hr:Room j X.A)(hk:k≤j)(hg:Gl X x)(ha:PA X (e::es) t)(hdb:(x == ("__debug__":Str))=false:=by decide)
  (he:starEach (e::es) X.env=(false,eval e X.env)::starEach es X.env:=by rfl) (hpl:(backTo pos (starEach es X.env)).any (·.1)=false:=by rfl):PE X (.Call (.Name x p) (e::es) [] pos) (tCall sp [] E t):=by
 obtain ⟨f,fd,G,m,kp,b⟩:=F.ex
 exact pe_call G (hr.mono hk) hg m kp b .nil (pass_on hX) ha hdb he hpl
def tCallT (Rr:RX)(sp:Sp)(t:TA):TE:=fun σ H Q=>t σ H fun vs H1=>sp vs H1 Q fun cls dd H'=>Rr cls dd σ H'
theorem pe_fnT {Rr:RX}{pn:List (Addr×Obj)}(F:FnX X.prog X.w X.K X.mg X.base x k ps sp)(hD:DefCx X)(hr:Room j X.A)(hk:k≤j)(hg:Gl X x)(ha:PA ((cxP X pn).wish (xeT (cxP X pn) Rr)) (e::es) t)(hdb:(x == ("__debug__":Str))=false:=by decide)
  (he:starEach (e::es) X.env=(false,eval e X.env)::starEach es X.env:=by rfl) (hpl:(backTo pos (starEach es X.env)).any (·.1)=false:=by rfl) :
  PE ((cxP X pn).wish (xeT (cxP X pn) Rr)) (.Call (.Name x p) (e::es) [] pos) (tCallT Rr sp t):=by
 obtain ⟨f,fd,G,m,kp,b⟩:=F.ex
 intro pins s σ H Q I h
 refine wpAny_Call_Name_kw (ld_glob I hg m ?_ hdb)
 refine PySem.W.callWith_K (h₀:=X.base) I.ok.mod.kin kp (thn (ha pos pins s σ H _ I h) fun us s1 ⟨vs,H1,I1,r,q⟩=>⟨I1.kIn,?_⟩) he hpl
 have r2:Vals (vs++[]) (us++[]):=r.append .nil
 rw [List.append_nil] at r2
 have hl:(us++[]).length=ps.length:=by rw [← r2.length]; exact G.len _ _ _ _ q
 refine wpAny_call (codeAny_mono (G.run X.A X.stack s1 H1 ⟨us,[]⟩ (us++[]) vs Q _ (hr.mono hk) I1.env0 (b s1 us I1.kIn hl) r2 q) fun r' s' hq=>?_)
 cases r' with
 | error y=>exact catch_on hD I1 hq
 | ok fl =>
  cases fl with
  | ret u=>exact I1.after hq
  | next=>exact False.elim hq
  | brk=>exact False.elim hq
  | cont=>exact False.elim hq
end
section
variable {prog:Program}{w:World}{A:Around}{E:Value→Shared→Prop}{K:PySem.W.Frag}{x D:Addr}{ox:Obj}{odo:Option Obj}{name:Str}{s:Shared}
theorem ga_bind (self:Value):bindSpecial (.builtin "BaseException.__getattribute__") self=pure (.builtin "BaseException.__getattribute__",[self]):=F.excAttr_ValueError.ga.bind self
theorem ga_body {g a:Value}{tk:Tok}{Q:Fin→Shared→Prop}(X:K.In s.heap)(I:PySem.W.InstAt s.heap x ox D odo)(hf:PySem.W.findObj K D odo name=some (.bind g a))
  (h:wpAny (model prog w) A (call g [a,.ref x,.ref D]) (fun v s'=>Q (.done (.ret v)) s') E s) :
  wpAny (model prog w) A (Builtin.«object.__getattribute__» ⟨[.ref x,.str name tk],[]⟩) Q E s:=by
 obtain ⟨hh,gg,d,t,os⟩:=s
 have L0:=I.type (M:=model prog w)
 have L1:=PySem.W.looks_find (M:=model prog w) X I hf
 unfold Builtin.«object.__getattribute__»
 refine wpAny_bind (wpAny_pure (wpAny_bind (wpAny_pure (wpAny_bind (L0.at (wpAny_bind (L1.at ?_)))))))
 show wpAny _ _ (holding [a] (call g [a,.ref x,.ref D]) >>= ret) _ _ _
 exact wpAny_bind (wpAny_holding (wpAny_mono h (fun v s' z=>wpAny_pure z) fun _ _ z=>z))
theorem ga_check {M:Model}{nameV:Value}{Q:Unit→Shared→Prop}(X:K.In s.heap)(I:PySem.W.InstAt s.heap x ox D odo)(hb:PySem.W.mroIn K D (.type "BaseException")=some true)(hq:Q () s) :
  wpAny M A (checkBuiltinCall "BaseException.__getattribute__" ⟨[.ref x,nameV],[]⟩) Q E s:=by
 obtain ⟨hh,gg,d,t,os⟩:=s
 have hk:builtinKind "BaseException.__getattribute__"=some .slot:=by decide +kernel
 have hsplit:splitId "BaseException.__getattribute__"=some ("BaseException","__getattribute__"):=by decide +kernel
 have L0:=I.type (M:=M)
 have L1:=PySem.W.looks_mroIn (M:=M) X hb
 have ha:=F.args_bexc_ga (.ref x) nameV
 simp only [checkBuiltinCall,hk,hsplit]
 refine wpAny_bind ?_
 unfold isInstance
 refine wpAny_bind (L0.at (L1.at ?_))
 repeat (first | assumption | wp_step)
end
structure ExcI (K:PySem.W.Frag)(D:Addr):Prop where
 hg:PySem.W.findIn K (.ref D) "__getattribute__"=some (some (.builtin "BaseException.__getattribute__"))
 hgn:PySem.W.findIn K (.ref D) "__getattr__"=some none
 hd:PySem.W.hasDictIn K D=true
 ha:PySem.W.findIn K (.ref D) "__class__"=some (some (.builtin "object.__class__"))
 hn:PySem.W.specialIn K (.builtin "object.__class__") "__get__"=some (some (.builtin "getset_descriptor.__get__"))
 ht:PySem.W.takesIn K (.builtin "object.__class__")=some true
 hb:PySem.W.mroIn K D (.type "BaseException")=some true
 hm:PySem.W.mroIn K D (.type "object")=some true
theorem kitCls_ref {K:PySem.W.Frag}{t:Value}{C:Addr}{b:Bool}(h1:PySem.W.hasDictIn K C=true)(h2:PySem.W.typeIn K (.ref C)=some (.type "type"))(h3:PySem.W.subIn K t (.ref C)=some b):PySem.W.kitCls K t (.ref C)=some b:=by
 obtain ⟨cd,hc,_⟩:=PySem.W.any_some h1
 unfold PySem.W.kitCls
 simp only [hc,h2,h3,Option.isSome_some,beq_self_eq_true,Bool.and_self,if_true]
def clsV:V→Value
 | .ty T=>.type T
 | .ref C=>.ref C
 | _=>.none
theorem bo_ValueError:bootBuiltins "ValueError"=some (.type "ValueError"):=by decide +kernel
def jn:List TE→Str→TE
 | [],acc=>fun _ H Q=>Q (.str acc) H
 | t::r,acc=>fun σ H Q=>t σ H fun x H1=>∃ y,x=.str y∧(acc++y).length≤sizeLine∧jn r (acc++y) σ H1 Q
def PJ (X:Cx)(es:List Expr)(ts:List TE):Prop:=∀ (acc:Str) (pins:List (Addr×Obj)) (s:Shared) (σ:L2.St) (H:Hp) (Q:VK),Inv X pins σ H s→acc.length≤sizeLine→jn ts acc σ H Q→wpAny (model X.prog X.w) X.A (joinParts acc (evalEach es X.env)) (EP X pins σ Q) X.xe s
section
variable {X:Cx}{e v₁ v₂:Expr}{es rest:List Expr}{t:TE}{ts:List TE}{pos:Pos}
theorem pj_nil:PJ X [] []:=fun acc pins s σ H Q I hz h=>joinParts_nil ⟨.str acc,H,I.tok _,⟨_,rfl⟩,h⟩ hz
theorem pj_cons (he:PE X e t)(hr:PJ X es ts)(hs:evalEach (e::es) X.env=eval e X.env::evalEach es X.env:=by rfl):PJ X (e::es) (t::ts):=by
 intro acc pins s σ H Q I hz h
 rw [hs]
 refine joinParts_cons (thn (he pins s σ H _ I h) fun u s1 ⟨x,H1,I1,r1,y,ex,hz1,q⟩=>?_)
 subst ex
 obtain ⟨tk,rfl⟩:=r1
 exact ⟨hz1,hr (acc++y) pins s1 σ H1 Q I1 hz1 q⟩
theorem pe_fstr (h:PJ X (v₁::v₂::rest) ts):PE X (.JoinedStr (v₁::v₂::rest) pos) (jn ts Str.empty):=fun pins s σ H Q I q=>JoinedStr_many (h Str.empty pins s σ H Q I (Nat.zero_le _) q)
def tFmt (te:TE):TE:=fun σ H Q=>te σ H fun x H1=>(∃ y,x=.str y∧y.length≤sizeLine∧Q (.str y) H1)∨∃ i:Int,x=.int i∧i.natAbs.log2<1920∧Q (.str (toString i)) H1
theorem pe_fmt (he:PE X e t):PE X (.FormattedValue e (-1) none pos) (tFmt t):=by
 intro pins s σ H Q I h
 refine FormattedValue_plain (thn (he pins s σ H _ I h) fun u s1 ⟨x,H1,I1,r1,q⟩=>?_)
 rcases q with ⟨y,rfl,hz,q⟩ | ⟨i,rfl,hl,q⟩
 ·obtain ⟨tk,rfl⟩:=r1
  exact PyProof.Rows.formatField_str (fun t' tk'=>⟨.str y,H1,I1.tok _,⟨t',rfl⟩,q⟩) hz
 ·obtain ⟨tk,rfl⟩:=r1
  exact wpAny_formatField_int hl ⟨.str (toString i),H1,I1.tok _,⟨_,rfl⟩,q⟩
def tRep (te:TE):TE:=fun σ H Q=>te σ H fun x H1=>∃ y,x=.str y∧(reprText y).length≤sizeLine∧Q (.str (reprText y)) H1
theorem pe_rep (he:PE X e t):PE X (.FormattedValue e 114 none pos) (tRep t):=by
 intro pins s σ H Q I h
 refine wpAny_FormattedValue_repr (thn (he pins s σ H _ I h) fun u s1 ⟨x,H1,I1,r1,y,ex,hz,q⟩=>?_)
 subst ex
 obtain ⟨tk,rfl⟩:=r1
 refine pyReprObj_str (PyProof.Rows.formatField_str (fun t' tk'=>?_) hz) hz
 exact ⟨.str (reprText y),H1,(I1.tok _).tok _,⟨t',rfl⟩,q⟩
theorem jn0_ {acc:Str}{σ:L2.St}{H:Hp}{Q:VK}:jn [] acc σ H Q=Q (.str acc) H:=rfl
def JnR (r:List TE)(acc:Str)(σ:L2.St)(Q:VK)(x:V)(H1:Hp):Prop:=∃ y,x=.str y∧(acc++y).length≤sizeLine∧jn r (acc++y) σ H1 Q
theorem jnC_ {acc:Str}{σ:L2.St}{H:Hp}{Q:VK}:jn (t::ts) acc σ H Q=t σ H fun x H1=>JnR ts acc σ Q x H1:=rfl
theorem JnR.go {r:List TE}{acc y:Str}{σ:L2.St}{Q:VK}{H1:Hp}(h:(acc++y).length≤10000000)(q:jn r (acc++y) σ H1 Q):JnR r acc σ Q (.str y) H1:=⟨y,rfl,Nat.le_trans h (by decide),q⟩
def RepR (Q:VK)(x:V)(H1:Hp):Prop:=∃ y,x=.str y∧(reprText y).length≤sizeLine∧Q (.str (reprText y)) H1
theorem rep_ {te:TE}{σ:L2.St}{H:Hp}{Q:VK}:tRep te σ H Q=te σ H fun x H1=>RepR Q x H1:=rfl
theorem RepR.go {y:Str}{Q:VK}{H1:Hp}(h:(reprText y).length≤10000000)(q:Q (.str (reprText y)) H1):RepR Q (.str y) H1:=⟨y,rfl,Nat.le_trans h (by decide),q⟩
def RaR (C:Addr)(E:XK)(vs:List V)(H1:Hp):Prop:=vs.length≤sizeLine∧E (.ref C) none H1
theorem raise_ {C:Addr}{E:XK}{ta:TA}{D:Ends}{σ:L2.St}{H:Hp}:tRaise C E ta D σ H=ta σ H fun vs H1=>RaR C E vs H1:=rfl
theorem RaR.go {C:Addr}{E:XK}{vs:List V}{H1:Hp}(h:vs.length≤1000)(q:E (.ref C) none H1):RaR C E vs H1:=⟨Nat.le_of_lt (small1000 h),q⟩
theorem callT_ {Rr:RX}{sp:Sp}{ta:TA}{σ:L2.St}{H:Hp}{Q:VK}:tCallT Rr sp ta σ H Q=ta σ H fun vs H1=>sp vs H1 Q fun cls dd H'=>Rr cls dd σ H':=rfl
theorem asnx_ {i:Nat}{D:Ends}{σ:L2.St}{H:Hp}:(asEnds i D).nx σ H=D.nx (σ.set i none) H:=rfl
theorem asrt_ {i:Nat}{D:Ends}:(asEnds i D).rt=D.rt:=rfl
theorem BrO.ndec {c:Prop} [Decidable c]{u:TT}{σ:L2.St}{H:Hp}{Q:Bool→Hp→Prop}(h1:¬ c→Q true H)(h2:c→u σ H Q):BrO (!decide c) u σ H Q:=by
 by_cases z:c
 ·rw [decide_eq_true z]; exact h2 z
 ·rw [decide_eq_false z]; exact h1 z
end
end Sv
namespace Sv
open PySem PySem.Spec PyProof.Rows L2
section
variable {X:Cx}
def steps (c hi:Int):Nat:=(Builtin.Range.rangeSize 0 hi c).toNat
theorem size_nn {c hi:Int}(hc:0<c):0≤Builtin.Range.rangeSize 0 hi c:=by
 unfold Builtin.Range.rangeSize
 rw [if_pos hc]
 split
 ·have:=Int.ediv_nonneg (show 0≤hi - 0 - 1 by omega) (Int.le_of_lt hc)
  omega
 ·omega
theorem size_le {c hi:Int}(hc:0<c)(h0:0≤hi):Builtin.Range.rangeSize 0 hi c≤hi+1:=by
 unfold Builtin.Range.rangeSize
 rw [if_pos hc]
 split
 ·have:=Int.ediv_le_self (a:=hi - 0 - 1) c (by omega)
  omega
 ·omega
theorem small_steps {c hi:Int}(h0:0≤hi)(h1:hi<1000000)(hc:0<c)(hc':c<1000):Builtin.Range.small 0 hi c=true:=by
 have a:=size_nn (hi:=hi) hc
 have b:=size_le hc h0
 have ee:Builtin.Range.rangeSize 0 hi c * c≤1000001 * 1000:=Int.mul_le_mul (by omega) (by omega) (by omega) (by decide)
 have ef:0≤Builtin.Range.rangeSize 0 hi c * c:=Int.mul_nonneg a (by omega)
 unfold Builtin.Range.small
 simp only [Builtin.Range.rangeFitsLong,Bool.and_eq_true,Bool.or_eq_true,decide_eq_true_eq,beq_iff_eq,hc,if_true,gt_iff_lt]
 generalize Builtin.Range.rangeSize 0 hi c=r at *
 omega
def iRngS (c:Int)(ta:TA):TI:=fun σ H R=>ta σ H fun vs H1=>∃ j:Int,vs=[.int 0,.int j,.int c]∧0≤j∧j<1000000∧R (Its 0 c (steps c j)) H1
theorem pi_rangeS {tg a b d:Expr}{ta:TA}{p pos:Pos}{c:Int}(hc:0<c)(hc':c<1000)(hg:Gl X "range")(hm:X.mg "range"=none)(ha:PA X [a,b,d] ta)
  (hs:starEach [a,b,d] X.env=[(false,eval a X.env),(false,eval b X.env),(false,eval d X.env)]:=by rfl)
  (hs2:starEach [b,d] X.env=[(false,eval b X.env),(false,eval d X.env)]:=by rfl):PI X tg (.Call (.Name "range" p) [a,b,d] [] pos) (iRngS c ta):=by
 intro pins s σ H R I h
 refine Call_ (ld_blt I hg hm boot_range (PyProof.Rows.callWith_type1 (thn (ha pos pins s σ H _ I h) fun us s1 ⟨vs,H1,I1,r1,q1⟩=>?_) (by rw [hs,hs2]) (by rw [hs2]; rfl)))
 obtain ⟨j,e,q1,q2,q⟩:=q1
 subst e
 obtain ⟨u0,u1,u2,rfl,⟨t0,rfl⟩,⟨t1,rfl⟩,⟨t2,rfl⟩⟩:∃ u0 u1 u2,us=[u0,u1,u2]∧RelV (.int 0) u0∧RelV (.int j) u1∧RelV (.int c) u2:=by
  cases r1 with
  | cons ra rr =>
   cases rr with
   | cons rb rr =>
    cases rr with
    | cons rc rr =>
     cases rr
     exact ⟨_,_,_,rfl,ra,rb,rc⟩
 refine PySem.call_range_3 (by omega) ?_ (.inl (PyProof.noPylong_small (by omega)))
 have I2:Inv X pins σ H1 { s1 with heap:=s1.heap.push { cls:=.type "range",data:=.fields #[.int 0 t0,.int j t1,.int c t2] },toks:=s1.toks }:=I1.kept fun b o e=>Heap.get?_push_of_some _ e
 refine wpAny_pyIter_range (IsRange.new ..) (small_steps q1 q2 hc hc') ?_
 refine ⟨_,[_],_,_,H1,rfl,I2.kept (t':=s1.toks) fun b o e=>Heap.get?_push_of_some _ e,turn_step _ 0 c (steps c j),?_,fun b hb=>?_,q⟩
 ·show IsRangeIter _ _ (0+((0:Nat):Int) * c) (((steps c j:Nat):Int) - ((0:Nat):Int)) c
  have e1:(0:Int)+((0:Nat):Int) * c=0:=by simp
  have e2:((steps c j:Nat):Int) - ((0:Nat):Int)=Builtin.Range.rangeSize 0 j c:=by
   have:=size_nn (hi:=j) hc
   unfold steps
   omega
  rw [e1,e2]
  exact Heap.get?_push_size _ rfl
 ·obtain rfl:=List.mem_singleton.mp hb
  exact I2.fpOk (Nat.le_refl _) (I2.hok.fresh (Nat.le_refl _))
end
section
variable {H:Hp}{Q:VK}{σ:L2.St}{tr:TA}
def RngS (c:Int)(vs:List V)(H:Hp)(R:It→Hp→Prop):Prop:=∃ j:Int,vs=[.int 0,.int j,.int c]∧0≤j∧j<1000000∧R (Its 0 c (steps c j)) H
theorem rngS_ {c:Int}{R:It→Hp→Prop}:iRngS c tr σ H R=tr σ H fun vs H1=>RngS c vs H1 R:=rfl
theorem RngS.go {c j:Int}{R:It→Hp→Prop}(h1:0≤j)(h2:j<1000000)(q:R (Its 0 c (steps c j)) H):RngS c [.int 0,.int j,.int c] H R:=⟨j,rfl,h1,h2,q⟩
theorem rEqB_ {i j:Bool}:rEq (.bl i) (.bl j) H Q=Q (.bl (decide (i=j))) H:=by
 unfold rEq
 have e:(V.bl i=V.bl j)=(i=j):=propext ⟨fun h=>V.bl.inj h,fun h=>by rw [h]⟩
 simp only [e]
 exact propext ⟨fun h=>h.2,fun h=>⟨rfl,h⟩⟩
theorem _root_.L2.Same.seqT {K:PySem.W.Frag}{H H':Hp}{a:Addr}{xs:List V}(e:Same H H')(h:SqT K H a xs):SqT K H' a xs:=by
 rcases h with (h | ⟨o,h⟩) | h
 ·exact .inl (.inl (e _ _ h))
 ·exact .inl (.inr ⟨o,e _ _ h⟩)
 ·exact .inr h
end
def IntB:List V→Hp→VK→Prop:=fun xs H Q=>∃ k,xs=[.bl k]∧Q (.int (if k=true then 1 else 0)) H
theorem IntB.go {b:Bool}{H:Hp}{Q:VK}(q:Q (.int (if b=true then 1 else 0)) H):IntB [.bl b] H Q:=⟨b,rfl,q⟩
end Sv
namespace Sv
open PySem PySem.Spec PyProof.Rows L2
section
variable {X:Cx}
end
theorem shaped_of {d:PyData}(h1:d.canLay0=true)(h2:d.depth≤64):SeqAt.shaped d=true:=by
 unfold SeqAt.shaped
 rw [h1,decide_eq_true h2]
 rfl
theorem canLayAll_of {α:Type}(g:α→PyData)(h:∀ x,(g x).canLay0=true):∀ xs:List α,PyData.canLayAll0 (xs.map g)=true
 | []=>by simp [PyData.canLayAll0]
 | x::xs=>by rw [List.map_cons,PyData.canLayAll0.eq_2,h x,canLayAll_of g h xs]; rfl
theorem depthAll_of {α:Type}(g:α→PyData){n:Nat}(h:∀ x,(g x).depth≤n):∀ xs:List α,PyData.depthAll (xs.map g)≤n
 | []=>by simp [PyData.depthAll]
 | x::xs=>by
  rw [List.map_cons,PyData.depthAll.eq_2]
  exact Nat.max_le.mpr ⟨h x,depthAll_of g h xs⟩
def pairD (b:Int×Int):PyData:=.tuple [.int b.1,.int b.2]
def boxD (bs:List (Int×Int)):PyData:=.tuple (bs.map pairD)
theorem pairD_lay (b:Int×Int):(pairD b).canLay0=true:=by simp [pairD,PyData.canLay0,PyData.canLayAll0]
theorem pairD_deep (b:Int×Int):(pairD b).depth≤2:=by simp [pairD,PyData.depth,PyData.depthAll]
theorem boxD_lay (bs:List (Int×Int)):(boxD bs).canLay0=true:=by
 have:=canLayAll_of pairD pairD_lay bs
 simp [boxD,PyData.canLay0,this]
theorem boxD_deep (bs:List (Int×Int)):(boxD bs).depth≤3:=by
 have:=depthAll_of pairD pairD_deep bs
 simp only [boxD,PyData.depth]
 omega
theorem boxD_shaped (bs:List (Int×Int)):SeqAt.shaped (boxD bs)=true:=shaped_of (boxD_lay bs) (Nat.le_trans (boxD_deep bs) (by decide))
theorem eqvAll_of {α:Type}(g:α→PyData)(h:∀ x y,PyData.eqv (g x) (g y)=true↔x=y):∀ xs ys:List α,PyData.eqvAll (xs.map g) (ys.map g)=true↔xs=ys
 | [],[]=>by simp [PyData.eqvAll]
 | [],y::ys=>by simp [PyData.eqvAll]
 | x::xs,[]=>by simp [PyData.eqvAll]
 | x::xs,y::ys=>by
  rw [List.map_cons,List.map_cons]
  simp only [PyData.eqvAll,Bool.and_eq_true,h x y,eqvAll_of g h xs ys,List.cons.injEq]
theorem pair_eqv (b c:Int×Int):PyData.eqv (pairD b) (pairD c)=true↔b=c:=by
 obtain ⟨a,b⟩:=b
 obtain ⟨c,d⟩:=c
 simp [pairD,PyData.eqv,PyData.eqvAll]
theorem box_eqv (bs cs:List (Int×Int)):PyData.eqv (boxD bs) (boxD cs)=true↔bs=cs:=by
 have:=eqvAll_of pairD pair_eqv bs cs
 simpa [boxD,PyData.eqv] using this
inductive Strs (H:Hp):List V→List (Int×Int)→Prop where
 | nil:Strs H [] []
 | cons {a:Addr} {lo hi:Int} {vs:List V} {bs:List (Int×Int)} (h:H a=some (.tup [.int lo,.int hi])) (t:Strs H vs bs):Strs H (.ref a::vs) ((lo,hi)::bs)
section
variable {H H':Hp}{vs ws:List V}{bs cs:List (Int×Int)}{p a:Addr}
theorem Strs.len (h:Strs H vs bs):vs.length=bs.length:=by
 induction h with
 | nil=>rfl
 | cons _ _ ih=>rw [List.length_cons,List.length_cons,ih]
theorem Strs.mono (h:Strs H vs bs)(k:∀ a xs,H a=some (.tup xs)→H' a=some (.tup xs)):Strs H' vs bs:=by
 induction h with
 | nil=>exact .nil
 | cons h _ ih=>exact .cons (k _ _ h) ih
theorem Strs.same (h:Strs H vs bs)(s:Same H H'):Strs H' vs bs:=h.mono fun a xs e=>s _ _ e
theorem Strs.upd {xs:List V}{o:HO}(h:Strs H vs bs)(e:H p=some (.lst xs)):Strs (upd H p o) vs bs:=h.mono fun a ys q=>by
 have n:a≠p:=fun z=>by rw [z,e] at q; cases q
 rw [upd_ne n]
 exact q
theorem Strs.app (h:Strs H vs bs)(k:Strs H ws cs):Strs H (vs++ws) (bs++cs):=by
 induction h with
 | nil=>exact k
 | cons h _ ih=>exact .cons h ih
theorem Strs.snoc {lo hi:Int}(h:Strs H vs bs)(e:H a=some (.tup [.int lo,.int hi])):Strs H (vs++[.ref a]) (bs++[(lo,hi)]):=h.app (.cons e .nil)
theorem Strs.at {i:Nat}{x:V}(h:Strs H vs bs)(e:vs[i]?=some x):∃ a lo hi,x=.ref a∧bs[i]?=some (lo,hi)∧H a=some (.tup [.int lo,.int hi]):=by
 induction h generalizing i with
 | nil=>cases e
 | cons h _ ih =>
  cases i with
  | zero =>
   cases e
   exact ⟨_,_,_,rfl,rfl,h⟩
  | succ j=>exact ih e
theorem Strs.dts (h:Strs H vs bs):Dts H vs (bs.map pairD):=by
 induction h with
 | nil=>exact .nil
 | cons h _ ih=>exact .cons (.tup (.inl h) (.cons (.int _) (.cons (.int _) .nil))) ih
def IsBox (H:Hp)(p:Addr)(bs:List (Int×Int)):Prop:=∃ vs,H p=some (.tup vs)∧Strs H vs bs
theorem IsBox.same (h:IsBox H p bs)(s:Same H H'):IsBox H' p bs:=by
 obtain ⟨vs,e,t⟩:=h
 exact ⟨vs,s _ _ e,t.same s⟩
theorem IsBox.dt (h:IsBox H p bs):Dt H (.ref p) (boxD bs):=by
 obtain ⟨vs,e,t⟩:=h
 exact .tup (.inl e) t.dts
theorem _root_.L2.Same.put {o:HO}(s:Same H H')(h:H p=none):Same H (upd H' p o):=fun b u e=>by
 rw [upd_ne (ne_of_none e h)]
 exact s b u e
end
section
variable {X:Cx}{H:Hp}{Q:VK}{p:Addr}{ys:List V}{K:PySem.W.Frag}
def TupOf (K:PySem.W.Frag):List V→Hp→VK→Prop:=fun xs H Q=>∃ p ys,xs=[.ref p]∧((SqL K H p ys∧∀ l,H l=none→Q (.ref l) (upd H l (.tup ys)))∨(SqT K H p ys∧Q (.ref p) H))
def LstOf (K:PySem.W.Frag):List V→Hp→VK→Prop:=fun xs H Q=>∃ p ys,xs=[.ref p]∧(SqL K H p ys∨SqT K H p ys)∧∀ l,H l=none→Q (.ref l) (upd H l (.lst ys))
theorem call_tupleR:CallR X (.type "tuple") (TupOf X.K):=call_tuple_of
theorem call_listR:CallR X (.type "list") (LstOf X.K):=call_list_of
theorem TupOf.lst (h:SqL K H p ys)(q:∀ l,H l=none→Q (.ref l) (upd H l (.tup ys))):TupOf K [.ref p] H Q:=⟨p,ys,rfl,.inl ⟨h,q⟩⟩
theorem LstOf.lst (h:SqL K H p ys)(q:∀ l,H l=none→Q (.ref l) (upd H l (.lst ys))):LstOf K [.ref p] H Q:=⟨p,ys,rfl,.inl h,q⟩
end
end Sv
namespace Sv
open PySem L2
end Sv
namespace Sv
open PySem L2
section
variable {K:PySem.W.Frag}{H:Hp}{Q:VK}{p r:Addr}{bs cs:List (Int×Int)}{ns:List Int}{i:Nat}
def meetOf (b c:Int×Int):Int×Int:=(max b.1 c.1,min b.2 c.2)
def full (b:Int×Int):Bool:=decide (b.1≤b.2)
def meets (bs cs:List (Int×Int)):List (Int×Int):=List.zipWith meetOf bs cs
def bothOf (bs cs:List (Int×Int)):Option (List (Int×Int)):=if (meets bs cs).all full=true then some (meets bs cs) else none
end
end Sv
namespace Sv
open PySem L2
theorem bool_eq_dec {b:Bool}{c:Prop} [Decidable c](h:b=true↔c):b=decide c:=by
 rw [Bool.eq_iff_iff,h,decide_eq_true_iff]
theorem eqB_go {H:Hp}{Q:VK}{p r:Addr}{bs cs:List (Int×Int)}(h:IsBox H p bs)(h':IsBox H r cs)(q:Q (.bl (decide (bs=cs))) H):rEqD false (.ref p) (.ref r) H Q:=by
 refine ⟨boxD bs,boxD cs,h.dt,h'.dt,boxD_shaped _,boxD_shaped _,?_⟩
 rw [if_neg Bool.false_ne_true,bool_eq_dec (box_eqv bs cs)]
 exact q
theorem eqN_go {H:Hp}{Q:VK}{r:Addr}{cs:List (Int×Int)}(h':IsBox H r cs)(q:Q (.bl false) H):rEqD false .non (.ref r) H Q:=by
 refine ⟨.none,boxD cs,.non,h'.dt,by decide,boxD_shaped _,?_⟩
 rw [if_neg Bool.false_ne_true,show PyData.eqv .none (boxD cs)=false by simp [boxD,PyData.eqv]]
 exact q
end Sv
namespace Sv
open PySem L2
def BothV (H:Hp)(bs cs:List (Int×Int))(v:V):Prop:=(v=.non∧bothOf bs cs=none)∨∃ x ds,v=.ref x∧bothOf bs cs=some ds∧IsBox H x ds
theorem BothV.eqv {H:Hp}{Q:VK}{p:Addr}{bs cs ds:List (Int×Int)}{v:V}(h:BothV H bs cs v)(hp:IsBox H p ds)(q:Q (.bl (decide (bothOf bs cs=some ds))) H):rEqD false v (.ref p) H Q:=by
 rcases h with ⟨rfl,e⟩ | ⟨x,es,rfl,e,hx⟩
 ·rw [e] at q
  exact eqN_go hp q
 ·rw [e,show decide (some es=some ds)=decide (es=ds) by simp] at q
  exact eqB_go hx hp q
end Sv
namespace Sv
open PySem L2
section
variable {K:PySem.W.Frag}{σ:L2.St}{H:Hp}{Q:VK}{p:Addr}{xs:List V}{k:Nat}{r:V→Option Int→Option Int→Hp→VK→Prop}{te:TE}{tl th:TO}{Qo:Option Int→Hp→Prop}
theorem slice_:tSl r te tl th σ H Q=te σ H fun x H1=>tl σ H1 fun l H2=>th σ H2 fun u H3=>r x l u H3 Q:=rfl
theorem nopart_:tNoPart σ H Qo=Qo none H:=rfl
def PartR (x:V)(H:Hp)(Qo:Option Int→Hp→Prop):Prop:=∃ i,x=.int i∧Qo (some i) H
theorem part_:tPart te σ H Qo=te σ H fun x H1=>PartR x H1 Qo:=rfl
theorem PartR.go {i:Int}(q:Qo (some i) H):PartR (.int i) H Qo:=⟨i,rfl,q⟩
theorem cut_take (h:k≤xs.length):cutV xs none (some (k:Int))=xs.take k:=by
 unfold cutV
 rw [HT.sIx_nat,HT.sIx_none,Nat.min_eq_left h,List.drop_zero,Nat.sub_zero]
theorem cut_drop (h:k≤xs.length):cutV xs (some (k:Int)) none=xs.drop k:=by
 unfold cutV
 rw [HT.sIx_nat,HT.sIx_none,Nat.min_eq_left h]
 exact List.take_of_length_le (by rw [List.length_drop]; exact Nat.le_refl _)
theorem cut_takeA:cutV xs none (some (k:Int))=xs.take k:=by
 by_cases h:k≤xs.length
 ·exact cut_take h
 ·unfold cutV
  rw [HT.sIx_nat,HT.sIx_none,List.drop_zero,Nat.sub_zero,Nat.min_eq_right (by omega),List.take_of_length_le (Nat.le_refl _),List.take_of_length_le (by omega)]
theorem slTakeA_go (h:SqL K H p xs)(q:∀ l,H l=none→Q (.ref l) (upd H l (.lst (xs.take k)))):rSlL K (.ref p) none (some (k:Int)) H Q:=⟨p,xs,rfl,h,by rw [cut_takeA]; exact q⟩
end
inductive Bxs (H:Hp):List V→List (List (Int×Int))→Prop where
 | nil:Bxs H [] []
 | cons {p:Addr} {b:List (Int×Int)} {vs:List V} {bss:List (List (Int×Int))} (h:IsBox H p b) (t:Bxs H vs bss):Bxs H (.ref p::vs) (b::bss)
section
variable {H H':Hp}{vs ws:List V}{bss css:List (List (Int×Int))}{p:Addr}
theorem IsBox.mono {b:List (Int×Int)}(h:IsBox H p b)(k:∀ a xs,H a=some (.tup xs)→H' a=some (.tup xs)):IsBox H' p b:=by
 obtain ⟨vs,e,t⟩:=h
 exact ⟨vs,k _ _ e,t.mono k⟩
theorem upd_tup {xs:List V}{o:HO}(e:H p=some (.lst xs)):∀ a ys,H a=some (.tup ys)→upd H p o a=some (.tup ys):=fun a ys q=>by
 have n:a≠p:=fun z=>by rw [z,e] at q; cases q
 rw [upd_ne n]
 exact q
theorem IsBox.upd {b:List (Int×Int)}{xs:List V}{o:HO}{l:Addr}(h:IsBox H p b)(e:H l=some (.lst xs)):IsBox (upd H l o) p b:=h.mono (upd_tup e)
theorem Bxs.mono (h:Bxs H vs bss)(k:∀ a xs,H a=some (.tup xs)→H' a=some (.tup xs)):Bxs H' vs bss:=by
 induction h with
 | nil=>exact .nil
 | cons h _ ih=>exact .cons (h.mono k) ih
theorem Bxs.upd {xs:List V}{o:HO}{l:Addr}(h:Bxs H vs bss)(e:H l=some (.lst xs)):Bxs (upd H l o) vs bss:=h.mono (upd_tup e)
theorem Bxs.len (h:Bxs H vs bss):vs.length=bss.length:=by
 induction h with
 | nil=>rfl
 | cons _ _ ih=>rw [List.length_cons,List.length_cons,ih]
theorem Bxs.at {i:Nat}{x:V}(h:Bxs H vs bss)(e:vs[i]?=some x):∃ p b,x=.ref p∧bss[i]?=some b∧IsBox H p b:=by
 induction h generalizing i with
 | nil=>cases e
 | cons h _ ih =>
  cases i with
  | zero =>
   cases e
   exact ⟨_,_,rfl,rfl,h⟩
  | succ j=>exact ih e
end
end Sv
namespace Sv
open PySem PySem.Spec PyProof.Rows L2
section
variable {P:Program}{w:World}{A:Around}{E:Value→Shared→Prop}{s:Shared}
theorem nextT {q p:Addr}{i:Nat}{its:Array Value}{x:Value}{Q:Value→Shared→Prop}(hq:s.heap.IsTupleIter q p i)(hp:s.heap.IsTuple p its)(hx:its[i]?=some x)
  (k:∀ h',h'.IsTupleIter q p (i+1)→Heap.SameBut q s.heap h'→Q x { s with heap:=h' }):wpAny (model P w) A (Builtin.SmallTypes.nextOf (.ref q)) Q E s:=by
 obtain ⟨o,ho,hc,hd⟩:=id hq
 obtain ⟨ot,hot,_,nt,hdt⟩:=hp
 unfold Builtin.SmallTypes.nextOf
 refine wpAny_bind (wpAny_callSpecial?_slot (name:=Str.ofString "__next__") hq.typeIs F.slot_tuple_iterator_next (wpAny_call_entry F.slot_tuple_iterator_next hq.typeIs F.entry_tuple_iterator_next ?_ (F.args_tuple_iterator_next_1 _)))
 show wpAny _ _ (field (.ref q) 0 >>= _) _ _ s
 refine wpAny_bind (wpAny_field ho hd (x:=.ref p) rfl ?_)
 show wpAny _ _ (if (Value.ref p == Value.none)=true then _ else _) _ _ s
 rw [if_neg (show ¬ ((Value.ref p == Value.none)=true) from Bool.false_ne_true)]
 show wpAny _ _ (field (.ref q) 1 >>= _) _ _ s
 refine wpAny_bind (wpAny_field ho hd (x:=Value.int i 0) rfl ?_)
 show wpAny _ _ (seqItems? (.ref p) >>= _) _ _ s
 refine wpAny_bind (wpAny_seqItems hot hdt ?_)
 simp only [Int.toNat_natCast,hx]
 refine wpAny_bind (wpAny_setField ho hd (by simp) (wpAny_pure ⟨x,rfl,wpAny_pure (k _ ?_ (Heap.SameBut.update ..))⟩))
 refine ⟨_,Heap.get?_update_self _ ho (Obj.isFreed_of_fields (Obj.data_mapFields hd _)),(Obj.cls_mapFields ..).trans hc,?_⟩
 rw [Obj.data_mapFields hd]
 simp [rawInt]
theorem nextT_end {q p:Addr}{i:Nat}{its:Array Value}{Q:Value→Shared→Prop}(hh:A.handled=none)(hq:s.heap.IsTupleIter q p i)(hp:s.heap.IsTuple p its)(hx:its[i]?=none)
  (k:∀ h' e,Heap.ExtBut q s.heap h'→(∃ o,h'.get? e=some o∧o.cls=.type "StopIteration")→E (.ref e) { s with heap:=h' }):wpAny (model P w) A (Builtin.SmallTypes.nextOf (.ref q)) Q E s:=by
 obtain ⟨o,ho,hc,hd⟩:=id hq
 obtain ⟨ot,hot,_,nt,hdt⟩:=hp
 unfold Builtin.SmallTypes.nextOf
 refine wpAny_bind (wpAny_callSpecial?_slot (name:=Str.ofString "__next__") hq.typeIs F.slot_tuple_iterator_next (wpAny_call_entry F.slot_tuple_iterator_next hq.typeIs F.entry_tuple_iterator_next ?_ (F.args_tuple_iterator_next_1 _)))
 show wpAny _ _ (field (.ref q) 0 >>= _) _ _ s
 refine wpAny_bind (wpAny_field ho hd (x:=.ref p) rfl ?_)
 show wpAny _ _ (if (Value.ref p == Value.none)=true then _ else _) _ _ s
 rw [if_neg (show ¬ ((Value.ref p == Value.none)=true) from Bool.false_ne_true)]
 show wpAny _ _ (field (.ref q) 1 >>= _) _ _ s
 refine wpAny_bind (wpAny_field ho hd (x:=Value.int i 0) rfl ?_)
 show wpAny _ _ (seqItems? (.ref p) >>= _) _ _ s
 refine wpAny_bind (wpAny_seqItems hot hdt ?_)
 simp only [Int.toNat_natCast,hx]
 refine wpAny_bind (wpAny_rule (wpAny_bind (wpAny_setField ho hd (by simp) (show wpAny _ _ (newExc (.type "StopIteration") [] >>= _) _ _ _ from wpAny_bind ?_))))
 simp only [newExc,newTuple]
 refine wpAny_bind (wpAny_newObj_type (wpAny_bind (m:=firstArgMember _ _) (wpAny_of_eq (a:=Value.none) (by first | rfl | (simp only [firstArgMember]; rfl)) (wpAny_newObj_type ?_ (by size_fits)))) (by size_fits))
 simp only [raiseNew]
 refine wpAny_bind (wpAny_handled ?_)
 first | rw [show A.in1.handled=none from hh] | rw [hh]
 refine wpAny_bind (wpAny_pure (wpAny_throw (k _ _ (((Heap.SameBut.update ..).extBut.push _).push _) ⟨_,Heap.get?_push_size _ rfl,rfl⟩)))
def IsIt (h:Heap):Bool→Addr→Addr→Nat→Prop
 | true=>h.IsTupleIter
 | false=>h.IsListIter
def IsSq (h:Heap):Bool→Addr→Array Value→Prop
 | true=>h.IsTuple
 | false=>h.IsList
theorem IsIt.at {h h':Heap}{b:Bool}{q p:Addr}{i:Nat}(x:IsIt h b q p i)(e:∀ o,h.get? q=some o→h'.get? q=some o):IsIt h' b q p i:=by
 cases b
 ·exact Heap.IsListIter.at x e
 ·exact Heap.IsTupleIter.at x e
theorem IsSq.at {h h':Heap}{b:Bool}{p:Addr}{its:Array Value}(x:IsSq h b p its)(e:∀ o,h.get? p=some o→h'.get? p=some o):IsSq h' b p its:=by
 cases b
 ·exact Heap.IsList.at x e
 ·obtain ⟨o,ho,r⟩:=x
  exact ⟨o,e _ ho,r⟩
theorem IsIt.ex {h:Heap}{b:Bool}{q p:Addr}{i:Nat}(x:IsIt h b q p i):∃ o,h.get? q=some o∧∀ v,o.data≠.cell v:=by
 cases b
 ·obtain ⟨o,e,_,d⟩:=x
  exact ⟨o,e,fun v z=>by rw [d] at z; cases z⟩
 ·obtain ⟨o,e,_,d⟩:=x
  exact ⟨o,e,fun v z=>by rw [d] at z; cases z⟩
theorem nextI {b:Bool}{q p:Addr}{i:Nat}{its:Array Value}{x:Value}{Q:Value→Shared→Prop}(hq:IsIt s.heap b q p i)(hp:IsSq s.heap b p its)(hx:its[i]?=some x)
  (k:∀ h',IsIt h' b q p (i+1)→Heap.SameBut q s.heap h'→Q x { s with heap:=h' }):wpAny (model P w) A (Builtin.SmallTypes.nextOf (.ref q)) Q E s:=by
 cases b
 ·exact wpAny_nextOf_list_item hq hp hx k
 ·exact nextT hq hp hx k
theorem next_end {b:Bool}{q p:Addr}{i:Nat}{its:Array Value}{Q:Value→Shared→Prop}(hh:A.handled=none)(hq:IsIt s.heap b q p i)(hp:IsSq s.heap b p its)(hx:its[i]?=none)
  (k:∀ h' e,Heap.ExtBut q s.heap h'→(∃ o,h'.get? e=some o∧o.cls=.type "StopIteration")→E (.ref e) { s with heap:=h' }):wpAny (model P w) A (Builtin.SmallTypes.nextOf (.ref q)) Q E s:=by
 cases b
 ·exact wpAny_nextOf_list_end hh hq hp hx k
 ·exact nextT_end hh hq hp hx k
theorem enum_item {b:Bool}{e q p:Addr}{i:Nat}{its:Array Value}{x old:Value}{Q:Option Value→Shared→Prop}(he:IsEnum s.heap e q i old)(hq:IsIt s.heap b q p i)(hp:IsSq s.heap b p its)(hx:its[i]?=some x)(ne:e≠q)
  (k:∀ h',IsEnumOut h' e q ((i:Int)+1) x s.heap.objs.size→IsIt h' b q p (i+1)→h'.get? s.heap.objs.size=some { cls:=.type "tuple",data:=.seq #[.int i s.toks,x] }→h'.objs.size=s.heap.objs.size+1 →
   (∀ c o,c≠e→c≠q→s.heap.get? c=some o→h'.get? c=some o)→Q (some (.ref s.heap.objs.size)) { s with heap:=h',toks:=s.toks+1 }):wpAny (model P w) A (pyNext (.ref e)) Q E s:=by
 have hT:s.TypeIs (.ref e) "enumerate":=⟨_,he,rfl⟩
 unfold pyNext
 refine wpAny_bind (wpAny_attempt (wpAny_callSpecial?_slot (name:=Str.ofString "__next__") hT F.slot_enumerate_next (wpAny_call_entry F.slot_enumerate_next hT F.entry_enumerate_next ?_ (F.args_enumerate_next_1 _))))
 obtain ⟨hp0,g,d,tk,os⟩:=s
 show wpAny _ _ (field (.ref e) 2 >>= _) _ _ _
 refine wpAny_bind (wpAny_field he rfl (x:=.ref q) rfl (wpAny_bind (nextI hq hp hx fun h1 q1 s1=>?_)))
 replace s1:Heap.SameBut q hp0 h1:=s1
 have e1:IsEnum h1 e q i old:=(s1.2 e ne).trans he
 show wpAny _ _ (field (.ref e) 3 >>= _) _ _ ⟨h1,g,d,tk,os⟩
 refine wpAny_bind (wpAny_field e1 rfl (x:=rawInt i) rfl ?_)
 show wpAny _ _ (field (.ref e) 4 >>= _) _ _ ⟨h1,g,d,tk,os⟩
 refine wpAny_bind (wpAny_field e1 rfl (x:=.none) rfl ?_)
 show wpAny _ _ (mkInt i >>= _) _ _ ⟨h1,g,d,tk,os⟩
 refine wpAny_bind (wpAny_mkInt ?_)
 show wpAny _ _ (setField (.ref e) 3 (rawInt ((i:Int)+1)) >>= _) _ _ ⟨h1,g,d,tk+1,os⟩
 refine wpAny_bind (wpAny_setField_rec e1 (by simp) fun h2 e2 s2=>?_)
 replace s2:Heap.SameBut e h1 h2:=s2
 replace e2:IsEnum h2 e q ((i:Int)+1) old:=e2
 show wpAny _ _ (setField (.ref e) 4 .none >>= _) _ _ ⟨h2,g,d,tk+1,os⟩
 refine wpAny_bind (wpAny_setField_rec e2 (by simp) fun h3 e3 s3=>?_)
 replace s3:Heap.SameBut e h2 h3:=s3
 replace e3:IsEnum h3 e q ((i:Int)+1) old:=e3
 show wpAny _ _ (newTuple [.int i tk,x] >>= _) _ _ ⟨h3,g,d,tk+1,os⟩
 refine wpAny_bind (wpAny_newTuple ?_)
 have e4:IsEnum (h3.push { cls:=.type "tuple",data:=.seq #[.int i tk,x] }) e q ((i:Int)+1) old:=Heap.get?_push_of_some _ e3
 generalize hh4:h3.push { cls:=.type "tuple",data:=.seq #[.int i tk,x] }=h4 at e4
 have z3:h3.objs.size=hp0.objs.size:=by rw [s3.1,s2.1,s1.1]
 have el:e<hp0.objs.size:=Heap.lt_size he
 have t4:h4.get? hp0.objs.size=some { cls:=.type "tuple",data:=.seq #[.int i tk,x] }:=by
  rw [← hh4,← z3]
  exact Heap.get?_push_size _ rfl
 have z4:h4.objs.size=hp0.objs.size+1:=by rw [← hh4,Heap.size_push,z3]
 have k4:∀ c o,c≠e→c≠q→hp0.get? c=some o→h4.get? c=some o:=fun c o ce cq hc=>by
  rw [← hh4]
  exact Heap.get?_push_of_some _ (s3.extBut c o ce (s2.extBut c o ce (s1.extBut c o cq hc)))
 have q4:IsIt h4 b q p (i+1):=q1.at fun o ho=>by
  rw [← hh4]
  exact Heap.get?_push_of_some _ (s3.extBut q o ne.symm (s2.extBut q o ne.symm ho))
 show wpAny _ _ (Builtin.SmallTypes.ownedTupleIsFree (.ref e) >>= _) _ _ ⟨h4,g,d,tk+1,os⟩
 rw [z3]
 clear hh4 e3 s3 e2 s2 e1 s1 q1 z3 h3 h2 h1
 refine wpAny_bind ?_
 unfold Builtin.SmallTypes.ownedTupleIsFree
 refine wpAny_bind (wpAny_field e4 rfl (x:=.none) rfl (wpAny_pure ?_))
 simp only [if_true]
 refine wpAny_bind (wpAny_rule (wpAny_bind (wpAny_field e4 rfl (x:=old) rfl (wpAny_bind (wpAny_setField_rec e4 (by simp) fun h5 e5 s5=>?_)))))
 replace s5:Heap.SameBut e h4 h5:=s5
 replace e5:IsEnum h5 e q ((i:Int)+1) x:=e5
 show wpAny _ _ (Builtin.SmallTypes.ownedTupleHandOut (.ref e) (.ref hp0.objs.size) >>= _) _ _ ⟨h5,g,d,tk+1,os⟩
 refine wpAny_bind ?_
 unfold Builtin.SmallTypes.ownedTupleHandOut
 refine wpAny_bind (wpAny_setField_rec e5 (by simp) fun h6 e6 s6=>?_)
 replace s6:Heap.SameBut e h5 h6:=s6
 replace e6:IsEnumOut h6 e q ((i:Int)+1) x hp0.objs.size:=e6
 refine wpAny_setField_rec e6 (by simp) fun h7 e7 s7=>?_
 replace s7:Heap.SameBut e h6 h7:=s7
 replace e7:IsEnumOut h7 e q ((i:Int)+1) x hp0.objs.size:=e7
 have up:∀ c o,c≠e→h4.get? c=some o→h7.get? c=some o:=fun c o ce hc=>s7.extBut c o ce (s6.extBut c o ce (s5.extBut c o ce hc))
 refine wpAny_bind (wpAny_letGo (wpAny_pure ⟨_,rfl,wpAny_pure (k h7 e7 (q4.at fun o ho=>up q o ne.symm ho) (up _ _ (Nat.ne_of_gt el) t4) ?_ fun c o ce cq hc=>up c o ce (k4 c o ce cq hc))⟩))
 rw [s7.1,s6.1,s5.1,z4]
structure Apart (z a o q r p1 p2:Addr):Prop where
 nd:[z,a,o,q,r].Nodup
 n1:p1∉[z,o,q,r]
 n2:p2∉[z,o,q,r]
theorem apart5 {z a o q r:Addr}(h:[z,a,o,q,r].Nodup):(z≠a∧z≠o∧z≠q∧z≠r)∧(a≠o∧a≠q∧a≠r)∧(o≠q∧o≠r)∧q≠r:=by
 simp only [List.nodup_cons,List.mem_cons,List.mem_nil_iff,or_false,not_or,List.not_mem_nil,not_false_eq_true,List.nodup_nil,and_true] at h
 exact h
theorem apart4 {p z o q r:Addr}(h:p∉[z,o,q,r]):p≠z∧p≠o∧p≠q∧p≠r:=by
 simp only [List.mem_cons,List.mem_nil_iff,or_false,not_or,List.not_mem_nil] at h
 exact h
def Kept (ch:List Addr)(h h':Heap):Prop:=∀ c o,c∉ch→h.get? c=some o→h'.get? c=some o
theorem Kept.trans {ch:List Addr}{h h' h'':Heap}(x:Kept ch h h')(y:Kept ch h' h''):Kept ch h h'':=fun c o n e=>y c o n (x c o n e)
theorem Kept.of {ch:List Addr}{h h':Heap}{b:Addr}(x:Heap.SameBut b h h')(m:b∈ch):Kept ch h h':=fun c o n e=>x.extBut c o (fun z=>n (z▸m)) e
theorem Kept.ext {ch:List Addr}{h h':Heap}{b:Addr}(x:Heap.ExtBut b h h')(m:b∈ch):Kept ch h h':=fun c o n e=>x c o (fun z=>n (z▸m)) e
structure ZipAt (h:Heap)(b1 b2:Bool)(z a o q r p1 p2:Addr)(f:Value)(i j:Nat):Prop where
 zip:IsZip h z a o f
 ins:IsPair h a (.ref q) (.ref r)
 out:∃ x y,IsPair h o x y
 it1:IsIt h b1 q p1 i
 it2:IsIt h b2 r p2 j
theorem zip_item {b1 b2:Bool}{z a o q r p1 p2:Addr}{i j:Nat}{xs ys:Array Value}{x y:Value}{Q:Option Value→Shared→Prop}(D:Apart z a o q r p1 p2)(Z:ZipAt s.heap b1 b2 z a o q r p1 p2 .none i j)
  (h1:IsSq s.heap b1 p1 xs) (h2:IsSq s.heap b2 p2 ys) (hx:xs[i]?=some x) (hy:ys[j]?=some y)
  (k:∀ h',ZipAt h' b1 b2 z a o q r p1 p2 (rawInt s.heap.objs.size) (i+1) (j+1)→IsPair h' s.heap.objs.size x y→h'.objs.size=s.heap.objs.size+1→Kept [z,o,q,r] s.heap h'→Q (some (.ref s.heap.objs.size)) { s with heap:=h' }) :
  wpAny (model P w) A (pyNext (.ref z)) Q E s:=by
 obtain ⟨hz,hI,⟨u,v,hO⟩,hq,hr⟩:=Z
 obtain ⟨⟨za,zo,zq,zr⟩,⟨ao,aq,ar⟩,⟨oq,or'⟩,qr⟩:=apart5 D.nd
 obtain ⟨n1z,n1o,n1q,n1r⟩:=apart4 D.n1
 obtain ⟨n2z,n2o,n2q,n2r⟩:=apart4 D.n2
 have hT:s.TypeIs (.ref z) "zip":=⟨_,hz,rfl⟩
 unfold pyNext
 refine wpAny_bind (wpAny_attempt (wpAny_callSpecial?_slot (name:=Str.ofString "__next__") hT F.slot_zip_next (wpAny_call_entry F.slot_zip_next hT F.entry_zip_next ?_ (F.args_zip_next_1 _))))
 show wpAny _ _ (field (.ref z) 2 >>= _) _ _ _
 refine wpAny_bind (wpAny_field hz rfl (x:=.bool false) rfl ?_)
 show wpAny _ _ (field (.ref z) 3 >>= _) _ _ _
 refine wpAny_bind (wpAny_field hz rfl (x:=.ref a) rfl (wpAny_bind (wpAny_seqItems hI rfl ?_)))
 show wpAny _ _ (Builtin.SmallTypes.ownedTupleIsFree (.ref z) >>= _) _ _ _
 refine wpAny_bind ?_
 unfold Builtin.SmallTypes.ownedTupleIsFree
 refine wpAny_bind (wpAny_field hz rfl (x:=.none) rfl (wpAny_pure ?_))
 simp only [if_true]
 refine wpAny_bind (wpAny_rule (wpAny_bind (wpAny_field hz rfl (x:=.ref o) rfl (wpAny_bind (wpAny_setField_rec hz (by simp) fun g1 z1 s1=>?_)))))
 replace z1:IsZip g1 z a o .ellipsis:=z1
 refine wpAny_bind ?_
 simp only [List.zipIdx_cons,List.zipIdx_nil,List.forIn_cons,List.forIn_nil]
 refine wpAny_bind (wpAny_bind (wpAny_onRaise (show wpAny _ _ (Builtin.SmallTypes.nextOf (.ref q) >>= _) _ _ _ from wpAny_bind (nextI (hq.at fun _ e=>s1.extBut _ _ zq.symm e) (h1.at fun _ e=>s1.extBut _ _ n1z e) hx fun g2 q2 s2=>wpAny_pure ?_))))
 have o2:IsPair g2 o u v:=s2.extBut _ _ oq (s1.extBut _ _ zo.symm hO)
 refine wpAny_bind (wpAny_seqItems o2 rfl (wpAny_bind (wpAny_updateSeq_pair o2 fun g3 o3 s3=>?_)))
 replace o3:IsPair g3 o x v:=o3
 refine wpAny_bind (wpAny_letGo (wpAny_pure (wpAny_bind (wpAny_bind (wpAny_onRaise ?_)))))
 refine (show wpAny _ _ (Builtin.SmallTypes.nextOf (.ref r) >>= _) _ _ _ from wpAny_bind (nextI (hr.at fun _ e=>s3.extBut _ _ or'.symm (s2.extBut _ _ qr.symm (s1.extBut _ _ zr.symm e))) (h2.at fun _ e=>s3.extBut _ _ n2o (s2.extBut _ _ n2q (s1.extBut _ _ n2z e))) hy fun g4 r4 s4=>wpAny_pure ?_))
 have o4:IsPair g4 o x v:=s4.extBut _ _ or' o3
 refine wpAny_bind (wpAny_seqItems o4 rfl (wpAny_bind (wpAny_updateSeq_pair o4 fun g5 o5 s5=>?_)))
 replace o5:IsPair g5 o x y:=o5
 refine wpAny_bind (wpAny_letGo (wpAny_pure (wpAny_pure (wpAny_bind (wpAny_seqItems o5 rfl (wpAny_bind (wpAny_newTuple ?_)))))))
 have m1:z∈[z,o,q,r]:=by simp
 have m2:o∈[z,o,q,r]:=by simp
 have m3:q∈[z,o,q,r]:=by simp
 have m4:r∈[z,o,q,r]:=by simp
 have k5:Kept [z,o,q,r] s.heap g5:=((((Kept.of s1 m1).trans (Kept.of s2 m3)).trans (Kept.of s3 m2)).trans (Kept.of s4 m4)).trans (Kept.of s5 m2)
 have z5:g5.objs.size=s.heap.objs.size:=by rw [s5.1,s4.1,s3.1,s2.1,s1.1]
 have y5:IsZip g5 z a o .ellipsis:=s5.extBut _ _ zo (s4.extBut _ _ zr (s3.extBut _ _ zo (s2.extBut _ _ zq z1)))
 have q5:IsIt g5 b1 q p1 (i+1):=q2.at fun _ e=>s5.extBut _ _ oq.symm (s4.extBut _ _ qr (s3.extBut _ _ oq.symm e))
 have r5:IsIt g5 b2 r p2 (j+1):=r4.at fun _ e=>s5.extBut _ _ or'.symm e
 have lt:z<g5.objs.size:=Heap.lt_size y5
 show wpAny _ _ (Builtin.SmallTypes.ownedTupleHandOut (.ref z) (.ref g5.objs.size) >>= _) _ _ _
 refine wpAny_bind ?_
 unfold Builtin.SmallTypes.ownedTupleHandOut
 have y6:IsZip (g5.push { cls:=.type "tuple",data:=.seq #[x,y] }) z a o .ellipsis:=Heap.get?_push_of_some _ y5
 refine wpAny_bind (wpAny_setField_rec y6 (by simp) fun g7 y7 s7=>?_)
 replace y7:IsZip g7 z a o (rawInt g5.objs.size):=y7
 refine wpAny_setField_rec y7 (by simp) fun g8 y8 s8=>?_
 replace y8:IsZip g8 z a o (rawInt g5.objs.size):=y8
 have up:∀ c u,c≠z→g5.get? c=some u→g8.get? c=some u:=fun c u cz e=>s8.extBut _ _ cz (s7.extBut _ _ cz (Heap.get?_push_of_some _ e))
 have t8:IsPair g8 g5.objs.size x y:=s8.extBut _ _ (Nat.ne_of_gt lt) (s7.extBut _ _ (Nat.ne_of_gt lt) (Heap.get?_push_size _ rfl))
 have e8:g8.objs.size=g5.objs.size+1:=by rw [s8.1,s7.1,Heap.size_push]
 rw [z5] at y8 t8 e8
 refine wpAny_pure ⟨_,rfl,wpAny_pure ?_⟩
 show Q (some (.ref g5.objs.size)) _
 rw [z5]
 refine k g8 ⟨y8,?_,⟨x,y,up _ _ zo.symm o5⟩,q5.at fun _ e=>up _ _ zq.symm e,r5.at fun _ e=>up _ _ zr.symm e⟩ t8 e8 (k5.trans fun c u n e=>up c u (fun h=>n (h▸m1)) e)
 exact up _ _ za.symm (k5 _ _ (by simp [za.symm,ao,aq,ar]) hI)
theorem zip_end {b1 b2:Bool}{z a o q r p1 p2:Addr}{i j:Nat}{xs ys:Array Value}{Q:Option Value→Shared→Prop}(hh:A.handled=none)(D:Apart z a o q r p1 p2)(Z:ZipAt s.heap b1 b2 z a o q r p1 p2 .none i j)
  (h1:IsSq s.heap b1 p1 xs) (h2:IsSq s.heap b2 p2 ys) (hn:xs[i]?=none∨ys[j]?=none) (k:∀ h',Kept [z,o,q,r] s.heap h'→Q none { s with heap:=h' }):wpAny (model P w) A (pyNext (.ref z)) Q E s:=by
 obtain ⟨hz,hI,⟨u,v,hO⟩,hq,hr⟩:=Z
 obtain ⟨⟨za,zo,zq,zr⟩,⟨ao,aq,ar⟩,⟨oq,or'⟩,qr⟩:=apart5 D.nd
 obtain ⟨n1z,n1o,n1q,n1r⟩:=apart4 D.n1
 obtain ⟨n2z,n2o,n2q,n2r⟩:=apart4 D.n2
 have m1:z∈[z,o,q,r]:=by simp
 have m2:o∈[z,o,q,r]:=by simp
 have m3:q∈[z,o,q,r]:=by simp
 have m4:r∈[z,o,q,r]:=by simp
 have hT:s.TypeIs (.ref z) "zip":=⟨_,hz,rfl⟩
 have fin:∀ {h':Heap} {e:Addr},Kept [z,o,q,r] s.heap h'→(∃ o,h'.get? e=some o∧o.cls=.type "StopIteration") →
   wpAny (model P w) A (do if ← isInstance (.ref e) (.type "StopIteration") then pure none else throw (.ref e)) Q E { s with heap:=h' }:=fun hk he=>by
  obtain ⟨oe,hoe,hce⟩:=he
  exact wpAny_bind (wpAny_isInstance (T:="StopIteration") (b:=true) ⟨oe,hoe,hce⟩ isSubtype_stop (wpAny_pure (k _ hk)))
 unfold pyNext
 refine wpAny_bind (wpAny_attempt (wpAny_callSpecial?_slot (name:=Str.ofString "__next__") hT F.slot_zip_next (wpAny_call_entry F.slot_zip_next hT F.entry_zip_next ?_ (F.args_zip_next_1 _))))
 show wpAny _ _ (field (.ref z) 2 >>= _) _ _ _
 refine wpAny_bind (wpAny_field hz rfl (x:=.bool false) rfl ?_)
 show wpAny _ _ (field (.ref z) 3 >>= _) _ _ _
 refine wpAny_bind (wpAny_field hz rfl (x:=.ref a) rfl (wpAny_bind (wpAny_seqItems hI rfl ?_)))
 show wpAny _ _ (Builtin.SmallTypes.ownedTupleIsFree (.ref z) >>= _) _ _ _
 refine wpAny_bind ?_
 unfold Builtin.SmallTypes.ownedTupleIsFree
 refine wpAny_bind (wpAny_field hz rfl (x:=.none) rfl (wpAny_pure ?_))
 simp only [if_true]
 refine wpAny_bind (wpAny_rule (wpAny_bind (wpAny_field hz rfl (x:=.ref o) rfl (wpAny_bind (wpAny_setField_rec hz (by simp) fun g1 z1 s1=>?_)))))
 replace z1:IsZip g1 z a o .ellipsis:=z1
 refine wpAny_bind ?_
 simp only [List.zipIdx_cons,List.zipIdx_nil,List.forIn_cons,List.forIn_nil]
 refine wpAny_bind (wpAny_bind (wpAny_onRaise (show wpAny _ _ (Builtin.SmallTypes.nextOf (.ref q) >>= _) _ _ _ from wpAny_bind ?_)))
 cases hx:xs[i]? with
 | none =>
  refine next_end hh (hq.at fun _ e=>s1.extBut _ _ zq.symm e) (h1.at fun _ e=>s1.extBut _ _ n1z e) hx fun g2 e s2 he=>?_
  obtain ⟨oe,hoe,hce⟩:=he
  have z2:IsZip g2 z a o .ellipsis:=s2 _ _ zq z1
  have ez:e≠z:=fun h=>by subst h; rw [z2] at hoe; cases hoe; simp at hce
  exact wpAny_setField_rec z2 (by simp) fun g3 _ s3=>fin (((Kept.of s1 m1).trans (Kept.ext s2 m3)).trans (Kept.of s3 m1)) ⟨oe,s3.extBut _ _ ez hoe,hce⟩
 | some x =>
  have hy:ys[j]?=none:=hn.resolve_left (by rw [hx]; exact fun h=>by cases h)
  refine nextI (hq.at fun _ e=>s1.extBut _ _ zq.symm e) (h1.at fun _ e=>s1.extBut _ _ n1z e) hx fun g2 q2 s2=>wpAny_pure ?_
  have o2:IsPair g2 o u v:=s2.extBut _ _ oq (s1.extBut _ _ zo.symm hO)
  refine wpAny_bind (wpAny_seqItems o2 rfl (wpAny_bind (wpAny_updateSeq_pair o2 fun g3 o3 s3=>?_)))
  refine wpAny_bind (wpAny_letGo (wpAny_pure (wpAny_bind (wpAny_bind (wpAny_onRaise (show wpAny _ _ (Builtin.SmallTypes.nextOf (.ref r) >>= _) _ _ _ from wpAny_bind ?_))))))
  refine next_end hh (hr.at fun _ e=>s3.extBut _ _ or'.symm (s2.extBut _ _ qr.symm (s1.extBut _ _ zr.symm e))) (h2.at fun _ e=>s3.extBut _ _ n2o (s2.extBut _ _ n2q (s1.extBut _ _ n2z e))) hy fun g4 e s4 he=>?_
  obtain ⟨oe,hoe,hce⟩:=he
  have z4:IsZip g4 z a o .ellipsis:=s4 _ _ zr (s3.extBut _ _ zo (s2.extBut _ _ zq z1))
  have ez:e≠z:=fun h=>by subst h; rw [z4] at hoe; cases hoe; simp at hce
  exact wpAny_setField_rec z4 (by simp) fun g5 _ s5=>fin (((((Kept.of s1 m1).trans (Kept.of s2 m3)).trans (Kept.of s3 m2)).trans (Kept.ext s4 m4)).trans (Kept.of s5 m1)) ⟨oe,s5.extBut _ _ ez hoe,hce⟩
abbrev itO (p:Addr):Obj:={ cls:=.type "tuple_iterator",data:=.fields #[.ref p,.int 0 0] }
abbrev zA (h:Heap)(p1 p2:Addr):Heap:=(h.push (itO p1)).push (itO p2)
abbrev zB (h:Heap)(p1 p2:Addr):Heap:=(zA h p1 p2).push { cls:=.type "tuple",data:=.seq #[.ref h.objs.size,.ref (h.push (itO p1)).objs.size] }
abbrev zC (h:Heap)(p1 p2:Addr):Heap:=(zB h p1 p2).push { cls:=.type "tuple",data:=.seq #[.none,.none] }
abbrev zD (h:Heap)(p1 p2:Addr):Heap:=(zC h p1 p2).push { cls:=.type "zip",data:=.fields #[.none,.bool false,.bool false,.ref (zA h p1 p2).objs.size,.ref (zB h p1 p2).objs.size] }
theorem z_sizes (h:Heap)(p1 p2:Addr):(h.push (itO p1)).objs.size=h.objs.size+1∧(zA h p1 p2).objs.size=h.objs.size+2∧(zB h p1 p2).objs.size=h.objs.size+3∧(zC h p1 p2).objs.size=h.objs.size+4∧(zD h p1 p2).objs.size=h.objs.size+5:=by
 simp only [Heap.size_push]
 exact ⟨trivial,trivial,trivial,trivial,trivial⟩
theorem z_at (h:Heap)(p1 p2:Addr):ZipAt (zD h p1 p2) true true (h.objs.size+4) (h.objs.size+2) (h.objs.size+3) h.objs.size (h.objs.size+1) p1 p2 .none 0 0:=by
 obtain ⟨s1,s2,s3,s4,s5⟩:=z_sizes h p1 p2
 have g5:(zD h p1 p2).get? (zC h p1 p2).objs.size=some _:=Heap.get?_push_size _ rfl
 have g4:(zD h p1 p2).get? (zB h p1 p2).objs.size=some _:=Heap.get?_push_of_some _ (Heap.get?_push_size _ rfl)
 have g3:(zD h p1 p2).get? (zA h p1 p2).objs.size=some _:=Heap.get?_push_of_some _ (Heap.get?_push_of_some _ (Heap.get?_push_size _ rfl))
 have g2:(zD h p1 p2).get? (h.push (itO p1)).objs.size=some _:=Heap.get?_push_of_some _ (Heap.get?_push_of_some _ (Heap.get?_push_of_some _ (Heap.get?_push_size _ rfl)))
 have g1:(zD h p1 p2).get? h.objs.size=some _:=Heap.get?_push_of_some _ (Heap.get?_push_of_some _ (Heap.get?_push_of_some _ (Heap.get?_push_of_some _ (Heap.get?_push_size _ rfl))))
 rw [s4] at g5
 rw [s3] at g4
 rw [s2] at g3
 rw [s1] at g2
 refine ⟨?_,?_,⟨_,_,g4⟩,⟨_,g1,rfl,rfl⟩,⟨_,g2,rfl,rfl⟩⟩
 ·exact g5.trans (by rw [s2,s3])
 ·exact g3.trans (by rw [s1])
theorem z_kept (h:Heap)(p1 p2:Addr)(c:Addr)(o:Obj)(x:h.get? c=some o):(zD h p1 p2).get? c=some o :=
 Heap.get?_push_of_some _ (Heap.get?_push_of_some _ (Heap.get?_push_of_some _ (Heap.get?_push_of_some _ (Heap.get?_push_of_some _ x))))
theorem new_zip (p1 p2:Addr)(xs ys:Array Value):Meets (Builtin.«zip.__new__» ⟨[.type "zip",.ref p1,.ref p2],[]⟩) (fun _ R s=>s.heap.IsTuple p1 xs∧s.heap.IsTuple p2 ys∧R (.ok (.ret (.ref (zC s.heap p1 p2).objs.size))) { s with heap:=zD s.heap p1 p2 }) :=
 .of_wp fun prog w A R s h=>by
  obtain ⟨hp,g,d,tk,os⟩:=s
  obtain ⟨hl1,hl2,h⟩:=h
  have hsub:=sub_zip
  have L1:Heap.IsTuple (Shared.heap ⟨hp,g,d,tk,os⟩) p1 xs:=hl1
  have L2:Heap.IsTuple (Shared.heap ⟨hp.push (itO p1),g,d,tk,os⟩) p2 ys:=Heap.IsTuple.push hl2 _
  wp_walk using wpAny_pyIter_tuple L1,wpAny_pyIter_tuple L2
  exact ⟨_,rfl,h⟩
theorem call_zipT {p1 p2:Addr}{xs ys:Array Value}{Q:Value→Shared→Prop}(h1:s.heap.IsTuple p1 xs)(h2:s.heap.IsTuple p2 ys)
  (k:∀ h',ZipAt h' true true (s.heap.objs.size+4) (s.heap.objs.size+2) (s.heap.objs.size+3) s.heap.objs.size (s.heap.objs.size+1) p1 p2 .none 0 0→(∀ c o,s.heap.get? c=some o→h'.get? c=some o)→Q (.ref (s.heap.objs.size+4)) { s with heap:=h' }) :
  wpAny (model P w) A (call (.type "zip") [.ref p1,.ref p2]) Q E s:=by
 refine callType_new F.called_zip (by decide) (F.typeCall_zip_2 _ _) (F.newCall_zip_2 _ _) (fun obj=>F.args_object_init_3 obj _ _) F.entry_zip_new (new_zip p1 p2 xs ys) ⟨h1,h2,?_⟩
 have Z:=z_at s.heap p1 p2
 show _∧_
 rw [(z_sizes s.heap p1 p2).2.2.2.1]
 exact ⟨⟨_,Z.zip,rfl⟩,k _ Z fun c o x=>z_kept s.heap p1 p2 c o x⟩
end
theorem _root_.L2.Inv.turnedL {X:Cx}{pins:List (Addr×Obj)}{σ:L2.St}{H:Hp}{s:Shared}{h':Heap}{t':Nat}{ch:List Addr}(I:Inv X pins σ H s)(k:Kept ch s.heap h')(f:∀ b∈ch,FpOk X pins H b):Inv X pins σ H { s with heap:=h',toks:=t' }:=by
 have nit:∀ b u,H b=some u→b∉ch:=fun b u e z=>by
  rw [(f b z).1] at e
  cases e
 have loc:X.env.locals∉ch:=fun z=>(f _ z).2.1 rfl
 refine I.step (g':=s.gens) (d':=s.drawn) (ch:=ch) (fun b hb=>?_) (fun b o _ _ hc e _=>k b o hc e) (fun b o _ _ hc e _=>⟨o.slots,k b o hc e⟩) (fun _ _ _ _ n=>n) (fun b o hc e=>⟨o,k b o hc e⟩) (fun _ _ e=>e) (fun _ _ _ e=>e)
  (fun b ps e=>⟨#[],by rw [e]; simp⟩) (fun m hm=>?_) (fun b u e=>?_) I.bare
 ·obtain ⟨_,hL,_,h1,h2,h3⟩:=f b hb
  exact ⟨h1,hL,h2,h3⟩
 ·obtain ⟨o,es,ep,ho,r⟩:=hm
  exact ⟨o,es,ep,k _ o loc ho,r⟩
 ·refine (I.hok b u e).stay (fun c v hc q=>k c v ?_ q) (fun _ q=>q) fun _ _ q=>q
  rcases hc with z | z
  ·rw [z]
   exact nit b u e
  ·exact nit c _ z
theorem _root_.L2.Inv.pairOut {X:Cx}{pins:List (Addr×Obj)}{σ:L2.St}{H:Hp}{s:Shared}{h':Heap}{t':Nat}{ch:List Addr}{x y:V}{u v:Value}(I:Inv X pins σ H s)(k:Kept ch s.heap h')(f:∀ b∈ch,FpOk X pins H b)(lt:∀ b∈ch,b<s.heap.objs.size)
  (hp:h'.get? s.heap.objs.size=some { cls:=.type "tuple",data:=.seq #[u,v] }) (rx:RelV x u) (ry:RelV y v):Inv X pins σ (upd H s.heap.objs.size (.tup [x,y])) { s with heap:=h',toks:=t' }:=by
 have I1:Inv X pins σ (upd H s.heap.objs.size (.tup [x,y])) { s with heap:=s.heap.push { cls:=.type "tuple",data:=.seq #[u,v] },toks:=s.toks } :=
  I.laid (fun b o e=>Heap.get?_push_of_some _ e) (Nat.le_refl _) ⟨by show 2≤sizeLine; decide,[u,v],.cons rx (.cons ry .nil),⟨_,Heap.get?_push_size _ rfl,rfl,_,rfl⟩⟩
 refine Inv.turnedL (s:={ s with heap:=s.heap.push { cls:=.type "tuple",data:=.seq #[u,v] },toks:=s.toks }) (ch:=ch) I1 (fun c o n e=>?_) fun b hb=>?_
 ·replace e:(s.heap.push { cls:=.type "tuple",data:=.seq #[u,v] }).get? c=some o:=e
  by_cases z:c=s.heap.objs.size
  ·subst z
   rw [Heap.get?_push_size s.heap (o:={ cls:=.type "tuple",data:=.seq #[u,v] }) rfl] at e
   cases e
   exact hp
  ·rw [Heap.get?_push_ne _ _ _ z] at e
   exact k c o n e
 ·obtain ⟨f0,f1⟩:=f b hb
  exact ⟨by rw [upd_ne (Nat.ne_of_lt (lt b hb))]; exact f0,f1⟩
def Itz (K:PySem.W.Frag)(a b:Addr):It :=
 ⟨fun i H=>∃ xs ys x y,SqT K H a xs∧SqT K H b ys∧xs[i]?=some x∧ys[i]?=some y,
  fun i H v H'=>∃ t x y,v=.ref t∧H t=none∧H'=upd H t (.tup [x,y])∧∀ xs ys,SqT K H a xs→SqT K H b ys→xs[i]?=some x∧ys[i]?=some y,
  fun i H=>∃ xs ys,SqT K H a xs∧SqT K H b ys∧(xs.length≤i∨ys.length≤i)⟩
def Sq (K:PySem.W.Frag)(H:Hp):Bool→Addr→List V→Prop
 | true=>SqT K H
 | false=>SqL K H
def Ite (K:PySem.W.Frag)(b:Bool)(a:Addr):It :=
 ⟨fun i H=>∃ xs x,Sq K H b a xs∧xs[i]?=some x,
  fun i H v H'=>∃ t x,v=.ref t∧H t=none∧H'=upd H t (.tup [.int i,x])∧∀ xs,Sq K H b a xs→xs[i]?=some x,
  fun i H=>∃ xs,Sq K H b a xs∧xs.length≤i⟩
theorem Sq.at {X:Cx}{pins:List (Addr×Obj)}{σ:L2.St}{H:Hp}{s:Shared}{b:Bool}{a:Addr}{xs:List V}(I:Inv X pins σ H s)(h:Sq X.K H b a xs):∃ its:List Value,Vals xs its∧IsSq s.heap b a its.toArray:=by
 cases b with
 | true =>
  obtain ⟨its,rv,p,_⟩:=I.tuple h
  exact ⟨its,rv,p⟩
 | false =>
  obtain ⟨its,rv,p,_⟩:=I.list h
  exact ⟨its,rv,p.isList⟩
theorem turn_zip {P:Program}{w:World}{K:PySem.W.Frag}{es:List Expr}{k0:Nat}{pos:Pos}(p1 p2 z a o q r:Addr)(D:Apart z a o q r p1 p2) :
  Turn P w K (.Tuple es k0 pos) (Itz K p1 p2) [z,a,o,q,r] z (fun i h=>ZipAt h true true z a o q r p1 p2 .none i i) where
 mem:=by simp
 obj:=fun i h Z b hb=>by
  obtain ⟨hz,hI,⟨x,y,hO⟩,hq,hr⟩:=Z
  simp only [List.mem_cons,List.mem_nil_iff,or_false,List.not_mem_nil] at hb
  rcases hb with rfl | rfl | rfl | rfl | rfl
  ·exact ⟨_,hz,fun v e=>by cases e⟩
  ·exact ⟨_,hI,fun v e=>by cases e⟩
  ·exact ⟨_,hO,fun v e=>by cases e⟩
  ·exact hq.ex
  ·exact hr.ex
 keep:=fun i h h' Z k=>by
  obtain ⟨hz,hI,⟨x,y,hO⟩,hq,hr⟩:=Z
  exact ⟨k z (by simp) _ hz,k a (by simp) _ hI,⟨x,y,k o (by simp) _ hO⟩,hq.at fun u e=>k q (by simp) u e,hr.at fun u e=>k r (by simp) u e⟩
 item:=by
  intro X hP hw hK hc i pins s σ H E I hf Z hg
  subst hP hw hK
  obtain ⟨xs,ys,x,y,hxs,hys,hx,hy⟩:=hg
  obtain ⟨its,rv,p,_⟩:=I.tuple hxs
  obtain ⟨jts,rw',p',_⟩:=I.tuple hys
  obtain ⟨u,hu,ru⟩:=rv.get hx
  obtain ⟨v,hv,rv'⟩:=rw'.get hy
  have ltz:∀ b∈[z,o,q,r],b<s.heap.objs.size:=fun b hb=>by
   obtain ⟨hz,hI,⟨x,y,hO⟩,hq,hr⟩:=id Z
   simp only [List.mem_cons,List.mem_nil_iff,or_false,List.not_mem_nil] at hb
   rcases hb with rfl | rfl | rfl | rfl
   ·exact Heap.lt_size hz
   ·exact Heap.lt_size hO
   ·exact Heap.lt_size hq.ex.choose_spec.1
   ·exact Heap.lt_size hr.ex.choose_spec.1
  have lta:a<s.heap.objs.size:=Heap.lt_size Z.ins
  have hf4:∀ b∈[z,o,q,r],FpOk X pins H b:=fun b hb=>hf b (by simp only [List.mem_cons,List.mem_nil_iff,or_false,List.not_mem_nil] at hb ⊢; rcases hb with rfl | rfl | rfl | rfl <;> simp)
  refine zip_item D Z (show s.heap.IsTuple p1 its.toArray from p) (show s.heap.IsTuple p2 jts.toArray from p') (x:=u) (y:=v) (by simpa using hu) (by simpa using hv) fun h' Z' hp sz kk=>?_
  refine ⟨_,rfl,?_⟩
  refine wpAny_letOwnedTupleGo_zip Z'.zip fun h2 hz2 s2=>?_
  obtain ⟨⟨za,zo,zq,zr⟩,_,_,_⟩:=apart5 D.nd
  have k2:Kept [z,o,q,r] s.heap h2:=kk.trans (Kept.of s2 (by simp))
  have hp2:h2.get? s.heap.objs.size=some { cls:=.type "tuple",data:=.seq #[u,v] }:=s2.extBut _ _ (Nat.ne_of_gt (ltz z (by simp))) hp
  refine ⟨.ref s.heap.objs.size,upd H s.heap.objs.size (.tup [x,y]),I.pairOut (t':=s.toks) k2 hf4 ltz hp2 ru rv',rfl,⟨_,x,y,rfl,I.fresh,rfl,fun xs' ys' h1 h2=>?_⟩,?_,fun b hb=>?_⟩
  ·rw [I.tuple_inj h1 hxs,I.tuple_inj h2 hys]
   exact ⟨hx,hy⟩
  ·obtain ⟨_,hI,⟨x1,y1,hO⟩,hq,hr⟩:=Z'
   exact ⟨hz2,s2.extBut _ _ za.symm hI,⟨x1,y1,s2.extBut _ _ zo.symm hO⟩,hq.at fun u e=>s2.extBut _ _ zq.symm e,hr.at fun u e=>s2.extBut _ _ zr.symm e⟩
  ·have lb:b<s.heap.objs.size:=by
    by_cases e:b=a
    ·rw [e]
     exact lta
    ·exact ltz b (by simp only [List.mem_cons,List.mem_nil_iff,or_false,List.not_mem_nil] at hb ⊢; rcases hb with h | h | h | h | h <;> simp [h]; exact absurd h e)
   rw [upd_ne (Nat.ne_of_lt lb)]
   exact (hf b hb).1
 done:=by
  intro X hP hw hK hc i pins s σ H E I hf Z hg
  subst hP hw hK
  obtain ⟨xs,ys,hxs,hys,hl⟩:=hg
  obtain ⟨its,rv,p,_⟩:=I.tuple hxs
  obtain ⟨jts,rw',p',_⟩:=I.tuple hys
  have e1:=rv.length
  have e2:=rw'.length
  have hf4:∀ b∈[z,o,q,r],FpOk X pins H b:=fun b hb=>hf b (by simp only [List.mem_cons,List.mem_nil_iff,or_false,List.not_mem_nil] at hb ⊢; rcases hb with rfl | rfl | rfl | rfl <;> simp)
  exact zip_end (I.ok.hd hc) D Z (show s.heap.IsTuple p1 its.toArray from p) (show s.heap.IsTuple p2 jts.toArray from p') (by simp; omega) fun h' kk=>⟨rfl,I.turnedL (t':=s.toks) kk hf4⟩
 self:=fun _ _ _ _ _ Z h=>wpAny_pyIter_zip Z.zip h
theorem apart_new {n p1 p2:Nat}(h1:p1<n)(h2:p2<n):Apart (n+4) (n+2) (n+3) n (n+1) p1 p2:=by
 refine ⟨?_,fun h=>?_,fun h=>?_⟩
 ·simp only [List.nodup_cons,List.mem_cons,List.mem_nil_iff,or_false,not_or,List.not_mem_nil,not_false_eq_true,List.nodup_nil,and_true]
  have ne:∀ a b:Nat,a≠b→¬ a=b:=fun _ _ h=>h
  exact ⟨⟨ne _ _ (by omega),ne _ _ (by omega),ne _ _ (by omega),ne _ _ (by omega)⟩,⟨ne _ _ (by omega),ne _ _ (by omega),ne _ _ (by omega)⟩,⟨ne _ _ (by omega),ne _ _ (by omega)⟩,ne _ _ (by omega)⟩
 ·replace h:p1=n+4∨p1=n+3∨p1=n∨p1=n+1:=by simpa using h
  omega
 ·replace h:p2=n+4∨p2=n+3∨p2=n∨p2=n+1:=by simpa using h
  omega
theorem ge5 {n b:Nat}(h:b∈[n+4,n+2,n+3,n,n+1]):n≤b:=by
 simp only [List.mem_cons,List.mem_nil_iff,or_false,List.not_mem_nil] at h
 omega
section
variable {X:Cx}
def iZip (K:PySem.W.Frag)(ta:TA):TI:=fun σ H R=>ta σ H fun vs H1=>∃ a b xs ys,vs=[.ref a,.ref b]∧SqT K H1 a xs∧SqT K H1 b ys∧R (Itz K a b) H1
theorem pi_zip {es:List Expr}{k0:Nat}{tp:Pos}{a b:Expr}{ta:TA}{p pos:Pos}(hg:Gl X "zip")(hm:X.mg "zip"=none)(ha:PA X [a,b] ta)(hs:starEach [a,b] X.env=[(false,eval a X.env),(false,eval b X.env)]:=by rfl)(hs2:starEach [b] X.env=[(false,eval b X.env)]:=by rfl) :
  PI X (.Tuple es k0 tp) (.Call (.Name "zip" p) [a,b] [] pos) (iZip X.K ta):=by
 intro pins s σ H R I h
 refine Call_ (ld_blt I hg hm boot_zip (PyProof.Rows.callWith_type1 (thn (ha pos pins s σ H _ I h) fun us s1 ⟨vs,H1,I1,r1,q1⟩=>?_) (by rw [hs,hs2]) (by rw [hs2]; rfl)))
 obtain ⟨p1,p2,xs,ys,e,h1,h2,q⟩:=q1
 subst e
 obtain ⟨its,_,t1,_⟩:=I1.tuple h1
 obtain ⟨jts,_,t2,_⟩:=I1.tuple h2
 cases r1 with
 | cons r rr =>
  cases rr with
  | cons r' rr =>
   cases rr
   cases r
   cases r'
   have l1:p1<s1.heap.objs.size:=by obtain ⟨o,e,_⟩:=t1; exact Heap.lt_size e
   have l2:p2<s1.heap.objs.size:=by obtain ⟨o,e,_⟩:=t2; exact Heap.lt_size e
   refine call_zipT t1 t2 fun h' Z kk=>wpAny_pyIter_zip Z.zip ?_
   refine ⟨_,_,_,_,H1,rfl,I1.kept (t':=s1.toks) kk,turn_zip p1 p2 _ _ _ _ _ (apart_new l1 l2),Z,fun b hb=>?_,q⟩
   exact I1.fpOk (ge5 hb) (I1.hok.fresh (ge5 hb))
end
end Sv
namespace Sv
open PySem PySem.Spec PyProof.Rows L2
section
variable {K:PySem.W.Frag}{H:Hp}{R:It→Hp→Prop}{a b:Addr}{xs ys:List V}{vs:List V}
def ZipR (K:PySem.W.Frag)(vs:List V)(H:Hp)(R:It→Hp→Prop):Prop:=∃ a b xs ys,vs=[.ref a,.ref b]∧SqT K H a xs∧SqT K H b ys∧R (Itz K a b) H
theorem zip_ {ta:TA}{σ:L2.St}:iZip K ta σ H R=ta σ H fun vs H1=>ZipR K vs H1 R:=rfl
theorem ZipR.go (h1:SqT K H a xs)(h2:SqT K H b ys)(q:R (Itz K a b) H):ZipR K [.ref a,.ref b] H R:=⟨a,b,xs,ys,rfl,h1,h2,q⟩
def EnuR (K:PySem.W.Frag)(t:Bool)(vs:List V)(H:Hp)(R:It→Hp→Prop):Prop:=∃ a xs,vs=[.ref a]∧Sq K H t a xs∧R (Ite K t a) H
theorem EnuR.go {t:Bool}(h1:Sq K H t a xs)(q:R (Ite K t a) H):EnuR K t [.ref a] H R:=⟨a,xs,rfl,h1,q⟩
structure ItP (J:It)(ps:List (V×V))(Ok:Hp→Prop):Prop where
 go:∀ i H,Ok H→i<ps.length→J.go i H
 yld:∀ i H v H',Ok H→i<ps.length→J.yld i H v H'→∃ t p,v=.ref t∧H t=none∧ps[i]?=some p∧H'=upd H t (.tup [p.1,p.2])
 stop:∀ i H,Ok H→ps.length≤i→J.stop i H
theorem itz:ItP (Itz K a b) (xs.zip ys) (fun H=>SqT K H a xs∧SqT K H b ys) where
 go:=fun i H ok lt=>by
  rw [List.length_zip] at lt
  exact ⟨xs,ys,xs[i]'(by omega),ys[i]'(by omega),ok.1,ok.2,List.getElem?_eq_getElem _,List.getElem?_eq_getElem _⟩
 yld:=fun i H v H' ok lt y=>by
  obtain ⟨t,x,z,rfl,n,rfl,h⟩:=y
  obtain ⟨h1,h2⟩:=h xs ys ok.1 ok.2
  refine ⟨t,(x,z),rfl,n,?_,rfl⟩
  rw [List.getElem?_zip_eq_some]
  exact ⟨h1,h2⟩
 stop:=fun i H ok le=>by
  rw [List.length_zip] at le
  exact ⟨xs,ys,ok.1,ok.2,by omega⟩
theorem ForR.pairs {J:It}{ps:List (V×V)}{Ok:Hp→Prop}{m n:Nat}{tb:TS}{D:Ends}{σ:L2.St}(it:ItP J ps Ok)(Pv:Nat→L2.St→Hp→Prop)(h0:Pv 0 σ H)(hl:∀ i σ H,Pv i σ H→Ok H)
  (hs:∀ i p t σ H,ps[i]?=some p→Pv i σ H→H t=none→tb { D with nx:=Pv (i+1),ct:=Pv (i+1),bk:=D.nx } ((σ.set m (some p.1)).set n (some p.2)) (upd H t (.tup [p.1,p.2]))) (hd:∀ σ H,Pv ps.length σ H→D.nx σ H) :
  ForR J (gTup K 2 (gCons (gName m) (gCons (gName n) gNil))) tb D σ H:=by
 refine ⟨fun i k σ H=>k=ps.length - i∧i≤ps.length∧Pv i σ H,⟨_,rfl,Nat.zero_le _,h0⟩,fun i k σ' H' hw=>?_⟩
 obtain ⟨rfl,hi,p⟩:=hw
 by_cases lt:i<ps.length
 ·refine .inr ⟨it.go i H' (hl i σ' H' p) lt,Pv (i+1),fun σ2 H2 n2=>⟨_,?_,rfl,lt,n2⟩,fun v H2 y=>?_⟩
  ·omega
  ·obtain ⟨t,q,rfl,nt,hq,rfl⟩:=it.yld i H' v H2 (hl i σ' H' p) lt y
   exact gtup2 (SqT.of upd_same) (hs i q t σ' H' hq p nt)
 ·obtain rfl:i=ps.length:=by omega
  exact .inl ⟨it.stop _ _ (hl _ σ' H' p) (Nat.le_refl _),hd σ' H' p⟩
end
section
variable {X:Cx}
def rCatA (K:PySem.W.Frag):R2:=fun x y H Q=>∃ a b xs ys,x=.ref a∧y=.ref b∧SqT K H a xs∧SqT K H b ys∧xs.length+ys.length≤sizeLine ∧
 (xs=[]→Q (.ref b) H)∧(xs≠[]→ys=[]→Q (.ref a) H)∧(xs≠[]→ys≠[]→∀ p,H p=none→Q (.ref p) (upd H p (.tup (xs++ys))))
theorem op_catA:OpR X (binaryOp .Add) (rCatA X.K):=by
 intro pins s σ H x y v u Q I rx ry h
 obtain ⟨a,b,xs,ys,rfl,rfl,ha,hb,hz,q0,q1,q2⟩:=h
 by_cases hx:xs=[]
 ·cases rx
  cases ry
  obtain ⟨its,r1,p1,_⟩:=I.tuple ha
  obtain ⟨its2,r2,p2,_⟩:=I.tuple hb
  obtain ⟨⟨cls,dd,data,sl⟩,ho,hc,n,hd⟩:=id p1
  obtain ⟨⟨cls2,dd2,data2,sl2⟩,ho2,hc2,n2,hd2⟩:=id p2
  cases hc
  cases hd
  cases hc2
  cases hd2
  exact concat_meets ⟨_,ho,rfl⟩ ⟨_,ho2,rfl⟩ noFill_tuple_add seq_tuple_add PySem.F.slot_tuple_add PySem.F.entry_tuple_add (PySem.F.args_tuple_add_2 _ _)
   (tuple_addW0 a b its.toArray its2.toArray n n2 dd dd2 sl sl2 (by simp [r1.nil_iff.mpr hx])) ⟨ho,ho2,⟨.ref b,H,I,rfl,q0 hx⟩⟩
 ·exact op_catT pins s σ H _ _ v u Q I rx ry ⟨a,b,xs,ys,rfl,rfl,ha,hb,hx,hz,q1 hx,q2 hx⟩
theorem catA_go {K:PySem.W.Frag}{H:Hp}{Q:VK}{a b:Addr}{xs ys:List V}(ha:H a=some (.tup xs))(hb:H b=some (.tup ys))(hz:xs.length+ys.length≤1000)(q:∀ p H',Same H H'→H' p=some (.tup (xs++ys))→Q (.ref p) H'):rCatA K (.ref a) (.ref b) H Q:=by
 refine ⟨a,b,xs,ys,rfl,rfl,SqT.of ha,SqT.of hb,Nat.le_of_lt (small1000 hz),fun e=>q b H (Same.refl H) ?_,fun _ e=>q a H (Same.refl H) ?_,fun _ _ p hp=>q p _ (same_new hp _) upd_same⟩
 ·rw [hb,e]
  rfl
 ·rw [ha,e,List.append_nil]
end
end Sv
namespace Sv
open PySem PySem.Spec PyProof.Rows L2
structure FnM (P:Program)(w:World)(K:PySem.W.Frag)(mg:Str→Option Value)(base:Heap)(C:Addr)(m:Str)(k:Nat)(ps:List Str)(sp:Sp):Prop where
 ex:∃ (f:Addr) (fd:FuncData),FnOk P w K mg base CX0 k f fd ps sp∧Meth K C m f∧Binds K fd ps []
section
variable {P:Program}{w:World}{K:PySem.W.Frag}{mg:Str→Option Value}{base:Heap}{C:Addr}{m qual:Str}{st:Stmt}{k:Nat}{ps:List Str}{sp:Sp}
end
section
variable {X:Cx}{k j:Nat}{C:Addr}{ps:List Str}{sp:Sp}{x m:Str}{p pos apos:Pos}{e o:Expr}{es:List Expr}{ta:TE}{t:TA}{pl:Sem Bool}
end
section
variable {K:PySem.W.Frag}{H:Hp}{Q:VK}{σ:L2.St}{ta tv:TE}{t:TA}{f:Str}{D:Ends}{a C dx:Addr}{fs:List (Str×V)}{v y:V}{sp:Sp}{vs:List V}
def FldR (K:PySem.W.Frag)(f:Str)(x:V)(H:Hp)(Q:VK):Prop:=∃ a C dx fs v,x=.ref a∧H a=some (.ins C dx fs)∧Cls K C∧NoAttr K C f∧fs.lookup f=some v∧Q v H
theorem FldR.go (h:H a=some (.ins C dx fs))(c:Cls K C)(n:NoAttr K C f)(l:fs.lookup f=some v)(q:Q v H):FldR K f (.ref a) H Q:=⟨a,C,dx,fs,v,rfl,h,c,n,l,q⟩
def SFldR (K:PySem.W.Frag)(f:Str)(y x:V)(H:Hp)(R:Hp→Prop):Prop:=∃ a C dx fs,x=.ref a∧H a=some (.ins C dx fs)∧Cls K C∧NoAttr K C f∧fs.length<1000∧R (upd H a (.ins C dx (putF f y fs)))
theorem SFldR.go {R:Hp→Prop}(h:H a=some (.ins C dx fs))(c:Cls K C)(n:NoAttr K C f)(l:fs.length<1000)(q:R (upd H a (.ins C dx (putF f y fs)))):SFldR K f y (.ref a) H R:=⟨a,C,dx,fs,rfl,h,c,n,l,q⟩
def MethR (P:Program)(w:World)(K:PySem.W.Frag)(mg:Str→Option Value)(base:Heap)(j:Nat)(m:Str)(x:V)(t:TA)(σ:L2.St)(H:Hp)(Q:VK):Prop:=∃ (a C dx:Addr) (fs:List (Str×V)) (k:Nat) (ps:List Str) (sp:Sp),
 x=.ref a∧H a=some (.ins C dx fs)∧fs.lookup m=none∧k≤j∧Cls K C∧FnM P w K mg base C m k ps sp∧t σ H fun vs H2=>sp (x::vs) H2 Q E0
theorem MethR.go {P:Program}{w:World}{mg:Str→Option Value}{base:Heap}{j k:Nat}{m:Str}{ps:List Str}(F:FnM P w K mg base C m k ps sp)(h:H a=some (.ins C dx fs))(c:Cls K C)(l:fs.lookup m=none)(hk:k≤j)(q:t σ H fun vs H2=>sp (.ref a::vs) H2 Q E0):MethR P w K mg base j m (.ref a) t σ H Q :=
 ⟨a,C,dx,fs,k,ps,sp,rfl,h,l,hk,c,F,q⟩
theorem rNeB_ {i j:Bool}:rNe (.bl i) (.bl j) H Q=Q (.bl (!decide (i=j))) H:=by
 have e:decide (V.bl i=V.bl j)=decide (i=j):=decide_eq_decide.mpr ⟨fun h=>V.bl.inj h,fun h=>by rw [h]⟩
 unfold rNe
 rw [e]
 exact propext ⟨fun h=>h.2,fun h=>⟨rfl,h⟩⟩
end
end Sv
namespace Sv
open PySem PySem.Spec PyProof.Rows L2
inductive All2 {α β:Type} (R:α→β→Prop):List α→List β→Prop where
 | nil:All2 R [] []
 | cons {x:α} {y:β} {xs:List α} {ys:List β} (h:R x y) (t:All2 R xs ys):All2 R (x::xs) (y::ys)
section
variable {α β:Type}{R S:α→β→Prop}{xs us:List α}{ys vs:List β}
theorem All2.len (h:All2 R xs ys):xs.length=ys.length:=by
 induction h with
 | nil=>rfl
 | cons _ _ ih=>rw [List.length_cons,List.length_cons,ih]
theorem All2.imp (h:All2 R xs ys)(k:∀ x y,R x y→S x y):All2 S xs ys:=by
 induction h with
 | nil=>exact .nil
 | cons h _ ih=>exact .cons (k _ _ h) ih
theorem All2.app (h:All2 R xs ys)(k:All2 R us vs):All2 R (xs++us) (ys++vs):=by
 induction h with
 | nil=>exact k
 | cons h _ ih=>exact .cons h ih
theorem All2.at {i:Nat}{x:α}(h:All2 R xs ys)(e:xs[i]?=some x):∃ y,ys[i]?=some y∧R x y:=by
 induction h generalizing i with
 | nil=>cases e
 | cons h _ ih =>
  cases i with
  | zero =>
   cases e
   exact ⟨_,rfl,h⟩
  | succ i=>exact ih e
end
end Sv
namespace Sv
open PySem PySem.Spec PyProof.Rows L2
section
variable {M:Model}{A:Around}{E:Value→Shared→Prop}{env:Env}
variable {nm q:Str}{C N:Addr}{bs bm:List Value}{hdct:Bool}{sn:List Str}{sub:List Value}{ab:Bool}{col:Option Bool}{dd:Option Addr}{k0 k1 k2 k3 k5:Option Value}{newId:String}
theorem raise_made {s:Shared}{x:Sem Value}{Q:Flow→Shared→Prop}(hbase:bm.contains (.type "BaseException")=true)(hh:A.handled=none)
  (h:wpAny M A x (fun v s1=>∃ (e:Addr) (dx:Option Addr) (vs:Array Value) (sl:Array (Option Value)),v=.ref e∧s1.heap.get? C=some (excClassObj nm q C N bs bm hdct sn sub ab col dd k0 k1 k2 k3 k5 newId) ∧
   s1.heap.get? e=some ⟨.ref C,dx,.fields vs,sl⟩∧vs[1]?=some .none∧E (.ref e) s1) E s):wpAny M A (raiseStmt env (some x) none) Q E s:=by
 have hcB:(Value.ref C::bm).contains (.type "BaseException")=true:=by rw [List.contains_cons,hbase,Bool.or_true]
 unfold raiseStmt
 refine wpAny_bind (wpAny_mono h (fun v s1 h1=>?_) fun _ _ y=>y)
 obtain ⟨e,dx,vs,sl,rfl,hC,he,h1,hE⟩:=h1
 obtain ⟨hp,g,d,tk,os⟩:=s1
 repeat (first | with_reducible refine wpAny_loadPart_at he ?_ | with_reducible refine wpAny_loadPart_at hC ?_ | (with_reducible refine wpAny_isSubtype_exc hC ?_; rw [hcB]) | wp_step)
 rw [h1]
 refine wpAny_pure ?_
 rw [if_neg (by decide)]
 exact wpAny_pure (wpAny_raiseNew_none hh hE)
end
section
variable {prog:Program}{w:World}{A:Around}{E:Value→Shared→Prop}{h:Heap}{g:Array GenState}{d:Drawn}{t:Nat}{os:OsState}
variable {nm q:Str}{C N:Addr}{bs bm bmB:List Value}{hdct:Bool}{sn:List Str}{sub:List Value}{ab:Bool}{col:Option Bool}{dd:Option Addr}{k0 k1 k2 k3 k5:Option Value}{B newId initId:String}
theorem type_call_excI (F:ExcBaseFacts B newId initId bmB)(T:OwnTail h bmB bm){mN:Str→Option Value}{rest:List Value}{fI:Addr}{oI:Obj}{Q:Fin→Shared→Prop}(hC:h.get? C=some (excClassObj nm q C N bs bm hdct sn sub ab col dd k0 k1 k2 k3 k5 newId))(hn:h.Ns N mN)(hi:mN "__init__"=some (.ref fI))
  (hfI:h.get? fI=some oI) (hfc:oI.cls=.type "function") (hq:∀ h' e,Heap.MadeExcOf h h' e (.ref C) rest→h.objs.size≤e→wpAny (model prog w) A (call (.ref fI) (.ref e::rest)) (fun r s'=>r=.none∧Q (.done (.ret (.ref e))) s') E ⟨h',g,d,t,os⟩) (hrest:rest.length≤sizeLine) :
  wpAny (model prog w) A (Builtin.«type.__call__» ⟨.ref C::rest,[]⟩) Q E ⟨h,g,d,t,os⟩:=by
 repeat (first | with_reducible refine wpAny_loadPart_at hC ?_ | with_reducible refine wpAny_madeBy_exc hC ?_ | wp_step)
 refine codeAny_call_builtin_code (Code.quiet_builtin _ F.quiet) (wpAny_check_new_subU F F.hasB T hC (codeAny_exc_new_subU F F.hasB F T hC ?_ hrest))
 show wpAny _ _ _ _ _ _
 have up:∀ b o,h.get? b=some o→((h.push { cls:=.type "tuple",data:=.seq rest.toArray }).push { cls:=.ref C,data:=.fields #[.ref h.objs.size,.none,.none,.none,.bool false,.none] }).get? b=some o:=fun b o e=>Heap.get?_push_of_some _ (Heap.get?_push_of_some _ e)
 have hget:((h.push { cls:=.type "tuple",data:=.seq rest.toArray }).push { cls:=.ref C,data:=.fields #[.ref h.objs.size,.none,.none,.none,.bool false,.none] }).get? (h.objs.size+1)=some { cls:=.ref C,data:=.fields #[.ref h.objs.size,.none,.none,.none,.bool false,.none] }:=by heap_get
 have gt:((h.push { cls:=.type "tuple",data:=.seq rest.toArray }).push { cls:=.ref C,data:=.fields #[.ref h.objs.size,.none,.none,.none,.bool false,.none] }).get? h.objs.size=some { cls:=.type "tuple",data:=.seq rest.toArray }:=Heap.get?_push_of_some _ (Heap.get?_push_at rfl rfl)
 have hC1:=up _ _ hC
 have hn1:((h.push { cls:=.type "tuple",data:=.seq rest.toArray }).push { cls:=.ref C,data:=.fields #[.ref h.objs.size,.none,.none,.none,.bool false,.none] }).Ns N mN:=hn.keeps up
 have hcC:(Value.ref C::bm).contains (.ref C)=true:=by simp
 have T1:=T.keeps up
 unfold isInstance
 repeat (first | with_reducible refine wpAny_loadPart_at hget ?_ | (with_reducible refine wpAny_isSubtype_exc hC1 ?_; rw [hcC]) | wp_step)
 show wpAny _ _ (typeLookup (.ref C) _) _ _ _
 refine wpAny_typeLookup_tail hC1 hn1 T1 F.mroIs F.init.lookup ?_
 rw [hi]
 refine wpAny_holding (wpAny_bind ?_)
 unfold bindSpecial
 refine wpAny_bind (wpAny_typeOf (T:="function") ⟨_,up _ _ hfI,hfc⟩ ?_)
 rw [if_pos (by decide)]
 refine wpAny_pure (wpAny_bind (wpAny_mono (hq _ (h.objs.size+1) ⟨up,Heap.get?_none_of_le (Nat.le_succ _),h.objs.size,hget,Heap.get?_none_of_le (Nat.le_refl _),gt⟩ (Nat.le_succ _)) (fun r s' hr=>?_) fun _ _ y=>y))
 obtain ⟨rfl,hQ⟩:=hr
 wp_walk
 exact hQ
theorem call_excI (F:ExcBaseFacts B newId initId bmB)(T:OwnTail h bmB bm){mN:Str→Option Value}{rest:List Value}{fI:Addr}{oI:Obj}{Q:Value→Shared→Prop}(hC:h.get? C=some (excClassObj nm q C N bs bm hdct sn sub ab col dd k0 k1 k2 k3 k5 newId))(hn:h.Ns N mN)(hi:mN "__init__"=some (.ref fI))
  (hfI:h.get? fI=some oI) (hfc:oI.cls=.type "function") (hq:∀ h' e,Heap.MadeExcOf h h' e (.ref C) rest→h.objs.size≤e→wpAny (model prog w) (A.under (.builtin "type.__call__" ⟨.ref C::rest,[]⟩)) (call (.ref fI) (.ref e::rest)) (fun r s'=>r=.none∧Q (.ref e) s') E ⟨h',g,d,t,os⟩) (hrest:rest.length≤sizeLine) :
  wpAny (model prog w) A (call (.ref C) rest) Q E ⟨h,g,d,t,os⟩:=by
 have f1:=tc_lookup
 have f2:=tc_bind (.ref C)
 have hT:(⟨h,g,d,t,os⟩:Shared).TypeIs (.ref C) "type":=⟨_,hC,rfl⟩
 refine wpAny_call (codeAny_of_tree (show wpAny _ _ (callAny (.ref C) _) _ _ _ from ?_))
 repeat (any_goals (first | assumption | with_reducible refine wpAny_loadPart_at hC ?_ | wp_step))
 refine ⟨rfl,codeAny_call_builtin_at (Code.quiet_builtin _ (by decide +kernel)) entry_typeCall (wpAny_check_type_call_sub hC (type_call_excI F T hC hn hi hfI hfc (fun h' e hm le=>?_) hrest))⟩
 exact hq h' e hm le
end
section
variable {prog:Program}{w:World}{A:Around}{E:Value→Shared→Prop}{s:Shared}{env:Env}
variable {nm q:Str}{C N:Addr}{bs bm bmB:List Value}{hdct:Bool}{sn:List Str}{sub:List Value}{ab:Bool}{col:Option Bool}{dd:Option Addr}{k0 k1 k2 k3 k5:Option Value}{B newId initId:String}
theorem raise_callI (F:ExcBaseFacts B newId initId bmB){mN:Str→Option Value}{x:Str}{np cpos pos:Pos}{args:List Expr}{fI:Addr}{oI:Obj}{Q:Flow→Shared→Prop}(hbase:bm.contains (.type "BaseException")=true)(hh:A.handled=none)(hplain:(backTo cpos (starEach args env)).any (·.1)=false)(hi:mN "__init__"=some (.ref fI))(hfc:oI.cls=.type "function")
  (h:wpAny (model prog w) A (eval (.Name x np) env) (fun f s1=>f=.ref C∧wpAny (model prog w) A (evalArgs (.ref C) true (backTo cpos (starEach args env)) [])
   (fun a s2=>a.kw=[]∧a.pos.length≤sizeLine∧s2.heap.get? C=some (excClassObj nm q C N bs bm hdct sn sub ab col dd k0 k1 k2 k3 k5 newId)∧s2.heap.Ns N mN∧OwnTail s2.heap bmB bm∧s2.heap.get? fI=some oI ∧
    ∀ h' e,Heap.MadeExcOf s2.heap h' e (.ref C) a.pos→s2.heap.objs.size≤e→wpAny (model prog w) (A.under (.builtin "type.__call__" ⟨.ref C::a.pos,[]⟩)) (call (.ref fI) (.ref e::a.pos)) (fun r s'=>r=.none ∧
     s'.heap.get? C=some (excClassObj nm q C N bs bm hdct sn sub ab col dd k0 k1 k2 k3 k5 newId)∧(∃ (dx:Option Addr) (vs:Array Value) (sl:Array (Option Value)),s'.heap.get? e=some ⟨.ref C,dx,.fields vs,sl⟩∧vs[1]?=some .none)∧E (.ref e) s') E { s2 with heap:=h' }) E s1) E s) :
  wpAny (model prog w) A (exec (.Raise (some (.Call (.Name x np) args [] cpos)) none pos) env) Q E s:=by
 rw [arm_exec_Raise]
 first
  | refine wpAny_bind (wpAny_standAt (raise_made (C:=C) (nm:=nm) (q:=q) (N:=N) (bs:=bs) (bm:=bm) (hdct:=hdct) (sn:=sn) (sub:=sub) (ab:=ab) (col:=col) (dd:=dd) (k0:=k0) (k1:=k1) (k2:=k2) (k3:=k3) (k5:=k5) (newId:=newId) hbase hh (wpAny_bind (wpAny_mono (wpAny_Call_ofName (wpAny_mono h (fun f s1 h1=>?_) fun _ _ y=>y)) (fun v s3 h3=>wpAny_bind (wpAny_standAt (wpAny_pure h3))) fun _ _ y=>y))))
  | (simp only [evalOpt,Option.map]; refine wpAny_bind (wpAny_standAt (raise_made (C:=C) (nm:=nm) (q:=q) (N:=N) (bs:=bs) (bm:=bm) (hdct:=hdct) (sn:=sn) (sub:=sub) (ab:=ab) (col:=col) (dd:=dd) (k0:=k0) (k1:=k1) (k2:=k2) (k3:=k3) (k5:=k5) (newId:=newId) hbase hh (wpAny_bind (wpAny_mono (wpAny_Call_ofName (wpAny_mono h (fun f s1 h1=>?_) fun _ _ y=>y)) (fun v s3 h3=>wpAny_bind (wpAny_standAt (wpAny_pure h3))) fun _ _ y=>y)))))
 obtain ⟨rfl,h1⟩:=h1
 unfold callWith
 refine wpAny_bind (wpAny_holding (wpAny_mono h1 (fun a s2 h2=>wpAny_bind (wpAny_standAt ?_)) fun _ _ y=>y))
 obtain ⟨apos,akw⟩:=a
 obtain ⟨hkw,hlen,hC,hn,T,hf,h2⟩:=h2
 obtain rfl:akw=[]:=hkw
 obtain ⟨hp,g,d,tk,os⟩:=s2
 simp only [hplain]
 refine wpAny_bind (wpAny_keeperOf_exc hC ?_)
 refine wpAny_bind (call_excI F T hC hn hi hf hfc (fun h' e hm le=>?_) hlen)
 refine wpAny_mono (h2 h' e hm le) (fun r s' hr=>?_) fun _ _ y=>y
 obtain ⟨rfl,hC',⟨dx,vs,sl,he,h1⟩,hE⟩:=hr
 exact ⟨rfl,wpAny_bind (wpAny_holding (wpAny_point (wpAny_pure ⟨e,dx,vs,sl,rfl,hC',he,h1,hE⟩)))⟩
end
end Sv
namespace Sv
open PySem PySem.Spec PyProof.Rows L2 PySem.W Builtin Builtin.ObjectAttr
def veTail:List Value→Bool
 | .ref _::r=>veTail r
 | [.type a,.type b,.type c,.type d]=>a == "ValueError" && b == "Exception" && c == "BaseException" && d == "object"
 | _=>false
theorem ve_refuse (self:Value):∀ {l:List Value},veTail l=true→refuseLoop self "__setattr__" l=pure ()
 | .ref c::r,e=>by
  rw [refuseLoop_ref]
  exact ve_refuse self (l:=r) (by simpa [veTail] using e)
 | [.type a,.type b,.type c,.type d],e=>by
  simp only [veTail,Bool.and_eq_true,beq_iff_eq] at e
  obtain ⟨⟨⟨rfl,rfl⟩,rfl⟩,rfl⟩:=e
  exact PySem.F.store_ValueError.passes self
theorem ve_object:∀ {l:List Value},veTail l=true→l.contains (.type "object")=true
 | .ref c::r,e=>by rw [List.contains_cons,ve_object (l:=r) (by simpa [veTail] using e),Bool.or_true]
 | [.type a,.type b,.type c,.type d],e=>by
  simp only [veTail,Bool.and_eq_true,beq_iff_eq] at e
  obtain ⟨⟨⟨rfl,rfl⟩,rfl⟩,rfl⟩:=e
  simp
def overVE (K:PySem.W.Frag)(C:Addr):Bool:=(PySem.W.clsIn K C).any fun cd=>veTail cd.mro
section
variable {K:PySem.W.Frag}{prog:Program}{w:World}{A:Around}{E:Value→Shared→Prop}{s:Shared}{x C:Addr}{name:Str}{v:Value}
theorem osa_exc {ox:Obj}{od:Option Obj}{tk:Tok}{R:Result→Shared→Prop}(X:K.In s.heap)(I:PySem.W.InstAt s.heap x ox C od)(hp:overVE K C=true)(ht:PySem.W.findIn K (.ref C) name=some none)
  (h:wpAny (model prog w) A.in1 (storeInOwnDict (.ref x) (.ref C) (.str name tk) name v false) (fun fin s'=>match fin with | .done f=>R (.ok f) s' | .again c'=>c'.quiet=true∧codeAny (model prog w) A c' R s') (fun e s'=>R (.error e) s') s) :
  codeAny (model prog w) A (.call (.builtin "object.__setattr__") ⟨[.ref x,.str name tk,v],[]⟩) R s:=by
 have SF:=PySem.F.store_object
 obtain ⟨cd,hc,ho⟩:=PySem.W.any_some hp
 have ne:cd.mro.isEmpty=false:=by cases q:cd.mro with | nil=>rw [q] at ho; cases ho | cons _ _=>rfl
 have sub:PySem.W.Looks (model prog w) s.heap (isInstance (.ref x) (.type "object")) true:=I.type.andThen (PySem.W.looks_mroIn X (by unfold PySem.W.mroIn; rw [hc,Option.bind_some,if_neg (by rw [ne]; decide),ve_object ho]))
 refine codeAny_call_builtin SF.slot.plain SF.entry (@PySem.W.check_slot (model prog w) _ _ s "object.__setattr__" "object" "__setattr__" (.ref x) [.str name tk,v] [] _ SF.kind SF.split sub (SF.args (.ref x) (.str name tk) v) ?_)
 have hm:PySem.W.Looks (model prog w) s.heap (mroOf (.ref C)) cd.mro:=(PySem.W.looks_clsIn X hc).andThen .now
 rw [PySem.W.osa_eq,refuse_eq]
 refine wpAny_bind (wpAny_bind (I.type.here (wpAny_bind (hm.here ?_))))
 rw [ve_refuse _ ho]
 exact wpAny_pure (wpAny_bind (I.type.here (wpAny_bind ((PySem.W.looks_findIn X ht).here (wpAny_bind (wpAny_pure h))))))
theorem store_new {ox:Obj}{Q:Unit→Shared→Prop}(X:K.In s.heap)(I:PySem.W.InstAt s.heap x ox C none)(hp:overVE K C=true)(hd:PySem.W.hasDictIn K C=true)(ht:PySem.W.findIn K (.ref C) name=some none)(hs:PySem.W.findIn K (.ref C) "__setattr__"=some (some (.builtin "object.__setattr__")))
  (k:∀ h' d tk,s.heap.get? d=none→d=s.heap.objs.size→h'.get? x=some { ox with dict:=some d }→h'.Ns1 d (fun y=>if y=name then some v else none)→(∀ b o,b≠x→s.heap.get? b=some o→h'.get? b=some o)→Q () { s with heap:=h',toks:=tk }):wpAny (model prog w) A (setAttr (.ref x) name v) Q E s:=by
 obtain ⟨hx,hcl,hn,hdx⟩:=id I
 obtain ⟨oc,odi,oda,osl⟩:=ox
 dsimp only at hcl hdx
 subst hcl
 cases odi with
 | some dx=>exact absurd hdx (fun z=>z)
 | none =>
  refine PySem.W.set_plain X I hs (osa_exc (s:={ s with toks:=s.toks+1 }) X I hp ht ?_)
  obtain ⟨cd,hc,hd'⟩:=PySem.W.any_some hd
  refine wpAny_bind (wpAny_pure (wpAny_bind (wpAny_bind (wpAny_loadPart hx (wpAny_bind (PySem.W.Looks.here (s:={ s with toks:=s.toks+1 }) (PySem.W.looks_clsIn X hc) ?_))))))
  rw [hd']
  have hxs:x≠s.heap.objs.size:=Nat.ne_of_lt (Heap.lt_size hx)
  have hx1:(s.heap.push { cls:=.type "dict",data:=.dict #[] }).get? x=some ⟨.ref C,none,oda,osl⟩:=Heap.get?_push_of_some _ hx
  have body:wpAny (model prog w) A.in1 (do let d ← alloc { cls:=.type "dict",data:=.dict #[] }; update x fun o=>{ o with dict:=some d }; dictMade (.ref C) x d)
    (fun r s'=>∃ d,r=some d∧d=s.heap.objs.size∧s'={ s with heap:=(s.heap.push { cls:=.type "dict",data:=.dict #[] }).update x fun o=>{ o with dict:=some d },toks:=s.toks+1 }) (fun _ _=>False) { s with toks:=s.toks+1 }:=by
   refine wpAny_bind (wpAny_alloc' (wpAny_bind (wpAny_update' hx1 ?_)))
   exact wpAny_bind (wpAny_pure (wpAny_pure ⟨_,rfl,rfl,rfl⟩))
  have nc:∀ c,oda≠.cls c:=fun c z=>by
   subst z
   cases hn
  rw [if_neg (by decide)]
  dsimp only
  rw [if_neg (by simp [typeHasDict])]
  refine wpAny_mono (Q:=fun r s'=>∃ d,r=some d∧d=s.heap.objs.size∧s'={ s with heap:=(s.heap.push { cls:=.type "dict",data:=.dict #[] }).update x fun o=>{ o with dict:=some d },toks:=s.toks+1 }) (E:=fun _ _=>False) ?_ (fun r s' hr=>?_) fun _ _ z=>z.elim
  ·refine Eq.mpr (congrArg (fun m=>wpAny (model prog w) A.in1 m _ _ _) ?_) body
   clear k body
   cases oda <;> first | rfl | exact absurd rfl (nc _)
  obtain ⟨d,rfl,rfl,rfl⟩:=hr
  have hgd:((s.heap.push { cls:=.type "dict",data:=.dict #[] }).update x fun o=>{ o with dict:=some s.heap.objs.size }).get? s.heap.objs.size=some { cls:=.type "dict",data:=.dict #[] }:=(Heap.get?_update_ne _ _ _ _ hxs.symm).trans (Heap.get?_push_at rfl rfl)
  have hnd:((s.heap.push { cls:=.type "dict",data:=.dict #[] }).update x fun o=>{ o with dict:=some s.heap.objs.size }).Ns s.heap.objs.size (fun _=>none):=⟨_,#[],_,hgd,rfl,(fun e he=>absurd he (by simp)),fun _=>rfl⟩
  show wpAny _ _ (storeInDict s.heap.objs.size (.str name _) name v) _ _ _
  unfold storeInDict newKeyGuard
  refine wpAny_bind (wpAny_pure (wpAny_bind (wpAny_nsSet1 (Heap.Ns1.of_empty hnd) fun h' hn' hs2=>?_)))
  obtain ⟨oD,esD,epD,hoD,hdD,hcD⟩:=hn'.count (PySem.Within.cons name v PySem.Within.nil)
  refine wpAny_bind (wpAny_lookBehind hoD (by rw [hdD]; exact pastItsLine_dict (Nat.le_trans hcD (by rw [List.length_cons,List.length_nil,sizeLine_eq]; omega))) ?_)
  refine wpAny_pure (k h' s.heap.objs.size _ (Heap.get?_none_of_le (Nat.le_refl _)) rfl ?_ hn' fun b o hb q=>?_)
  ·refine (hs2.2 x hxs).trans (Heap.get?_update_self _ hx1 ?_)
   have hfr:=(Heap.get?_some_iff.mp hx).2
   cases oda <;> first | rfl | exact hfr
  ·exact (hs2.2 b (Nat.ne_of_lt (Heap.lt_size q))).trans ((Heap.get?_update_ne _ _ _ _ hb).trans (Heap.get?_push_of_some _ q))
end
end Sv
namespace Sv
open PySem PySem.Spec PyProof.Rows L2
section
variable {prog:Program}{w:World}{A:Around}{E:Value→Shared→Prop}{K:PySem.W.Frag}{x D:Addr}{ox:Obj}{odo:Option Obj}{name:Str}{s:Shared}
theorem ga_val {v:Value}{tk:Tok}{Q:Fin→Shared→Prop}(X:K.In s.heap)(I:PySem.W.InstAt s.heap x ox D odo)(hf:PySem.W.findObj K D odo name=some (.value v))(h:Q (.done (.ret v)) s):wpAny (model prog w) A (Builtin.«object.__getattribute__» ⟨[.ref x,.str name tk],[]⟩) Q E s:=by
 obtain ⟨hh,gg,d,t,os⟩:=s
 have L0:=I.type (M:=model prog w)
 have L1:=PySem.W.looks_find (M:=model prog w) X I hf
 unfold Builtin.«object.__getattribute__»
 refine wpAny_bind (wpAny_pure (wpAny_bind (wpAny_pure (wpAny_bind (L0.at (wpAny_bind (L1.at ?_)))))))
 exact wpAny_pure h
theorem exc_attr {v:Value}{b:Bool}{Q:Value→Shared→Prop}(X:K.In s.heap)(I:PySem.W.InstAt s.heap x ox D odo)(Z:ExcI K D)(hf:PySem.W.findObj K D odo name=some (.value v))(hv:PySem.W.handedIn v=true)(h:Q v { s with toks:=s.toks+1 }):wpAny (model prog w) A (getAttr (.ref x) name b) Q E s:=by
 obtain ⟨hh,g,d,t,os⟩:=s
 have L0:=I.type (M:=model prog w)
 have L1:=PySem.W.looks_findIn (M:=model prog w) X Z.hg
 have L2:=PySem.W.looks_findIn (M:=model prog w) X Z.hgn
 unfold getAttr getAttrBy
 refine wpAny_bind (wpAny_mkText (wpAny_holding (wpAny_bind (L0.at (wpAny_bind (L1.at ?_))))))
 have hne:(onTheHeap (Value.ref D) && Value.builtin "BaseException.__getattribute__" == Value.builtin "object.__getattribute__")=false:=by
  rw [show (Value.builtin "BaseException.__getattribute__" == Value.builtin "object.__getattribute__")=false by decide +kernel]
  rfl
 show wpAny _ _ (if (onTheHeap (Value.ref D) && Value.builtin "BaseException.__getattribute__" == Value.builtin "object.__getattribute__")=true then _ else getAttrByItsOwn _ _ _ _ _ _) _ _ _
 rw [hne,if_neg Bool.false_ne_true]
 unfold getAttrByItsOwn
 refine wpAny_bind (show wpAny _ _ (typeLookup (.ref D) "__getattr__") _ _ _ from L2.at (wpAny_bind (wpAny_attempt (wpAny_holding ?_))))
 unfold callGetattribute boundAndCalled
 rw [if_neg (by cases b <;> decide),ga_bind]
 refine wpAny_bind (wpAny_pure (show wpAny _ _ (call _ [.ref x,.str name t]) _ _ _ from ?_))
 refine wpAny_call (codeAny_call_builtin F.excAttr_ValueError.ga.plain F.entry_bexc_ga (ga_check X I Z.hb (ga_val X I hf ?_)))
 exact PySem.W.handed_on hv h
theorem exc_classD {Q:Option Value→Shared→Prop}(X:K.In s.heap)(I:PySem.W.InstAt s.heap x ox D odo)(Z:ExcI K D)(h:Q (some (.ref D)) { s with toks:=s.toks+1 }):wpAny (model prog w) A (getAttr? (.ref x) "__class__") Q E s:=by
 have hf:PySem.W.findObj K D odo "__class__"=some (.bind (.builtin "getset_descriptor.__get__") (.builtin "object.__class__")):=by
  obtain ⟨cd,hc,_⟩:=PySem.W.any_some Z.hd
  unfold PySem.W.findObj
  rw [hc,Option.bind_some,Z.ha,Option.bind_some]
  simp [Z.hn,Z.ht]
 obtain ⟨hh,g,d,t,os⟩:=s
 have L0:=I.type (M:=model prog w)
 have L1:=PySem.W.looks_findIn (M:=model prog w) X Z.hg
 have L2:=PySem.W.looks_findIn (M:=model prog w) X Z.hgn
 unfold getAttr? getAttrBy? getAttrBy
 refine wpAny_bind (wpAny_mkText (wpAny_bind (wpAny_attempt (wpAny_holding (wpAny_bind (L0.at (wpAny_bind (L1.at ?_))))))))
 have hne:(onTheHeap (Value.ref D) && Value.builtin "BaseException.__getattribute__" == Value.builtin "object.__getattribute__")=false:=by
  rw [show (Value.builtin "BaseException.__getattribute__" == Value.builtin "object.__getattribute__")=false by decide +kernel]
  rfl
 show wpAny _ _ (if (onTheHeap (Value.ref D) && Value.builtin "BaseException.__getattribute__" == Value.builtin "object.__getattribute__")=true then _ else getAttrByItsOwn _ _ _ _ _ _) _ _ _
 rw [hne,if_neg Bool.false_ne_true]
 unfold getAttrByItsOwn
 refine wpAny_bind (show wpAny _ _ (typeLookup (.ref D) "__getattr__") _ _ _ from L2.at (wpAny_bind (wpAny_attempt (wpAny_holding (show wpAny _ _ (boundAndCalled _ _ _) _ _ _ from ?_)))))
 unfold boundAndCalled
 rw [ga_bind]
 refine wpAny_bind (wpAny_pure (show wpAny _ _ (call _ [.ref x,.str "__class__" t]) _ _ _ from ?_))
 refine wpAny_call (codeAny_call_builtin F.excAttr_ValueError.ga.plain F.entry_bexc_ga (ga_check X I Z.hb (ga_body X I hf (wpAny_call ?_))))
 refine PySem.W.class_get (s:=⟨hh,g,d,t+1,os⟩) (ox:=ox) (od:=odo) X I Z.hm ?_
 exact (show wpAny _ _ (handedOut (.ref D)) _ _ _ from PySem.W.handed_on rfl (wpAny_pure h))
end
theorem kitx_excD {K:PySem.W.Frag}{a D:Addr}{ox:Obj}{odo:Option Obj}(Z:ExcI K D):PySem.W.KitX K (.ref a) (.ref D) (fun h=>PySem.W.InstAt h a ox D odo) where
 ty:=fun _ _ _ I=>I.type
 it:=fun _ _ kin _=>by
  obtain ⟨cd,hc,_⟩:=PySem.W.any_some Z.hd
  unfold PySem.W.clsIn at hc
  split at hc
  ·rename_i _ _ _ _ ho
   intro _ _ _ _ kp q
   unfold isType loadHead
   exact wpAny_bind (wpAny_loadPart (kp _ _ (kin _ _ ho)) (wpAny_pure q))
  ·cases hc
 ne:=fun h tp _ _ _ _ kin htp=>by
  obtain ⟨cd,hc,_⟩:=PySem.W.any_some Z.hd
  refine Bool.eq_false_iff.mpr fun q=>?_
  obtain rfl:D=tp:=Value.ref.inj (beq_iff_eq.mp q)
  unfold PySem.W.clsIn at hc
  split at hc
  ·rename_i _ _ _ _ ho
   have z:=(kin _ _ ho).symm.trans htp
   cases z
  ·cases hc
 ca:=fun {prog w A E Q s} kin I q=>exc_classD kin I Z q
def IsExc (H:Hp)(a C:Addr)(dd:Option Addr):Prop:=∃ φ,H a=some (.ext φ)∧∀ h,φ h→∃ (vs:Array Value) (sl:Array (Option Value)),h.get? a=some ⟨.ref C,dd,.fields vs,sl⟩
theorem IsExc.of {H:Hp}{a C:Addr}{dd:Option Addr}(h:H a=some (excO a (.ref C) dd)):IsExc H a C dd:=⟨_,h,fun _ z=>z⟩
section
variable {X:Cx}{e:Expr}{ta:TE}{f:Str}{pos:Pos}
theorem IsExc.inst {pins:List (Addr×Obj)}{σ:L2.St}{H:Hp}{s:Shared}{a C d:Addr}{fs:List (Str×V)}(I:Inv X pins σ H s)(h:IsExc H a C (some d))(hd:H d=some (.xd fs)):∃ (ox od:Obj) (mA:Str→Option Value),PySem.W.InstAt s.heap a ox C (some od)∧(∀ n,PySem.W.lookIn n od=some (mA n))∧∀ n,RelO (fs.lookup n) (mA n):=by
 obtain ⟨φ,ha,k⟩:=h
 obtain ⟨vs,sl,hx⟩:=k _ (show ObjOk X.prog X.w H s.heap a (.ext φ) from I.hok a _ ha).1
 obtain ⟨mA,ns,r⟩:=(show ObjOk X.prog X.w H s.heap d (.xd fs) from I.hok d _ hd)
 obtain ⟨od,ho,lk⟩:=lookIn_ns ns
 exact ⟨_,od,mA,⟨hx,rfl,rfl,ho⟩,lk,r⟩
def FldE (K:PySem.W.Frag)(f:Str)(x:V)(H:Hp)(Q:VK):Prop:=∃ a C d fs v,x=.ref a∧IsExc H a C (some d)∧H d=some (.xd fs)∧ExcI K C∧NoAttr K C f∧fs.lookup f=some v∧Q v H
def tFldE (K:PySem.W.Frag)(ta:TE)(f:Str):TE:=fun σ H Q=>ta σ H fun x H1=>FldE K f x H1 Q
theorem pe_fldE (he:PE X e ta)(hb:attributeBase e f X.env (eval e X.env)=eval e X.env):PE X (.Attribute e f pos) (tFldE X.K ta f):=by
 intro pins s σ H Q I h
 refine attr_of hb (thn (he pins s σ H _ I h) fun u s1 ⟨x,H1,I1,rx,a,C,d,fs,v,ex,ha,hd,Z,na,l,q⟩=>?_)
 subst ex
 obtain rfl:u=Value.ref a:=rx
 obtain ⟨ox,od,mA,J,lk,r⟩:=ha.inst I1 hd
 obtain ⟨u,hu,ru⟩:=RelO.some_of (v:=v) (o:=mA f) (by rw [← l]; exact r f)
 have hf:PySem.W.findObj X.K C (some od) f=some (.value u):=by
  obtain ⟨cd,hc,hdc⟩:=PySem.W.any_some Z.hd
  unfold PySem.W.findObj
  rw [hc,Option.bind_some,show PySem.W.findIn X.K (.ref C) f=some none from na,Option.bind_some]
  simp only [Option.bind_some,PySem.W.ownOf,hdc,if_true,lk,hu]
 exact exc_attr I1.kIn J Z hf (handed_of ru) ⟨v,H1,I1.tok _,ru,q⟩
def rIsiE (K:PySem.W.Frag):List V→Hp→VK→Prop:=fun xs H Q=>∃ (a C':Addr) (dd:Option Addr) (c:V) (b:Bool),xs=[.ref a,c]∧((∃ T,c=.ty T)∨∃ C,c=.ref C)∧IsExc H a C' dd∧(∀ d,dd=some d→∃ fs,H d=some (.xd fs))∧ExcI K C'∧PySem.W.kitOne K (.ref C') (clsV c)=some b∧Q (.bl b) H
theorem call_isiE:CallR X (.builtin "isinstance") (rIsiE X.K):=by
 intro pins s σ H xs us Q I r h
 obtain ⟨a,C',dd,c,b,rfl,hc,ha,hd,Z,e,q⟩:=h
 obtain ⟨u,v,rfl,ru,rv⟩:=Vals.two r
 obtain rfl:u=Value.ref a:=ru
 obtain rfl:v=clsV c:=by
  rcases hc with ⟨T,rfl⟩ | ⟨C,rfl⟩
  ·exact rv
  ·exact rv
 cases dd with
 | none =>
  obtain ⟨φ,ha,k⟩:=ha
  obtain ⟨vs,sl,hx⟩:=k _ (show ObjOk X.prog X.w H s.heap a (.ext φ) from I.hok a _ ha).1
  exact PySem.W.kia_one (kitx_excD (ox:=⟨.ref C',none,.fields vs,sl⟩) (odo:=none) Z) I.kIn ⟨hx,rfl,rfl,trivial⟩ e (fun z=>nomatch z) fun tk=>⟨.bl b,H,I.tok tk,rfl,q⟩
 | some d =>
  obtain ⟨fs,hd⟩:=hd d rfl
  obtain ⟨ox,od,mA,J,_,_⟩:=ha.inst I hd
  exact PySem.W.kia_one (kitx_excD (ox:=ox) (odo:=some od) Z) I.kIn J e (fun z=>nomatch z) fun tk=>⟨.bl b,H,I.tok tk,rfl,q⟩
end
end Sv
namespace Sv
open PySem PySem.Spec PyProof.Rows L2
section
variable {prog:Program}{w:World}{A:Around}{E:Value→Shared→Prop}{h:Heap}{g:Array GenState}{d:Drawn}{t:Nat}{os:OsState}
variable {nm q:Str}{C N:Addr}{bs bm bmB:List Value}{hdct:Bool}{sn:List Str}{sub:List Value}{ab:Bool}{col:Option Bool}{dd:Option Addr}{k0 k1 k2 k3 k5:Option Value}{B newId nid initId:String}
theorem base_init (F:ExcBaseFacts B nid initId bmB)(T:OwnTail h bmB bm){e:Addr}{dx:Option Addr}{vs:Array Value}{sl:Array (Option Value)}{m:Value}{Q:Value→Shared→Prop}(hC:h.get? C=some (excClassObj nm q C N bs bm hdct sn sub ab col dd k0 k1 k2 k3 k5 newId))(he:h.get? e=some ⟨.ref C,dx,.fields vs,sl⟩){t0:Addr}(h0:vs[0]?=some (.ref t0))
  (hq:∀ h' a,h'.get? e=some ⟨.ref C,dx,.fields (vs.setIfInBounds 0 (.ref a)),sl⟩→(∀ b o,b≠e→h.get? b=some o→h'.get? b=some o)→Q .none ⟨h',g,d,t,os⟩):wpAny (model prog w) A (call (.builtin initId) [.ref e,m]) Q E ⟨h,g,d,t,os⟩:=by
 refine wpAny_call (codeAny_call_builtin F.init.plain F.initEntry (wpAny_check_init_subU F T hC he rfl ?_))
 have hz:0<vs.size:=(Array.getElem?_eq_some_iff.mp h0).1
 have he1:(h.push { cls:=.type "tuple",data:=.seq #[m] }).get? e=some ⟨.ref C,dx,.fields vs,sl⟩:=Heap.get?_push_of_some _ he
 unfold Builtin.«BaseException.__init__»
 wp_walk
 rw [h0]
 refine wpAny_pure (wpAny_bind (wpAny_setField he1 rfl hz (wpAny_letGo (wpAny_pure ?_))))
 refine hq _ h.objs.size ?_ fun b o hb q=>?_
 ·rw [Heap.get?_update_self _ he1 rfl]
  rfl
 ·rw [Heap.get?_update_ne _ _ _ _ hb]
  exact Heap.get?_push_of_some _ q
end
def exN (a C:Addr)(dd:Option Addr):HO:=.ext fun h=>∃ (vs:Array Value) (sl:Array (Option Value)) (t0:Addr),h.get? a=some ⟨.ref C,dd,.fields vs,sl⟩∧vs[0]?=some (.ref t0)∧vs[1]?=some .none∧vs[2]?=some .none∧4<vs.size
theorem IsExc.new {H:Hp}{a C:Addr}{dd:Option Addr}(h:H a=some (exN a C dd)):IsExc H a C dd:=⟨_,h,fun _ ⟨vs,sl,_,q,_⟩=>⟨vs,sl,q⟩⟩
theorem exN_ok {P:Program}{w:World}{H:Hp}{h:Heap}{a C:Addr}{dd:Option Addr}{vs:Array Value}{sl:Array (Option Value)}{t0:Addr}(e:h.get? a=some ⟨.ref C,dd,.fields vs,sl⟩)(h0:vs[0]?=some (.ref t0))(h1:vs[1]?=some .none∧vs[2]?=some .none∧4<vs.size):ObjOk P w H h a (exN a C dd) :=
 ⟨⟨vs,sl,t0,e,h0,h1⟩,⟨_,e⟩,fun _ _ ⟨vs',sl',t',q,r⟩ k=>⟨vs',sl',t',k _ q,r⟩⟩
structure ExcS (K:PySem.W.Frag)(C:Addr):Prop where
 ov:overVE K C=true
 hd:PySem.W.hasDictIn K C=true
 sa:PySem.W.findIn K (.ref C) "__setattr__"=some (some (.builtin "object.__setattr__"))
section
variable {X:Cx}{o value:Expr}{f:Str}{ta tv:TE}{pos pos':Pos}
def SFldX (K:PySem.W.Frag)(f:Str)(y x:V)(H:Hp)(R:Hp→Prop):Prop:=∃ a C,x=.ref a∧H a=some (exN a C none)∧ExcS K C∧NoAttr K C f∧∀ d,H d=none→R (upd (upd H d (.xd [(f,y)])) a (exN a C (some d)))
def sFldX (K:PySem.W.Frag)(ta tv:TE)(f:Str):TS:=fun D σ H=>tv σ H fun y H1=>ta σ H1 fun x H2=>SFldX K f y x H2 fun H'=>D.nx σ H'
theorem ps_fldX (ha:PE X o ta)(hv:PE X value tv)(hs:swapsWith value (some (.Attribute o f pos')) pos.line X.env=pure false):PS X (.Assign [.Attribute o f pos'] value pos) (sFldX X.K ta tv f):=by
 intro pins s σ H D I h
 refine plainObj_wpAny_Assign_Attribute (thn (hv pins s σ H _ I h) fun u s1 ⟨y,H1,I1,ry,q⟩=>thn (ha pins s1 σ H1 _ I1 q) fun ov s2 ⟨x,H2,I2,rx,a,C,ex,ea,S,na,q2⟩=>?_) hs
 subst ex
 obtain rfl:ov=Value.ref a:=rx
 obtain ⟨⟨vs,sl,t0,hx,h0,h1⟩,_,_⟩:=(show ObjOk X.prog X.w H2 s2.heap a (exN a C none) from I2.hok a _ ea)
 refine store_new (ox:=⟨.ref C,none,.fields vs,sl⟩) I2.kIn ⟨hx,rfl,rfl,trivial⟩ S.ov S.hd na S.sa fun h' d tk hd ed hx' ns kk=>?_
 subst ed
 obtain ⟨od,es,ep,hod,rest⟩:=id ns
 have nd:H2 s2.heap.objs.size=none:=I2.fresh
 have ne:a≠s2.heap.objs.size:=Nat.ne_of_lt (Heap.lt_size hx)
 have hfd:od.isFreed=false:=(Heap.get?_some_iff.mp hod).2
 have gd:(s2.heap.push od).get? s2.heap.objs.size=some od:=Heap.get?_push_size _ hfd
 have I3:Inv X pins σ (upd H2 s2.heap.objs.size (.xd [(f,y)])) { s2 with heap:=s2.heap.push od,toks:=tk }:=I2.laid (fun b ob q=>Heap.get?_push_of_some _ q) (Nat.le_refl _) ⟨_,⟨od,es,ep,gd,rest⟩,fun n=>by
  by_cases z:n=f
  ·subst z
   rw [List.lookup_cons,beq_self_eq_true,if_pos rfl]
   exact ry
  ·rw [List.lookup_cons,beq_eq_false_iff_ne.mpr z,if_neg z]
   exact trivial⟩
 refine ⟨σ,_,?_,q2 _ nd⟩
 refine Inv.write (s:={ s2 with heap:=s2.heap.push od,toks:=tk }) (t':=tk) (x:=a) (e:=a) I3 (by rw [upd_ne ne,ea]; exact trivial) (.inl rfl) (fun b u hb q=>?_) ⟨_,hx'⟩ (exN_ok hx' h0 h1)
 replace q:(s2.heap.push od).get? b=some u:=q
 by_cases z:b=s2.heap.objs.size
 ·subst z
  rw [gd] at q
  cases q
  exact hod
 ·rw [Heap.get?_push_ne _ _ _ z] at q
  exact kk b u hb q
end
end Sv
namespace Sv
open PySem PySem.Spec PyProof.Rows L2
theorem upd_id {H:Hp}{a:Addr}{o:HO}(h:H a=some o):upd H a o=H:=funext fun b=>by
 by_cases z:b=a
 ·subst z
  rw [upd_same,h]
 ·rw [upd_ne z]
def bmVE:List Value:=[.type "ValueError",.type "Exception",.type "BaseException",.type "object"]
structure ExcK (K:PySem.W.Frag)(C N:Addr):Prop where
 ex:∃ (nm q:Str) (bs bm:List Value) (hdct:Bool) (sn:List Str) (sub:List Value) (ab:Bool) (col:Option Bool) (dd:Option Addr) (k0 k1 k2 k3 k5:Option Value),K.lookup C=some (excClassObj nm q C N bs bm hdct sn sub ab col dd k0 k1 k2 k3 k5 "ValueError.__new__")∧PySem.W.tailIn K bmVE bm=true
structure ExcB (K:PySem.W.Frag)(C0:Addr):Prop where
 ga:PySem.W.specialIn K (.ref C0) "__getattribute__"=some (some (.builtin "type.__getattribute__"))
 rd:PySem.W.readsIn K C0 (.type "type")=true
 at_:PySem.W.findCls K (.ref C0) (.type "type") "__init__"=some (.val (.builtin "ValueError.__init__"))
def XInit (K:PySem.W.Frag)(xs:List V)(H:Hp)(Q:VK):Prop:=∃ a C N dd m,xs=[.ref a,m]∧H a=some (exN a C dd)∧ExcK K C N∧Q .non H
def tXInit (K:PySem.W.Frag)(t:TA):TE:=fun σ H Q=>t σ H fun xs H1=>XInit K xs H1 Q
section
variable {X:Cx}{C0:Addr}{pos apos:Pos}{e o:Expr}{es:List Expr}{t:TA}{pl:Sem Bool}
theorem pe_xinit (he:PE X o (tC (.ref C0)))(B:ExcB X.K C0)(ha:PA X (e::es) t)(hst:starEach (e::es) X.env=(false,eval e X.env)::starEach es X.env:=by rfl)(hpl:(backTo pos (starEach es X.env)).any (·.1)=false:=by rfl)
  (ht:eval (.Call (.Attribute o "__init__" apos) (e::es) [] pos) X.env=(do
   let ov ← eval o X.env
   standAt apos.atName
   let (f,first) ← holding [ov] (getMethod ov "__init__" pl)
   callWith pos f first (backTo pos (starEach (e::es) X.env)) (backToKw pos (keywordEach [] X.env))):=by rfl):PE X (.Call (.Attribute o "__init__" apos) (e::es) [] pos) (tXInit X.K t):=by
 intro pins s σ H Q I h
 refine PySem.W.methodCall_KW (pl:=pl) (thn (he pins s σ H (fun x H1=>x=.ref C0∧H1=H) I ⟨rfl,rfl⟩) fun u s1 ⟨x,H1,I1,rx,ex,eH⟩=>?_) ht
 subst ex eH
 obtain rfl:u=Value.ref C0:=rx
 refine PySem.W.method_cls I1.kIn B.ga (PySem.W.cls_value I1.kIn B.rd B.at_ rfl ?_)
 have I2:=I1.tok (s1.toks+1)
 refine PyProof.Rows.callWith_builtin1 (thn (ha pos pins _ σ H1 _ I2 h) fun us s2 ⟨vs,H2,I3,r,q⟩=>?_) hst hpl
 obtain ⟨a,C,N,dd,m,rfl,hx,Kc,q⟩:=q
 obtain ⟨u,v,rfl,ru,rv⟩:=Vals.two r
 obtain rfl:u=Value.ref a:=ru
 obtain ⟨nm,q',bs,bm,hdct,sn,sub,ab,col,dd',k0,k1,k2,k3,k5,lk,tl⟩:=Kc.ex
 obtain ⟨⟨vs,sl,t0,hr,h0,h1⟩,_,_⟩:=(show ObjOk X.prog X.w H2 s2.heap a (exN a C dd) from I3.hok a _ hx)
 obtain ⟨hp,g,d,tk,os⟩:=s2
 refine base_init PySem.F.excBase_ValueError (PySem.W.tail_of_in I3.kIn tl) (I3.kIn _ _ lk) hr h0 fun h' b hb kk=>?_
 have I4:Inv X pins σ (upd H2 a (exN a C dd)) ⟨h',g,d,tk,os⟩:=Inv.write (s:=⟨hp,g,d,tk,os⟩) (t':=tk) (x:=a) (e:=a) I3 (by rw [hx]; exact trivial) (.inl rfl) (fun b u hb q=>kk b u hb q) ⟨_,hb⟩ (exN_ok (t0:=b) hb (by
  have:0<vs.size:=(Array.getElem?_eq_some_iff.mp h0).1
  simp [this]) ⟨by rw [Array.getElem?_setIfInBounds_ne (by decide)]; exact h1.1,by rw [Array.getElem?_setIfInBounds_ne (by decide)]; exact h1.2.1,by rw [Array.size_setIfInBounds]; exact h1.2.2⟩)
 rw [upd_id hx] at I4
 exact ⟨.non,H2,I4,rfl,q⟩
end
def del (H:Hp)(a:Addr):Hp:=fun b=>if b=a then none else H b
theorem del_ne {H:Hp}{a b:Addr}(h:b≠a):del H a b=H b:=if_neg h
theorem del_same {H:Hp}{a:Addr}:del H a a=none:=if_pos rfl
theorem _root_.L2.Inv.del {X:Cx}{pins:List (Addr×Obj)}{σ:L2.St}{H:Hp}{s:Shared}{a:Addr}{φ:Heap→Prop}(I:Inv X pins σ H s)(h:H a=some (.ext φ)):Inv X pins σ (Sv.del H a) s:=by
 have ne:∀ b u,H b=some u→(∀ ψ,u≠.ext ψ)→b≠a:=fun b u e n z=>by
  rw [z,h] at e
  exact n φ (Option.some.inj e).symm
 have dn:∀ b,H b=none→Sv.del H a b=none:=fun b e=>by
  by_cases z:b=a
  ·rw [z]
   exact del_same
  ·rw [del_ne z]
   exact e
 refine ⟨I.ok,I.os,I.bare,⟨I.base.keep,I.base.slot,fun b o e n hx=>dn b (I.base.free b o e n hx),I.base.there,fun b xs e=>?_,fun b o u e=>?_,fun b ps e=>?_⟩,I.loc,I.cell,dn _ I.free,fun x c e=>dn _ (I.freeC x c e),fun p hp=>?_,fun b u e=>?_,I.len⟩
 ·have q:=I.base.tups b xs e
  rw [del_ne (ne b _ q fun _ z=>by cases z)]
  exact q
 ·have q:=I.base.frzs b o u e
  rw [del_ne (ne b _ q fun _ z=>by cases z)]
  exact q
 ·obtain ⟨more,q⟩:=I.base.tbls b ps e
  exact ⟨more,by rw [del_ne (ne b _ q fun _ z=>by cases z)]; exact q⟩
 ·obtain ⟨e,n,r⟩:=I.pin p hp
  exact ⟨e,dn _ n,r⟩
 ·have hb:b≠a:=fun z=>by
   rw [z,del_same] at e
   cases e
  rw [del_ne hb] at e
  exact (I.hok b u e).stay (fun _ _ _ q=>q) (fun c q=>by rw [del_ne (ne c _ q fun _ z=>by cases z)]; exact q) fun c xs q=>by rw [del_ne (ne c _ q fun _ z=>by cases z)]; exact q
structure ExcCI (K:PySem.W.Frag)(mg:Str→Option Value)(x:Str)(C N fI:Addr):Prop where
 mg:mg x=some (.ref C)
 k:ExcK K C N
 ns:PySem.W.nsOkIn K N=true
 ini:PySem.W.nsIn K N "__init__"=some (some (.ref fI))
 fn:∃ oI,K.lookup fI=some oI∧oI.cls=.type "function"
theorem ns_some {K:PySem.W.Frag}{h:Heap}{N:Addr}{mN:Str→Option Value}{n:Str}{v:Value}(X:K.In h)(G:h.Ns N mN)(e:PySem.W.nsIn K N n=some (some v)):mN n=some v:=by
 obtain ⟨o,es,ep,ho,hd,_,hf⟩:=G
 unfold PySem.W.nsIn at e
 split at e
 ·rename_i c d es' n' sl q
  have z:=X _ _ q
  rw [ho] at z
  cases z
  cases hd
  split at e
  ·rename_i he
   rw [← hf]
   unfold nsFind findBy
   rw [← Array.find?_toList,he]
   cases e
   rfl
  ·split at e
   ·cases e
   ·cases e
 ·cases e
def tRaiseI (C:Addr)(sp:Sp)(E:XK)(t:TA):TS:=fun _ σ H=>t σ H fun vs H1=>vs.length≤sizeLine∧∀ a,H1 a=none→sp (.ref a::vs) (upd H1 a (exN a C none)) (fun v H2=>v=.non∧∃ dd,H2 a=some (exN a C dd)∧(∀ d,dd=some d→d≠a∧∃ fs,H2 d=some (.xd fs))∧E (.ref C) dd (del H2 a)) E0
theorem ps_raiseI {X:Cx}{E:XK}{x:Str}{C N fI:Addr}{k:Nat}{fd:FuncData}{ps:List Str}{sp:Sp}{np cpos pos:Pos}{e:Expr}{es:List Expr}{t:TA}(hX:XeOut X E)(O:ExcCI X.K X.mg x C N fI)(G:FnOk X.prog X.w X.K X.mg X.base CX0 k fI fd ps sp)(hr:Room (k+1) X.A)(hb:Binds X.K fd ps [])(hc:X.calm=true)(hg:Gl X x)(ha:PA X (e::es) t)(hdb:(x == ("__debug__":Str))=false:=by decide)
  (he:starEach (e::es) X.env=(false,eval e X.env)::starEach es X.env:=by rfl) (hpl:(backTo cpos (starEach es X.env)).any (·.1)=false:=by rfl):PS X (.Raise (some (.Call (.Name x np) (e::es) [] cpos)) none pos) (tRaiseI C sp E t):=by
 intro pins s σ H D I h
 obtain ⟨nm,q',bs,bm,hdct,sn,sub,ab,col,dd',k0,k1,k2,k3,k5,lk,tl⟩:=O.k.ex
 obtain ⟨oI,lf,hfc⟩:=O.fn
 have kin:=I.ok.mod.kin
 have T:=PySem.W.tail_of_in kin tl
 have hN:X.base.Ns N (X.base.nsMap N):=.of_isNs (PySem.W.isNs_of_in kin O.ns)
 have hi:X.base.nsMap N "__init__"=some (.ref fI):=ns_some kin hN O.ini
 refine raise_callI (C:=C) (nm:=nm) (q:=q') (N:=N) (bs:=bs) (bm:=bm) (hdct:=hdct) (sn:=sn) (sub:=sub) (ab:=ab) (col:=col) (dd:=dd') (k0:=k0) (k1:=k1) (k2:=k2) (k3:=k3) (k5:=k5) PySem.F.excBase_ValueError (mN:=X.base.nsMap N) (oI:=oI)
  (T.hasType (show bmVE.contains (.type "BaseException")=true by decide +kernel)) (I.ok.hd hc) (by rw [he]; show (false || (backTo cpos (starEach es X.env)).any (·.1))=false; rw [hpl]; rfl) hi hfc (ld_glob I hg O.mg ⟨rfl,?_⟩ hdb)
 have a:=ha cpos pins s σ H _ I h
 rw [he] at a ⊢
 refine Calls.evalArgs_plain (wpAny_mono a (fun us s2 ⟨vs,H2,I2,r,hz,q2⟩=>?_) fun _ _ y=>y)
 refine ⟨rfl,by rw [← r.length]; exact hz,I2.kIn _ _ lk,hN.keeps I2.bk,PySem.W.tail_of_in I2.kIn tl,I2.kIn _ _ lf,fun h' e hm le=>?_⟩
 obtain ⟨t0,ht0,_,_⟩:=hm.there
 have hfree:H2 e=none:=I2.hok.fresh le
 have I3:Inv X pins σ (upd H2 e (exN e C none)) { s2 with heap:=h',toks:=s2.toks }:=I2.laid hm.keeps le (exN_ok ht0 rfl ⟨rfl,rfl,show 4<6 by decide⟩)
 have hq:=q2 e hfree
 have r2:Vals (V.ref e::vs) (Value.ref e::us):=.cons rfl r
 have hl:(Value.ref e::us++[]).length=ps.length:=by
  have e1:=r2.length
  rw [G.len _ _ _ _ hq] at e1
  rw [List.append_nil]
  exact e1.symm
 have bd:=hb { s2 with heap:=h',toks:=s2.toks } (Value.ref e::us) I3.kIn hl
 rw [List.append_nil] at bd
 refine wpAny_call (codeAny_mono (G.run _ X.stack _ _ ⟨Value.ref e::us,[]⟩ (Value.ref e::us) _ _ E0 (hr.make C us []) (I3.env0.make C us []) bd r2 hq) fun r' s' hq'=>?_)
 cases r' with
 | error y=>exact False.elim hq'
 | ok fl =>
  cases fl with
  | ret u =>
   obtain ⟨v,H4,I4,rv,ev,dd,h4,hd,hE⟩:=I3.after hq'
   subst ev
   obtain ⟨⟨vs',sl',t',hr',h0',h1'⟩,_,_⟩:=(show ObjOk X.prog X.w H4 s'.heap e (exN e C dd) from I4.hok e _ h4)
   refine ⟨rv,I4.kIn _ _ lk,⟨dd,vs',sl',hr',h1'.1⟩,?_⟩
   refine leave_made hX (I4.del h4) ⟨sl',vs',hr',h1'.1,.no h1'.2.1⟩ ?_ del_same (fun d z=>?_) hE
   ·cases q:X.s₀.heap.get? e with
    | none=>rfl
    | some u =>
     obtain ⟨ob,ho⟩:=I2.base.there e u q (by rw [hX.ex]; simp)
     rw [hm.new] at ho
     cases ho
   ·obtain ⟨ne,fs,hf⟩:=hd d z
    exact ⟨fs,by rw [del_ne ne]; exact hf⟩
  | next=>exact False.elim hq'
  | brk=>exact False.elim hq'
  | cont=>exact False.elim hq'
end Sv
namespace L2
open PySem PySem.Spec PyProof.Rows
section
variable {κ:Type} [DecidableEq κ]
def valV (kvs:List (κ×V))(k:κ):Option V:=(kvs.find? fun kv=>decide (kv.1=k)).map (·.2)
def putK (kvs:List (κ×V))(k:κ)(v:V):List (κ×V) :=
  if (kvs.any fun kv=>decide (kv.1=k))=true then kvs.map (fun kv=>if kv.1=k then (kv.1,v) else kv) else kvs++[(k,v)]
theorem valV_pos {p:κ×V}{r:List (κ×V)}{k:κ}(e:p.1=k):valV (p::r) k=some p.2:=by simp [valV,List.find?_cons,e]
theorem valV_neg {p:κ×V}{r:List (κ×V)}{k:κ}(e:¬ p.1=k):valV (p::r) k=valV r k:=by simp [valV,List.find?_cons,e]
theorem valV_any (k:κ):∀ kvs:List (κ×V),(kvs.any fun kv=>decide (kv.1=k))=(valV kvs k).isSome
  | []=>rfl
  | p::r=>by
    rw [List.any_cons]
    by_cases e:p.1=k
    · simp only [valV_pos e,decide_eq_true e,Bool.true_or,Option.isSome_some]
    · rw [valV_neg e,decide_eq_false e,Bool.false_or]; exact valV_any k r
theorem length_putK (kvs:List (κ×V))(k:κ)(v:V):(putK kvs k v).length≤kvs.length+1:=by
  unfold putK
  split
  · rw [List.length_map]; omega
  · rw [List.length_append,List.length_cons,List.length_nil]; omega
theorem putK_new {kvs:List (κ×V)}{k:κ}(v:V)(h:valV kvs k=none):putK kvs k v=kvs++[(k,v)]:=by
  unfold putK
  rw [valV_any,h]
  exact if_neg (by decide)
theorem RelO.isSome_eq {o:Option V}{u:Option Value}(r:RelO o u):o.isSome=u.isSome:=by
  cases o with
  | none=>cases u with
    | none=>rfl
    | some _=>exact (show False from r).elim
  | some _=>cases u with
    | none=>exact (show False from r).elim
    | some _=>rfl
theorem RelO.getD {o:Option V}{u:Option Value}{d:V}{d':Value}(r:RelO o u)(rd:RelV d d'):RelV (o.getD d) (u.getD d'):=by
  cases o with
  | none=>cases u with
    | none=>exact rd
    | some _=>exact (show False from r).elim
  | some _=>cases u with
    | none=>exact (show False from r).elim
    | some _=>exact r
theorem KV.val {kvs:List (κ×V)}{vs:List (κ×Value)}(r:KV kvs vs)(k:κ):RelO (valV kvs k) (valueAt vs k):=by
  unfold KV at r
  induction r with
  | nil=>exact True.intro
  | @cons p q ps qs h t ih =>
    obtain ⟨h1,h2⟩:=h
    by_cases e:p.1=k
    · have e':q.1=k:=h1.symm.trans e
      have b:valueAt (q::qs) k=some q.2:=by simp [valueAt,List.find?_cons,e']
      rw [valV_pos e,b]; exact h2
    · have e':¬ q.1=k:=fun z=>e (h1.trans z)
      have b:valueAt (q::qs) k=valueAt qs k:=by simp [valueAt,List.find?_cons,e']
      rw [valV_neg e,b]; exact ih
theorem KV.any {kvs:List (κ×V)}{vs:List (κ×Value)}(r:KV kvs vs)(k:κ):(kvs.any fun kv=>decide (kv.1=k))=vs.any fun kv=>decide (kv.1=k):=by
  unfold KV at r
  induction r with
  | nil=>rfl
  | cons h t ih=>rw [List.any_cons,List.any_cons,ih,h.1]
theorem KV.repl {kvs:List (κ×V)}{vs:List (κ×Value)}(r:KV kvs vs)(k:κ){y:V}{u:Value}(ry:RelV y u) :
    KV (kvs.map fun kv=>if kv.1=k then (kv.1,y) else kv) (vs.map fun kv=>if kv.1=k then (kv.1,u) else kv):=by
  unfold KV at r ⊢
  induction r with
  | nil=>exact .nil
  | @cons p q ps qs h t ih =>
    rw [List.map_cons,List.map_cons]
    refine .cons ?_ ih
    obtain ⟨h1,h2⟩:=h
    by_cases e:p.1=k
    · rw [if_pos e,if_pos (h1.symm.trans e)]; exact ⟨h1,ry⟩
    · rw [if_neg e,if_neg (fun z=>e (h1.trans z))]; exact ⟨h1,h2⟩
theorem KV.put {kvs:List (κ×V)}{vs:List (κ×Value)}(r:KV kvs vs)(k:κ){y:V}{u:Value}(ry:RelV y u):KV (putK kvs k y) (stored vs k u):=by
  unfold putK stored
  rw [r.any k]
  by_cases e:(vs.any fun kv=>decide (kv.1=k))=true
  · rw [if_pos e,if_pos e]; exact r.repl k ry
  · rw [if_neg e,if_neg e]; exact Paired.snoc r ⟨rfl,ry⟩
theorem KV.length {kvs:List (κ×V)}{vs:List (κ×Value)}(r:KV kvs vs):kvs.length=vs.length:=Paired.length r
end
theorem kV_is {P:Program}{w:World}{k:Key}{u:Value}(r:RelV (kV k) u):(mixKind P w).is k u=true:=by
  cases k with
  | inl i=>obtain ⟨t,e⟩:=(show ∃ t,u=Value.int i t from r); subst e; exact mixKind_int P w i t
  | inr x=>obtain ⟨t,e⟩:=(show ∃ t,u=Value.str x t from r); subst e; exact mixKind_str P w x t
theorem items_are {P:Program}{w:World}:∀ {ks:List Key} {us:List Value},Vals (ks.map kV) us→ItemsAre (mixKind P w) ks us
  | [],_,r=>by rw [List.map_nil] at r; cases r; exact .nil
  | k::ks,_,r=>by
    rw [List.map_cons] at r
    cases r with
    | cons h t=>exact .cons (kV_is h) (items_are t)
abbrev KT (H:Hp):List (List Key×V)→List (List Key×Addr×Value)→Prop:=Paired fun p q=>p.1=q.1∧H q.2.1=some (.tup (p.1.map kV))∧RelV p.2 q.2.2
theorem KT.val {H:Hp}{kvs:List (List Key×V)}{xs:List (List Key×Addr×Value)}(r:KT H kvs xs)(k:List Key):RelO (valV kvs k) ((atKey xs k).map (·.2)):=by
  induction r with
  | nil=>exact True.intro
  | @cons p q ps qs h t ih =>
    obtain ⟨h1,_,h2⟩:=h
    by_cases e:p.1=k
    · have e':q.1=k:=h1.symm.trans e
      have b:atKey (q::qs) k=some q.2:=by simp [atKey,List.find?_cons,e']
      rw [valV_pos e,b]; exact h2
    · have e':¬ q.1=k:=fun z=>e (h1.trans z)
      have b:atKey (q::qs) k=atKey qs k:=by simp [atKey,List.find?_cons,e']
      rw [valV_neg e,b]; exact ih
theorem KT.repl {H:Hp}{kvs:List (List Key×V)}{xs:List (List Key×Addr×Value)}(r:KT H kvs xs)(k:List Key){y:V}{u:Value}(ry:RelV y u) :
    KT H (kvs.map fun kv=>if kv.1=k then (kv.1,y) else kv) (xs.map (putAt k u)):=by
  induction r with
  | nil=>exact .nil
  | @cons p q ps qs h t ih =>
    rw [List.map_cons,List.map_cons]
    refine .cons ?_ ih
    obtain ⟨h1,h2,h3⟩:=h
    unfold putAt
    by_cases e:p.1=k
    · rw [if_pos e,if_pos (h1.symm.trans e)]; exact ⟨h1,h2,ry⟩
    · rw [if_neg e,if_neg (fun z=>e (h1.trans z))]; exact ⟨h1,h2,h3⟩
theorem KT.put {H:Hp}{kvs:List (List Key×V)}{xs:List (List Key×Addr×Value)}(r:KT H kvs xs)(k:List Key){b:Addr}{y:V}{u:Value}(hb:H b=some (.tup (k.map kV)))(ry:RelV y u) :
    KT H (putK kvs k y) (storedH xs k b u):=by
  have e:(kvs.any fun kv=>decide (kv.1=k))=(atKey xs k).isSome:=by
    rw [valV_any,(r.val k).isSome_eq,Option.isSome_map]
  unfold putK storedH
  rw [e]
  by_cases q:(atKey xs k).isSome=true
  · rw [if_pos q,if_pos q]; exact r.repl k ry
  · rw [if_neg q,if_neg q]; exact Paired.snoc r ⟨rfl,hb,ry⟩
theorem KT.keeps {H H':Hp}{kvs:List (List Key×V)}{xs:List (List Key×Addr×Value)}(r:KT H kvs xs)(ht:∀ b ys,H b=some (.tup ys)→H' b=some (.tup ys)):KT H' kvs xs :=
  Paired.mapP r fun _ _ z=>⟨z.1,ht _ _ z.2.1,z.2.2⟩
section
variable {P:Program}{w:World}{H:Hp}{h:Heap}{a:Addr}
theorem rd_of {u:HO}(ok:HOk P w H h)(e:Rd H a u):ObjOk P w H h a u:=e.ok ok
theorem dk_rd {kvs:List (Key×V)}(ok:HOk P w H h)(e:Rd H a (.dK kvs)):kvs.length≤sizeLine∧(a == sysModules)=false∧∃ vs,KV kvs vs∧h.DictOf (mixKind P w) a vs :=
  show ObjOk P w H h a (.dK kvs) from rd_of ok e
theorem dk_of {kvs:List (Key×V)}(ok:HOk P w H h)(e:H a=some (.dK kvs)):kvs.length≤sizeLine∧(a == sysModules)=false∧∃ vs,KV kvs vs∧h.DictOf (mixKind P w) a vs:=dk_rd ok (.inl e)
theorem key_of {ks:List Key}(ok:HOk P w H h)(e:H a=some (.tup (ks.map kV))):(tupleKind (mixKind P w)).is h ks a:=by
  obtain ⟨_,its,r,o,h1,h2,n,h3⟩:=(show ObjOk P w H h a (.tup (ks.map kV)) from ok a _ e)
  exact ⟨o,its.toArray,n,h1,h2,h3,by simpa using items_are r⟩
theorem dt_rd {kvs:List (List Key×V)}(ok:HOk P w H h)(e:Rd H a (.dT kvs)):kvs.length≤sizeLine∧(a == sysModules)=false ∧
    ∃ xs,KT H kvs xs∧h.DictOfH (tupleKind (mixKind P w)) a xs:=by
  obtain ⟨z,y,xs,r,o,es,ep,h1,h2,h3,h4,h5⟩:=(show ObjOk P w H h a (.dT kvs) from rd_of ok e)
  refine ⟨z,y,xs,r,o,es,ep,h1,h2,h3,h4,fun x hx=>?_,h5⟩
  have all:∀ {l:List (List Key×V)} {m:List (List Key×Addr×Value)},KT H l m→∀ x∈m,(tupleKind (mixKind P w)).is h x.1 x.2.1:=by
    intro l m q
    induction q with
    | nil=>intro x hx; exact nomatch hx
    | @cons p q ps qs hq t ih =>
      intro x hx
      rcases List.mem_cons.mp hx with e | hx
      · subst e
        exact key_of ok (by rw [← hq.1]; exact hq.2.1)
      · exact ih x hx
  exact all r x hx
theorem dt_of {kvs:List (List Key×V)}(ok:HOk P w H h)(e:H a=some (.dT kvs)):kvs.length≤sizeLine∧(a == sysModules)=false ∧
    ∃ xs,KT H kvs xs∧h.DictOfH (tupleKind (mixKind P w)) a xs:=dt_rd ok (.inl e)
end
def DGet (H:Hp)(a:Addr)(y:V)(r:Option V):Prop :=
  (∃ kvs k,Rd H a (.dK kvs)∧y=kV k∧r=valV kvs k)∨∃ kvs k b,Rd H a (.dT kvs)∧y=.ref b∧H b=some (.tup (k.map kV))∧r=valV kvs k
def DPut (H:Hp)(a:Addr)(y v:V)(H':Hp):Prop :=
  (∃ kvs k,H a=some (.dK kvs)∧y=kV k∧kvs.length<sizeLine∧H'=upd H a (.dK (putK kvs k v))) ∨
  ∃ kvs k b,H a=some (.dT kvs)∧y=.ref b∧H b=some (.tup (k.map kV))∧kvs.length<sizeLine∧H'=upd H a (.dT (putK kvs k v))
theorem DGet.k {H:Hp}{a:Addr}{kvs:List (Key×V)}{k:Key}(e:H a=some (.dK kvs)):DGet H a (kV k) (valV kvs k):=.inl ⟨kvs,k,.inl e,rfl,rfl⟩
theorem DGet.t {H:Hp}{a b:Addr}{kvs:List (List Key×V)}{k:List Key}(e:H a=some (.dT kvs))(eb:H b=some (.tup (k.map kV))):DGet H a (.ref b) (valV kvs k):=.inr ⟨kvs,k,b,.inl e,rfl,eb,rfl⟩
theorem DPut.k {H:Hp}{a:Addr}{kvs:List (Key×V)}{k:Key}{v:V}(e:H a=some (.dK kvs))(hl:kvs.length<sizeLine):DPut H a (kV k) v (upd H a (.dK (putK kvs k v))):=.inl ⟨kvs,k,e,rfl,hl,rfl⟩
theorem DPut.t {H:Hp}{a b:Addr}{kvs:List (List Key×V)}{k:List Key}{v:V}(e:H a=some (.dT kvs))(eb:H b=some (.tup (k.map kV)))(hl:kvs.length<sizeLine) :
    DPut H a (.ref b) v (upd H a (.dT (putK kvs k v))):=.inr ⟨kvs,k,b,e,rfl,eb,hl,rfl⟩
section
variable {X:Cx}{pins:List (Addr×Obj)}{σ:St}{H:Hp}{s:Shared}{a:Addr}{y v:V}{u r:Value}{o:Option V}{A:Around}{E:Value→Shared→Prop}
theorem Inv.big (I:Inv X pins σ H s):sysModules<s.heap.objs.size:=by
  have h:mainGlobals<s.heap.objs.size:=(I.mod.glob.keeps I.bk).lt
  exact Nat.lt_trans (by decide) h
theorem d_getItem {Q:Value→Shared→Prop}(hu:A.units+1<cLine)(I:Inv X pins σ H s)(g:DGet H a y (some v))(ry:RelV y u)(h:∀ w' s',Inv X pins σ H s'→RelV v w'→Q w' s') :
    wpAny (model X.prog X.w) A (getItem (.ref a) u) Q E s:=by
  rcases g with ⟨kvs,k,e,ey,l⟩ | ⟨kvs,k,b,e,ey,eb,l⟩
  · subst ey
    obtain ⟨z,hd,vs,rel,dd⟩:=dk_rd I.hok e
    obtain ⟨w',hw,rw'⟩:=RelO.some_of (v:=v) (o:=valueAt vs k) (by rw [l]; exact rel.val k)
    exact wpAny_getItem_of (kV_is ry) dd.mapOf hw (h w' _ (I.tok _) rw')
  · subst ey
    cases (show u=Value.ref b from ry)
    obtain ⟨z,hd,xs,rel,dd⟩:=dt_rd I.hok e
    obtain ⟨w',hw,rw'⟩:=RelO.some_of (v:=v) (o:=(atKey xs k).map (·.2)) (by rw [l]; exact rel.val k)
    obtain ⟨p,hp,hp2⟩:=Option.map_eq_some_iff.mp hw
    refine wpAny_getItem_heap (tupleKind_room_in1 hu) (key_of I.hok eb) dd hp ?_
    rw [hp2]
    exact h w' _ (I.tok _) rw'
theorem d_in {Q:Value→Shared→Prop}(hu:A.units+1<cLine)(I:Inv X pins σ H s)(g:DGet H a y o)(ry:RelV y u)(h:∀ s',Inv X pins σ H s'→Q (.bool o.isSome) s') :
    wpAny (model X.prog X.w) A (compareOp .In u (.ref a)) Q E s:=by
  rcases g with ⟨kvs,k,e,ey,l⟩ | ⟨kvs,k,b,e,ey,eb,l⟩
  · subst ey
    obtain ⟨z,hd,vs,rel,dd⟩:=dk_rd I.hok e
    refine wpAny_in_of (kV_is ry) hd dd.mapOf ?_
    rw [← (rel.val k).isSome_eq,← l]
    exact h _ (I.tok _)
  · subst ey
    cases (show u=Value.ref b from ry)
    obtain ⟨z,hd,xs,rel,dd⟩:=dt_rd I.hok e
    refine wpAny_in_heap (tupleKind_room_in1 hu) (key_of I.hok eb) hd dd ?_
    have q:=(rel.val k).isSome_eq
    rw [Option.isSome_map] at q
    rw [← q,← l]
    exact h _ (I.tok _)
theorem d_notIn {Q:Value→Shared→Prop}(hu:A.units+1<cLine)(I:Inv X pins σ H s)(g:DGet H a y o)(ry:RelV y u)(h:∀ s',Inv X pins σ H s'→Q (.bool (!o.isSome)) s') :
    wpAny (model X.prog X.w) A (compareOp .NotIn u (.ref a)) Q E s:=by
  rcases g with ⟨kvs,k,e,ey,l⟩ | ⟨kvs,k,b,e,ey,eb,l⟩
  · subst ey
    obtain ⟨z,hd,vs,rel,dd⟩:=dk_rd I.hok e
    refine wpAny_notIn_of (kV_is ry) hd dd.mapOf ?_
    rw [← (rel.val k).isSome_eq,← l]
    exact h _ (I.tok _)
  · subst ey
    cases (show u=Value.ref b from ry)
    obtain ⟨z,hd,xs,rel,dd⟩:=dt_rd I.hok e
    refine wpAny_notIn_heap (tupleKind_room_in1 hu) (key_of I.hok eb) hd dd ?_
    have q:=(rel.val k).isSome_eq
    rw [Option.isSome_map] at q
    rw [← q,← l]
    exact h _ (I.tok _)
theorem d_write {h':Heap}{t':Nat}{ob:HO}(I:Inv X pins σ H s)(mu:Mut (H a))(hs:Heap.SameBut a s.heap h')(he:∃ q,h'.get? a=some q)(new:ObjOk X.prog X.w (upd H a ob) h' a ob) :
    Inv X pins σ (upd H a ob) { s with heap:=h',toks:=t' } :=
  I.write (x:=a) (e:=a) mu (.inl rfl) (fun b q hb z=>(hs.2 b hb).trans z) he new
theorem dk_new {P:Program}{w:World}{H':Hp}{h':Heap}{kvs:List (Key×V)}{vs:List (Key×Value)}(z:kvs.length≤sizeLine)(hd:(a == sysModules)=false)(rel:KV kvs vs)(dd:h'.DictOf (mixKind P w) a vs) :
    ObjOk P w H' h' a (.dK kvs):=⟨z,hd,vs,rel,dd⟩
theorem d_setItem {H':Hp}{Q:Unit→Shared→Prop}(hu:A.units+1<cLine)(I:Inv X pins σ H s)(g:DPut H a y v H')(ry:RelV y u)(rv:RelV v r)(h:∀ s',Inv X pins σ H' s'→Q () s') :
    wpAny (model X.prog X.w) A (setItem (.ref a) u r) Q E s:=by
  rcases g with ⟨kvs,k,e,ey,l,eH⟩ | ⟨kvs,k,b,e,ey,eb,l,eH⟩
  · subst ey eH
    obtain ⟨z,hd,vs,rel,dd⟩:=dk_of I.hok e
    have hz:vs.length≤sizeLine:=by rw [← rel.length]; exact z
    have hl:(putK kvs k v).length≤sizeLine:=by have:=length_putK kvs k v; omega
    refine wpAny_setItem_pairs (hsz:=hz) (kV_is ry) dd fun h' dd' hs=>h _ ?_
    have he:∃ q,h'.get? a=some q:=let ⟨q,_,_,hq,_⟩:=dd'; ⟨q,hq⟩
    exact d_write I (by rw [e]; exact True.intro) hs he (dk_new hl hd (rel.put k rv) dd')
  · subst ey eH
    cases (show u=Value.ref b from ry)
    obtain ⟨z,hd,xs,rel,dd⟩:=dt_of I.hok e
    have hz:xs.length≤sizeLine:=by rw [← Paired.length rel]; exact z
    have hl:(putK kvs k v).length≤sizeLine:=by have:=length_putK kvs k v; omega
    refine wpAny_setItem_heap (hsz:=hz) (tupleKind_room_in1 hu) (key_of I.hok eb) dd fun h' dd' hs=>h _ ?_
    obtain ⟨q,es,ep,hq,h2,h3,h4,_,h5⟩:=dd'
    refine d_write I (by rw [e]; exact True.intro) hs ⟨q,hq⟩ ⟨hl,hd,_,(rel.put k eb rv).keeps fun c ys ec=>?_,q,es,ep,hq,h2,h3,h4,h5⟩
    rw [upd_ne (ne_of ec e (fun z=>nomatch z))]
    exact ec
end
section
variable {X:Cx}{pins:List (Addr×Obj)}{σ:St}{H:Hp}{s:Shared}{a:Addr}{kvs:List (Key×V)}{k:Key}{u:Value}{A:Around}{E:Value→Shared→Prop}
end
def NoSl (i:Expr):Prop:=∀ ov iv,subscripted i false ov iv=operate [ov,iv] (getItem ov iv)
theorem subD_of {prog:Program}{w:World}{A:Around}{E:Value→Shared→Prop}{s:Shared}{env:Env}{value slice:Expr}{pos:Pos}{T id:String}{Q:Value→Shared→Prop}
    (hl:typeLookup (.type T) "__getitem__"=pure (some (.builtin id))) (hs:NoSl slice)
    (h:wpAny (model prog w) A (eval value env) (fun o s₁=>wpAny (model prog w) A (eval slice env) (fun i s₂=>s₂.TypeIs o T∧wpAny (model prog w) A (getItem o i) Q E s₂) E s₁) E s) :
    wpAny (model prog w) A (eval (.Subscript value slice pos) env) Q E s:=by
  refine Subscript_ (wpAny_mono h (fun o s₁ h₁=>wpAny_mono h₁ (fun i s₂ h₂=>?_) fun _ _ x=>x) fun _ _ x=>x)
  obtain ⟨hT,h₂⟩:=h₂
  unfold subscriptTail
  refine wpAny_bind ?_
  rw [getitemInPython_of_ne hT.not_modules]
  refine wpAny_bind (wpAny_specialOf hT hl ?_)
  have fin:wpAny (model prog w) A (subscripted slice false o i) (fun r s₃=>wpAny (model prog w) A (letTemporaryGo value o r >>= fun _=>pure r) Q E s₃) E s₂:=by
    rw [hs o i]
    exact wpAny_operating (wpAny_mono h₂ (fun r s₃ h₃=>wpAny_bind (wpAny_letTemporaryGo (wpAny_pure h₃))) fun _ _ x=>x)
  first
    | exact wpAny_pure (wpAny_bind fin)
    | exact wpAny_bind (wpAny_pure (wpAny_bind fin))
    | exact wpAny_bind fin
theorem dict_typeIs {X:Cx}{pins:List (Addr×Obj)}{σ:St}{H:Hp}{s:Shared}{a:Addr}{y:V}{o:Option V}(I:Inv X pins σ H s)(g:DGet H a y o):s.TypeIs (.ref a) "dict":=by
  rcases g with ⟨kvs,k,e,_,_⟩ | ⟨kvs,k,b,e,_,_,_⟩
  · obtain ⟨_,_,vs,_,dd⟩:=dk_rd I.hok e
    exact dd.typeIs
  · obtain ⟨_,_,xs,_,dd⟩:=dt_rd I.hok e
    exact dd.typeIs
def tDGet (td ty:TE):TE:=fun σ H Q=>td σ H fun x H1=>ty σ H1 fun y H2=>∃ a v,x=.ref a∧DGet H2 a y (some v)∧Q v H2
def tDIn (ty td:TE):TE:=fun σ H Q=>ty σ H fun y H1=>td σ H1 fun x H2=>∃ a o,x=.ref a∧DGet H2 a y o∧Q (.bl o.isSome) H2
def tDNotIn (ty td:TE):TE:=fun σ H Q=>ty σ H fun y H1=>td σ H1 fun x H2=>∃ a o,x=.ref a∧DGet H2 a y o∧Q (.bl (!o.isSome)) H2
def sDPut (td ty tv:TE):TS:=fun D σ H=>tv σ H fun v H1=>td σ H1 fun x H2=>ty σ H2 fun y H3=>∃ a H4,x=.ref a∧DPut H3 a y v H4∧D.nx σ H4
section
variable {X:Cx}{o i e value:Expr}{pos pos' tpos:Pos}{td ty tv:TE}
theorem pe_dget (hu:X.A.units+1<cLine)(ho:PE X o td)(hi:PE X i ty)(hs:NoSl i):PE X (.Subscript o i pos) (tDGet td ty):=by
  intro pins s σ H Q I h
  refine subD_of PySem.F.slot_dict_getitem.lookup hs (thn (ho pins s σ H _ I h) fun u s1 ⟨x,H1,I1,rx,q1⟩=>thn (hi pins s1 σ H1 _ I1 q1) fun iv s2 ⟨y,H2,I2,ry,a,v,ex,g,q2⟩=>?_)
  subst ex
  obtain rfl:u=Value.ref a:=rx
  exact ⟨dict_typeIs I2 g,d_getItem hu I2 g ry fun w' s3 I3 rw'=>⟨v,H2,I3,rw',q2⟩⟩
theorem pc_din (hu:X.A.units+1<cLine)(hi:PE X i ty)(ho:PE X o td):PC X .In i o (tDIn ty td):=by
  intro pins s σ H Q I h
  refine thn (hi pins s σ H _ I h) fun iv s1 ⟨y,H1,I1,ry,q1⟩=>thn (ho pins s1 σ H1 _ I1 q1) fun u s2 ⟨x,H2,I2,rx,a,ov,ex,g,q2⟩=>?_
  subst ex
  obtain rfl:u=Value.ref a:=rx
  exact d_in hu I2 g ry fun s3 I3=>⟨.bl ov.isSome,H2,I3,rfl,q2⟩
theorem pc_dnotin (hu:X.A.units+1<cLine)(hi:PE X i ty)(ho:PE X o td):PC X .NotIn i o (tDNotIn ty td):=by
  intro pins s σ H Q I h
  refine thn (hi pins s σ H _ I h) fun iv s1 ⟨y,H1,I1,ry,q1⟩=>thn (ho pins s1 σ H1 _ I1 q1) fun u s2 ⟨x,H2,I2,rx,a,ov,ex,g,q2⟩=>?_
  subst ex
  obtain rfl:u=Value.ref a:=rx
  exact d_notIn hu I2 g ry fun s3 I3=>⟨.bl (!ov.isSome),H2,I3,rfl,q2⟩
theorem ps_dput (hu:X.A.units+1<cLine)(ho:PE X o td)(hi:PE X i ty)(hv:PE X value tv)(hs:swapsWith value (some (.Subscript o i pos')) pos.line X.env=pure false) :
    PS X (.Assign [.Subscript o i pos'] value pos) (sDPut td ty tv):=by
  intro pins s σ H D I h
  refine wpAny_Assign_Subscript (thn (hv pins s σ H _ I h) fun r s1 ⟨v,H1,I1,rv,q1⟩=>thn (ho pins s1 σ H1 _ I1 q1) fun u s2 ⟨x,H2,I2,rx,q2⟩=>thn (hi pins s2 σ H2 _ I2 q2) fun iv s3 ⟨y,H3,I3,ry,a,H4,ex,g,q3⟩=>?_) hs
  subst ex
  obtain rfl:u=Value.ref a:=rx
  exact d_setItem hu I3 g ry rv fun s4 I4=>⟨σ,H4,I4,q3⟩
end
theorem dk_empty {P:Program}{w:World}{H:Hp}(h:Heap)(hb:sysModules<h.objs.size):ObjOk P w H (h.push { cls:=.type "dict",data:=.dict #[] }) h.objs.size (.dK []) :=
  ⟨Nat.zero_le _,beq_eq_false_iff_ne.mpr (Ne.symm (Nat.ne_of_lt hb)),[],.nil,Heap.DictOf.new h⟩
def tDNewK:TE:=fun _ H Q=>∀ p,H p=none→Q (.ref p) (upd H p (.dK []))
section
variable {X:Cx}{pos:Pos}
theorem pe_dnewK:PE X (.Dict [] [] pos) tDNewK:=fun pins s σ H Q I h =>
  wpAny_Dict_empty ⟨.ref s.heap.objs.size,_,I.laid (a:=s.heap.objs.size) (o:=.dK []) (t':=s.toks) (fun _ _ q=>Heap.get?_push_of_some _ q) (Nat.le_refl _) (dk_empty s.heap I.big),rfl,h _ (I.hok.fresh (Nat.le_refl _))⟩
end
section
variable {X:Cx}{pins:List (Addr×Obj)}{σ:St}{H:Hp}{s:Shared}{a:Addr}{y d:V}{u r:Value}{o:Option V}{A:Around}{E:Value→Shared→Prop}
end
section
variable {X:Cx}{o e f:Expr}{apos cpos:Pos}{td ty tx:TE}
end
section
variable {X:Cx}{pins:List (Addr×Obj)}{σ:St}{H:Hp}{s:Shared}{a:Addr}{kvs:List (Key×V)}{A:Around}{E:Value→Shared→Prop}
end
section
variable {X:Cx}{pins:List (Addr×Obj)}{σ:St}{H:Hp}{s:Shared}{a:Addr}{y:V}{u:Value}{A:Around}{E:Value→Shared→Prop}
end
end L2
namespace L2
open PySem PySem.Spec PyProof.Rows
section
variable {X:Cx}
end
section
variable {κ:Type} [DecidableEq κ]
end
end L2
namespace Sv
open PySem PySem.Spec PyProof.Rows L2
section
variable {X:Cx}{tg:Expr}
end
end Sv
namespace Sv
open PySem PySem.Spec PyProof.Rows L2
theorem CmpR.filt {cap:List Nat}{tc:TT}{te:TE}{J:It}{σ:L2.St}{H:Hp}{Q:VK}{xs:List V}{Ok:Hp→Prop}(p:V→Bool)(f:V→V)(it:ItOf J xs Ok)(hz:xs.length≤1000)(ok:∀ H',Same H H'→Ok H')
  (hc:∀ x H' (Q':Bool→Hp→Prop),x∈xs→Same H H'→(∀ H2,Same H' H2→Q' (p x) H2)→tc (some x::cap.map fun i=>σ.getD i none) H' Q')
  (hs:∀ x H' (Q':VK),x∈xs→p x=true→Same H H'→(∀ H2,Same H' H2→Q' (f x) H2)→te (some x::cap.map fun i=>σ.getD i none) H' Q')
  (hd:∀ D H',H D=none→Same H H'→H' D=some (.lst ((xs.filter p).map f))→Q (.ref D) H'):CmpR 1 cap (gName 0) tc te J σ H Q:=by
 intro D hD
 have keep:∀ {H':Hp} {o:HO},Same H H'→Same H (upd H' D o):=fun sm b o e=>by
  rw [upd_ne (ne_of_none e hD)]
  exact sm b o e
 have le:∀ i,(((xs.take i).filter p).map f).length≤i:=fun i=>by
  rw [List.length_map]
  exact Nat.le_trans (List.length_filter_le _ _) (by rw [List.length_take]; exact Nat.min_le_left _ _)
 refine ⟨fun i m σ' H'=>m=xs.length - i∧i≤xs.length∧∃ t,σ'=t::(cap.map fun i=>σ.getD i none)∧Same H H'∧H' D=some (.lst (((xs.take i).filter p).map f)),⟨_,rfl,Nat.zero_le _,none,rfl,keep (Same.refl _),upd_same⟩,fun i m σ' H' hw=>?_⟩
 obtain ⟨rfl,hi,t,rfl,sm,hl⟩:=hw
 by_cases lt:i<xs.length
 ·refine .inr ⟨it.go i _ (ok _ sm) lt,fun σ2 H2=>∃ t,σ2=t::(cap.map fun i=>σ.getD i none)∧Same H H2∧H2 D=some (.lst (((xs.take (i+1)).filter p).map f)),fun σ2 H2 n2=>⟨_,?_,rfl,lt,n2⟩,fun x H2 y=>?_⟩
  ·omega
  ·obtain ⟨rfl,hx⟩:=it.yld i _ x H2 (ok _ sm) lt y
   show tc (some x::(cap.map fun i=>σ.getD i none)) _ _
   refine hc x H2 _ (List.mem_of_getElem? hx) sm fun H3 s3=>?_
   have e1:(xs.take (i+1)).filter p=(xs.take i).filter p++if p x=true then [x] else []:=by
    rw [List.take_add_one,hx,List.filter_append,Option.toList_some]
    congr 1
    cases hp:p x <;> simp [List.filter,hp]
   cases hp:p x with
   | false =>
    rw [if_neg Bool.false_ne_true]
    refine ⟨_,rfl,sm.trans s3,?_⟩
    rw [e1,hp,if_neg Bool.false_ne_true,List.append_nil]
    exact s3 _ _ hl
   | true =>
    rw [if_pos rfl]
    show te (some x::(cap.map fun i=>σ.getD i none)) _ _
    refine hs x H3 _ (List.mem_of_getElem? hx) hp (sm.trans s3) fun H4 s4=>⟨_,s4 _ _ (s3 _ _ hl),?_,_,rfl,keep ((sm.trans s3).trans s4),?_⟩
    ·have:=le i
     exact small1000 (by omega)
    ·rw [upd_same,e1,hp,if_pos rfl,List.map_append]
     rfl
 ·obtain rfl:i=xs.length:=by omega
  refine .inl ⟨it.stop _ _ (ok _ sm) (Nat.le_refl _),?_⟩
  rw [List.take_length] at hl
  exact hd D H' hD sm hl
section
variable {X:Cx}{K:PySem.W.Frag}
def InR (K:PySem.W.Frag)(neg:Bool):R2:=rIn K neg
theorem op_inL (hK:X.K=K):OpR X (compareOp .In) (InR K false):=by
 subst hK
 exact op_in_seq
theorem op_notinL (hK:X.K=K):OpR X (compareOp .NotIn) (InR K true):=by
 subst hK
 exact op_notIn_seq
theorem all_str (zs:List Str):(zs.map V.str).all flatV=true:=by
 rw [List.all_eq_true]
 intro x hx
 obtain ⟨z,_,rfl⟩:=List.mem_map.mp hx
 rfl
theorem inV_str (z:Str)(zs:List Str):inV (.str z) (zs.map V.str)=decide (z∈zs):=by
 induction zs with
 | nil=>rfl
 | cons y r ih =>
  have e:inV (.str z) ((y::r).map V.str)=(eqV (.str y) (.str z) || inV (.str z) (r.map V.str)):=rfl
  rw [e,ih]
  have e2:eqV (.str y) (.str z)=decide (y=z):=by
   first
   | rfl
   | (simp [eqV])
  rw [e2]
  by_cases h:y=z
  ·subst h
   simp
  ·have h':¬ z=y:=fun c=>h c.symm
   simp [h,h']
end
section
variable {td ty tv:TE}{σ:L2.St}{H:Hp}{Q:VK}{D:Ends}{x y v:V}{d:Addr}{z:Str}{ps:List (Str×V)}
def DGetR (x y:V)(H:Hp)(Q:VK):Prop:=∃ a v,x=.ref a∧DGet H a y (some v)∧Q v H
def DInR (neg:Bool)(x y:V)(H:Hp)(Q:VK):Prop:=∃ a o,x=.ref a∧DGet H a y o∧Q (.bl (if neg then !o.isSome else o.isSome)) H
def DPutR (x y v:V)(H:Hp)(Q:Hp→Prop):Prop:=∃ a H4,x=.ref a∧DPut H a y v H4∧Q H4
def DNewR (H:Hp)(Q:VK):Prop:=∀ p,H p=none→Q (.ref p) (upd H p (.dK []))
theorem dget_:tDGet td ty σ H Q=td σ H fun x H1=>ty σ H1 fun y H2=>DGetR x y H2 Q:=rfl
theorem din_:tDIn ty td σ H Q=ty σ H fun y H1=>td σ H1 fun x H2=>DInR false x y H2 Q:=rfl
theorem dnotin_:tDNotIn ty td σ H Q=ty σ H fun y H1=>td σ H1 fun x H2=>DInR true x y H2 Q:=rfl
theorem dput_:sDPut td ty tv D σ H=tv σ H fun v H1=>td σ H1 fun x H2=>ty σ H2 fun y H3=>DPutR x y v H3 (D.nx σ):=rfl
theorem dnew_:tDNewK σ H Q=DNewR H Q:=rfl
def Dk (ps:List (Str×V)):List (Key×V):=ps.map fun p=>(.inr p.1,p.2)
theorem valV_Dk (z:Str):∀ ps:List (Str×V),valV (Dk ps) (.inr z)=ps.lookup z
 | []=>rfl
 | (k,v)::r=>by
  have ih:=valV_Dk z r
  unfold valV Dk at ih ⊢
  rw [List.map_cons,List.find?_cons,List.lookup_cons]
  by_cases h:k=z
  ·subst h
   simp
  ·have h1:¬ ((Sum.inr k:Key)=Sum.inr z):=fun c=>h (Sum.inr.inj c)
   have h2:(z == k)=false:=beq_eq_false_iff_ne.mpr fun c=>h c.symm
   simp only [decide_eq_false h1,h2]
   exact ih
def DicS (H:Hp)(d:Addr)(ps:List (Str×V)):Prop:=Rd H d (.dK (Dk ps))
theorem DicS.get (h:DicS H d ps):DGet H d (.str z) (ps.lookup z):=.inl ⟨Dk ps,.inr z,h,rfl,(valV_Dk z ps).symm⟩
theorem dgetR_go (h:DicS H d ps)(e:ps.lookup z=some v)(q:Q v H):DGetR (.ref d) (.str z) H Q:=⟨d,v,rfl,e▸h.get,q⟩
theorem dinR_go {neg:Bool}(h:DicS H d ps)(q:Q (.bl (if neg then !(ps.lookup z).isSome else (ps.lookup z).isSome)) H):DInR neg (.ref d) (.str z) H Q:=⟨d,_,rfl,h.get,q⟩
theorem dputR_go {R:Hp→Prop}(h:H d=some (.dK (Dk ps)))(n:ps.lookup z=none)(l:ps.length<1000)(q:R (upd H d (.dK (Dk (ps++[(z,v)]))))):DPutR (.ref d) (.str z) v H R:=by
 have e:putK (Dk ps) (.inr z) v=Dk (ps++[(z,v)]):=by
  rw [putK_new v (by rw [valV_Dk]; exact n)]
  unfold Dk
  rw [List.map_append]
  rfl
 refine ⟨d,_,rfl,DPut.k (k:=.inr z) h ?_,?_⟩
 ·unfold Dk
  rw [List.length_map]
  exact small1000 (Nat.le_of_lt l)
 ·rw [e]
  exact q
theorem DicS.ne {a:Addr}{xs:List V}(h:DicS H d ps)(e:H a=some (.lst xs)):a≠d:=fun c=>by
 subst c
 rcases h with h | ⟨o,h⟩ <;> rw [e] at h <;> cases h
end
end Sv
namespace Sv
open PySem PySem.Spec PyProof PyProof.Rows L2
def rSlS:V→Option Int→Option Int→Hp→VK→Prop:=fun x lo hi H Q=>∃ z:Str,x=.str z∧z.length≤sizeLine∧Q (.str (Txt.slice z lo hi)) H
theorem sl_str {X:Cx}:SlR X rSlS:=by
 intro pins s σ H x v vl vu lo hi sl Q I rx hs pl pu h
 obtain ⟨z,rfl,hz,q⟩:=h
 obtain ⟨t,rfl⟩:=rx
 refine ⟨"str",_,PySem.F.slot_str_getitem.lookup,typeIs_str _ _ _,?_⟩
 have key:∀ (l u:Option (Int×Tok)),vl=partValue l→vu=partValue u→lo=l.map (·.1)→hi=u.map (·.1)→wpAny (model X.prog X.w) X.A (getItem (.str z t) (.ref sl)) (EP X pins σ Q) X.xe s:=fun l u e1 e2 e3 e4=>by
  subst e1 e2 e3 e4
  obtain ⟨o,ho,hc,hd⟩:=hs
  exact wpAny_getItem_str_slice (l:=l) (u:=u) (st:=none) ⟨o,ho,hc,hd⟩ rfl (post_val_or_str ⟨Nat.le_trans (Txt.slice_le z _ _) hz,fun t' k=>⟨.str _,H,I.tok k,⟨t',rfl⟩,q⟩⟩)
 cases pl with
 | none =>
  cases pu with
  | none=>exact key none none rfl rfl rfl rfl
  | int j u=>exact key none (some (j,u)) rfl rfl rfl rfl
 | int i t1 =>
  cases pu with
  | none=>exact key (some (i,t1)) none rfl rfl rfl rfl
  | int j u=>exact key (some (i,t1)) (some (j,u)) rfl rfl rfl rfl
section
variable {H:Hp}{Q:VK}{z:Str}{k j:Nat}
end
def Rng2R (vs:List V)(H:Hp)(R:It→Hp→Prop):Prop:=∃ i j:Int,vs=[.int i,.int j]∧(-(2 ^ 62)≤i∧i<2 ^ 62∧-(2 ^ 62)≤j∧j<2 ^ 62)∧R (Itr i (j - i).toNat) H
theorem Rng2R.go {i j:Int}{H:Hp}{R:It→Hp→Prop}(h:-(2 ^ 62)≤i∧i<2 ^ 62∧-(2 ^ 62)≤j∧j<2 ^ 62)(q:R (Itr i (j - i).toNat) H):Rng2R [.int i,.int j] H R:=⟨i,j,rfl,h,q⟩
def RngD (vs:List V)(H:Hp)(R:It→Hp→Prop):Prop:=∃ k:Nat,vs=[.int (k:Int),.int (-1),.int (-1)]∧k<1000000∧R (Its (k:Int) (-1) (k+1)) H
theorem RngD.go {k:Nat}{H:Hp}{R:It→Hp→Prop}(h:k<1000000)(q:R (Its (k:Int) (-1) (k+1)) H):RngD [.int (k:Int),.int (-1),.int (-1)] H R:=⟨k,rfl,h,q⟩
end Sv
namespace Sv
open PySem PySem.Spec PyProof.Rows L2
def Itzl (K:PySem.W.Frag)(a b:Addr):It :=
 ⟨fun i H=>∃ xs ys x y,SqL K H a xs∧SqL K H b ys∧xs[i]?=some x∧ys[i]?=some y,
  fun i H v H'=>∃ t x y,v=.ref t∧H t=none∧H'=upd H t (.tup [x,y])∧∀ xs ys,SqL K H a xs→SqL K H b ys→xs[i]?=some x∧ys[i]?=some y,
  fun i H=>∃ xs ys,SqL K H a xs∧SqL K H b ys∧(xs.length≤i∨ys.length≤i)⟩
section
variable {X:Cx}
end
section
variable {K:PySem.W.Frag}{H:Hp}{R:It→Hp→Prop}{a b:Addr}{xs ys:List V}
def ZipLR (K:PySem.W.Frag)(vs:List V)(H:Hp)(R:It→Hp→Prop):Prop:=∃ a b xs ys,vs=[.ref a,.ref b]∧SqL K H a xs∧SqL K H b ys∧R (Itzl K a b) H
theorem ZipLR.go (h1:SqL K H a xs)(h2:SqL K H b ys)(q:R (Itzl K a b) H):ZipLR K [.ref a,.ref b] H R:=⟨a,b,xs,ys,rfl,h1,h2,q⟩
end
end Sv
namespace Sv
open PySem PySem.Spec PyProof.Rows L2
section
variable {X:Cx}{k j:Nat}{C:Addr}{ps:List Str}{sp:Sp}{m:Str}{pos apos:Pos}{e o:Expr}{es:List Expr}{ta:TE}{t:TA}{pl:Sem Bool}
def MethT (Rr:RX)(C:Addr)(m:Str)(sp:Sp)(x:V)(t:TA)(σ:L2.St)(H:Hp)(Q:VK):Prop:=∃ (a dx:Addr) (fs:List (Str×V)),x=.ref a∧H a=some (.ins C dx fs)∧fs.lookup m=none∧t σ H fun vs H2=>sp (x::vs) H2 Q fun cls dd H'=>Rr cls dd σ H'
theorem MethT.go {Rr:RX}{σ:L2.St}{H:Hp}{Q:VK}{a dx:Addr}{fs:List (Str×V)}(h:H a=some (.ins C dx fs))(l:fs.lookup m=none)(q:t σ H fun vs H2=>sp (.ref a::vs) H2 Q fun cls dd H'=>Rr cls dd σ H'):MethT Rr C m sp (.ref a) t σ H Q:=⟨a,dx,fs,rfl,h,l,q⟩
end
section
variable {K:PySem.W.Frag}{ta tv:TE}{t:TA}{f:Str}{D:Ends}{σ:L2.St}{H:Hp}{Q:VK}{C:Addr}{sp:Sp}{E:XK}
theorem sfldX_:sFldX K ta tv f D σ H=tv σ H fun y H1=>ta σ H1 fun x H2=>SFldX K f y x H2 fun H'=>D.nx σ H':=rfl
theorem xinit_:tXInit K t σ H Q=t σ H fun xs H1=>XInit K xs H1 Q:=rfl
theorem fldE_:tFldE K ta f σ H Q=ta σ H fun x H1=>FldE K f x H1 Q:=rfl
def RaiseI (C:Addr)(sp:Sp)(E:XK)(vs:List V)(H1:Hp):Prop:=vs.length≤sizeLine∧∀ a,H1 a=none→sp (.ref a::vs) (upd H1 a (exN a C none)) (fun v H2=>v=.non∧∃ dd,H2 a=some (exN a C dd)∧(∀ d,dd=some d→d≠a∧∃ fs,H2 d=some (.xd fs))∧E (.ref C) dd (del H2 a)) E0
theorem raiseI_:tRaiseI C sp E t D σ H=t σ H fun vs H1=>RaiseI C sp E vs H1:=rfl
def FmtR (x:V)(H1:Hp)(Q:VK):Prop:=(∃ y,x=.str y∧y.length≤sizeLine∧Q (.str y) H1)∨∃ i:Int,x=.int i∧i.natAbs.log2<1920∧Q (.str (toString i)) H1
theorem fmt_:tFmt ta σ H Q=ta σ H fun x H1=>FmtR x H1 Q:=rfl
theorem FmtR.str {y:Str}(h:y.length≤1000)(q:Q (.str y) H):FmtR (.str y) H Q:=.inl ⟨y,rfl,Nat.le_of_lt (small1000 h),q⟩
structure XcI (P:Program)(w:World)(K:PySem.W.Frag)(mg:Str→Option Value)(base:Heap)(x:Str)(C:Addr)(k:Nat)(ps:List Str)(sp:Sp):Prop where
 ex:∃ (N fI:Addr) (fd:FuncData),ExcCI K mg x C N fI∧FnOk P w K mg base CX0 k fI fd ps sp∧Binds K fd ps []
end
end Sv
namespace Sv
open PySem PySem.Spec PyProof.Rows L2
section
variable {prog:Program}{w:World}{A:Around}{E:Value→Shared→Prop}{s:Shared}{r:Addr}
variable {it l S:Addr}{items:Array Value}
end
section
variable {X:Cx}{e a b:Expr}{t:TA}{p p2 pos pos2:Pos}
end
structure XDef (K:PySem.W.Frag)(mg:Str→Option Value)(x:Str)(C:Addr)(qual:Str)(st:Stmt):Prop where
 ex:∃ (N fI:Addr) (fd:FuncData),ExcCI K mg x C N fI∧Fun K "__init__" qual st fI fd
theorem mk_xdef {K:PySem.W.Frag}{h:Heap}{mg:Str→Option Value}{x qual:Str}{C N fI:Addr}{st:Stmt}{nm q:Str}{bs bm:List Value}{hdct:Bool}{sn:List Str}{sub:List Value}{ab:Bool}{col:Option Bool}{dd:Option Addr}{k0 k1 k2 k3 k5:Option Value}{kV dc pm cd ct:Value}{od an:Option Addr}{sl:Array (Option Value)}(X:K.In h)(G:h.Ns mainGlobals mg)
  (a:PySem.W.nsIn K mainGlobals x=some (some (.ref C))) (lk:K.lookup C=some (excClassObj nm q C N bs bm hdct sn sub ab col dd k0 k1 k2 k3 k5 "ValueError.__new__")) (tl:PySem.W.tailIn K bmVE bm=true) (ns:PySem.W.nsOkIn K N=true) (ini:PySem.W.nsIn K N "__init__"=some (some (.ref fI)))
  (l:K.lookup fI=some ⟨.type "function",od,.func (PySem.W.fnOf "__init__" qual (defArgs st) (defBody st) (defScope st) .none kV dc pm an cd ct),sl⟩) (c:PySem.W.codeIn K cd qual=true) (k:PySem.W.keepIn K (.ref fI)=true):XDef K mg x C qual st :=
 ⟨⟨N,fI,_,⟨PySem.W.mg_of X G a,⟨⟨_,_,_,_,_,_,_,_,_,_,_,_,_,_,_,lk,tl⟩⟩,ns,ini,_,l,rfl⟩,fun_mk l c k⟩⟩
theorem XDef.xci {P:Program}{w:World}{K:PySem.W.Frag}{mg:Str→Option Value}{base:Heap}{x qual:Str}{C:Addr}{st:Stmt}{k:Nat}{ps:List Str}{sp:Sp}(D:XDef K mg x C qual st)
  (b:∀ (kV doc pm:Value) (an:Option Addr) (cdv ct:Value) (us:List Value),us.length=ps.length→bindArgs (PySem.W.fnOf "__init__" qual (defArgs st) (defBody st) (defScope st) .none kV doc pm an cdv ct) ⟨us,[]⟩=pure (ps.zip us))
  (ok:∀ (N f:Addr) (fd:FuncData),ExcK K C N→Fun K "__init__" qual st f fd→FnOk P w K mg base CX0 k f fd ps sp):XcI P w K mg base x C k ps sp:=by
 obtain ⟨N,fI,fd,O,F⟩:=D.ex
 exact ⟨⟨N,fI,fd,O,ok N fI fd O.k F,F.binds b⟩⟩
section
variable {t:TT}{ta tb:TE}{σ:L2.St}{H:Hp}{Q:VK}
end
theorem cut_midA {xs:List V}{k j:Nat}:cutV xs (some (k:Int)) (some (j:Int))=(xs.drop k).take (j - k):=by
 unfold cutV
 rw [HT.sIx_nat,HT.sIx_nat]
 by_cases h:k≤xs.length
 ·rw [Nat.min_eq_left h]
  by_cases g:j≤xs.length
  ·rw [Nat.min_eq_left g]
  ·rw [Nat.min_eq_right (by omega),List.take_of_length_le (by rw [List.length_drop]; omega),List.take_of_length_le (by rw [List.length_drop]; omega)]
 ·rw [Nat.min_eq_right (show xs.length≤k by omega),List.drop_of_length_le (Nat.le_refl _),List.drop_of_length_le (show xs.length≤k by omega),List.take_nil,List.take_nil]
theorem slMidA_go {K:PySem.W.Frag}{H:Hp}{Q:VK}{p:Addr}{xs:List V}{k j:Nat}(h:SqL K H p xs)(q:∀ l,H l=none→Q (.ref l) (upd H l (.lst ((xs.drop k).take (j - k))))):rSlL K (.ref p) (some (k:Int)) (some (j:Int)) H Q:=⟨p,xs,rfl,h,by rw [cut_midA]; exact q⟩
theorem cut_dropA {xs:List V}{k:Nat}:cutV xs (some (k:Int)) none=xs.drop k:=by
 by_cases h:k≤xs.length
 ·exact cut_drop h
 ·unfold cutV
  rw [HT.sIx_nat,HT.sIx_none,Nat.min_eq_right (show xs.length≤k by omega),List.drop_of_length_le (Nat.le_refl _),List.drop_of_length_le (show xs.length≤k by omega),List.take_nil]
theorem slDropA_go {K:PySem.W.Frag}{H:Hp}{Q:VK}{p:Addr}{xs:List V}{k:Nat}(h:SqL K H p xs)(q:∀ l,H l=none→Q (.ref l) (upd H l (.lst (xs.drop k)))):rSlL K (.ref p) (some (k:Int)) none H Q:=⟨p,xs,rfl,h,by rw [cut_dropA]; exact q⟩
end Sv
namespace Sv
open PySem PySem.Spec PyProof.Rows L2
theorem Vals.drop_ {xs:List V}{us:List Value}(h:Vals xs us)(k:Nat):Vals (xs.drop k) (us.drop k):=by
 induction h generalizing k with
 | nil=>rw [List.drop_nil,List.drop_nil]; exact .nil
 | cons r t ih =>
  cases k with
  | zero=>exact .cons r t
  | succ k=>exact ih k
theorem ixLast_go {K:PySem.W.Frag}{H:Hp}{Q:VK}{p:Addr}{xs:List V}{y:V}(h:SqL K H p (xs++[y]))(q:Q y H):rIxL K (.ref p) (.int (-1)) H Q:=⟨p,_,-1,y,rfl,rfl,h,atI_last _ _,q⟩
def rIndexS:V→List V→Hp→VK→Prop:=fun x vs H Q=>∃ (l:Addr) (zs:List Str) (c:Nat) (z:Str),x=.ref l∧vs=[.str z]∧H l=some (.lst (zs.map V.str))∧zs.Nodup∧zs[c]?=some z∧zs.length≤1000∧Q (.int (c:Int)) H
theorem all_flat (zs:List Str):(zs.map V.str).all flatV=true:=by
 rw [List.all_eq_true]
 intro x hx
 obtain ⟨z,_,rfl⟩:=List.mem_map.mp hx
 rfl
theorem mt_index {X:Cx}:MtM X "list.index" rIndexS:=by
 intro pins s σ H x vs v us Q I rx rv h
 obtain ⟨l,zs,c,z,rfl,rfl,hH,nd,ez,hz,q⟩:=h
 cases rx
 obtain ⟨u,rfl,ru⟩:=rv.one
 obtain ⟨zl,its,n,r,hl,e⟩:=I.lstM hH
 have hc:c<zs.length:=(List.getElem?_eq_some_iff.mp ez).1
 rw [List.length_map] at hl
 have at_:∀ (m:Nat) (hm:m<its.toArray.size),eqU (.str z) its.toArray[m]=decide (zs[m]?=some z):=fun m hm=>by
  have hm':m<its.length:=by simpa using hm
  obtain ⟨w,hw,rw'⟩:=r.get (i:=m) (x:=.str (zs[m]'(by omega))) (by rw [List.getElem?_map,List.getElem?_eq_getElem (by omega)]; rfl)
  have ew:its.toArray[m]=w:=by
   have:=List.getElem?_eq_some_iff.mp hw
   obtain ⟨_,e'⟩:=this
   simpa using e'
  rw [ew,eqU_of rw' rfl,List.getElem?_eq_getElem (by omega)]
  show (zs[m] == z)=_
  rw [Bool.eq_iff_iff,beq_iff_eq,decide_eq_true_eq]
  simp
 have hj:c<its.toArray.size:=by rw [List.size_toArray]; omega
 refine call_meets F.slot_list_index ⟨_,e,rfl⟩ F.entry_list_index (F.args_list_index_2 _ _) (SeqAt.list_indexAt l its.toArray n none #[] u (eqU (.str z)) c hj (by omega) (by rw [at_ c hj,decide_eq_true ez]) fun m hm lt=>?_) ⟨e,fun y hy=>mem_eqAt ru rfl r (all_flat zs) y (by simpa using hy),?_⟩
 ·rw [at_ m hm]
  refine decide_eq_false fun e2=>?_
  have:=(List.getElem?_inj hc nd).mp (ez.trans e2.symm)
  omega
 ·exact ⟨.int (c:Int),H,I.tok _,⟨_,rfl⟩,q⟩
theorem index_go {l:Addr}{zs:List Str}{c:Nat}{z:Str}{H:Hp}{Q:VK}(h:H l=some (.lst (zs.map V.str)))(nd:zs.Nodup)(e:zs[c]?=some z)(hz:zs.length≤1000)(q:Q (.int (c:Int)) H):rIndexS (.ref l) [.str z] H Q:=⟨l,zs,c,z,rfl,rfl,h,nd,e,hz,q⟩
end Sv
namespace Sv
open PySem PySem.Spec PyProof.Rows L2
def Itv (K:PySem.W.Frag)(a:Addr)(n:Nat):It :=
 ⟨fun i H=>∃ xs x,SqL K H a xs∧i<n∧xs[n - 1 - i]?=some x,fun i H x H'=>H'=H∧∀ xs,SqL K H a xs→xs[n - 1 - i]?=some x,fun i _=>n≤i⟩
def RevR (K:PySem.W.Frag)(vs:List V)(H:Hp)(R:It→Hp→Prop):Prop:=∃ a xs,vs=[.ref a]∧SqL K H a xs∧R (Itv K a xs.length) H
section
variable {X:Cx}
end
section
variable {K:PySem.W.Frag}{H:Hp}{R:It→Hp→Prop}{a:Addr}{xs:List V}
theorem RevR.go (h:SqL K H a xs)(q:R (Itv K a xs.length) H):RevR K [.ref a] H R:=⟨a,xs,rfl,h,q⟩
end
end Sv
namespace Sv
open PySem PySem.Spec PyProof.Rows L2
def LabN (ns:List Int):Prop:=ns.length≤8∧∀ n∈ns,0≤n∧n<10 ^ 10
def RepA (Q:VK)(x:V)(H:Hp):Prop:=∃ a ns,x=.ref a∧H a=some (.tup (ns.map V.int))∧LabN ns∧∀ z:Str,z.length≤200→Q (.str z) H
theorem RepA.go {Q:VK}{a:Addr}{ns:List Int}{H:Hp}(h:H a=some (.tup (ns.map V.int)))(l:LabN ns)(q:∀ z:Str,z.length≤200→Q (.str z) H):RepA Q (.ref a) H:=⟨a,ns,rfl,h,l,q⟩
end Sv
namespace Sv
open PySem PySem.Spec PyProof.Rows L2
end Sv
local macro_rules | `(tactic| walk_at "sv")=>`(tactic| try simp only [List.map_cons,List.map_nil,List.getD_cons_zero,List.getD_cons_succ,Sv.seq_,Sv.dget_,Sv.din_,Sv.dnotin_,Sv.dput_,Sv.dnew_,Sv.raiseI_,Sv.sfldX_,Sv.xinit_,Sv.fldE_,Sv.fmt_,Sv.comp_,Sv.setComp_,Sv.yes_,Sv.istr_,Sv.inS_,Sv.vals_,Sv.jn0_,Sv.jnC_,Sv.rep_,Sv.raise_,Sv.callT_,Sv.asnx_,Sv.asrt_,Sv.next_,Sv.ret_,Sv.drop_,Sv.ifS_,Sv.asg_,Sv.gname_,Sv.var_,Sv.ex_,Sv.exb_,Sv.c_,Sv.op_,Sv.un_,Sv.test_,Sv.tB_,Sv.and_,Sv.or_,Sv.not_,Sv.andV_,Sv.notV_,Sv.rI0_,Sv.rU_,Sv.ilist_,Sv.cxK2,Sv.rI_,Sv.rEqI_,Sv.rNeI_,Sv.rEqS_,Sv.rNeS_,Sv.nil_,Sv.cons_,Sv.tup_,Sv.lst_,Sv.call_,Sv.cb_,Sv.for_,Sv.rng1_,Sv.rng3_,Sv.rngS_,Sv.zip_,Sv.rNeB_,Sv.rEqB_,Sv.slice_,Sv.part_,Sv.nopart_,Sv.max_,Sv.min_,Sv.bm_,Sv.tyInt_,Sv.tyStr_,Sv.cxK,Sv.brS_t,Sv.brS_f,Sv.brA_t,Sv.brA_f,Sv.brO_t,Sv.brO_f,Sv.brAV_t,Sv.brAV_f,Bool.not_true,Bool.not_false,true_and,eq_self,decide_true,decide_false,if_true,if_false,Bool.false_eq_true, List.getElem?_cons_zero,List.getElem?_cons_succ,List.set_cons_zero,List.set_cons_succ])
local macro_rules | `(tactic| walk_at "svn")=>`(tactic| try simp only [List.map_cons,List.map_nil,List.getD_cons_zero,List.getD_cons_succ,Sv.seq_,Sv.dget_,Sv.din_,Sv.dnotin_,Sv.dput_,Sv.dnew_,Sv.raiseI_,Sv.sfldX_,Sv.xinit_,Sv.fldE_,Sv.fmt_,Sv.comp_,Sv.setComp_,Sv.yes_,Sv.istr_,Sv.inS_,Sv.vals_,Sv.jn0_,Sv.jnC_,Sv.rep_,Sv.raise_,Sv.callT_,Sv.asnx_,Sv.asrt_,Sv.next_,Sv.ret_,Sv.drop_,Sv.ifS_,Sv.asg_,Sv.gname_,Sv.var_,Sv.ex_,Sv.exb_,Sv.c_,Sv.op_,Sv.un_,Sv.test_,Sv.tB_,Sv.and_,Sv.or_,Sv.not_,Sv.andV_,Sv.notV_,Sv.rI0_,Sv.rU_,Sv.ilist_,Sv.cxK2,Int.reduceEq,Sv.rI_,Sv.rEqI_,Sv.rNeI_,Sv.rEqS_,Sv.rNeS_,Sv.nil_,Sv.cons_,Sv.tup_,Sv.lst_,Sv.call_,Sv.cb_,Sv.for_,Sv.rng1_,Sv.rng3_,Sv.rngS_,Sv.zip_,Sv.rNeB_,Sv.rEqB_,Sv.slice_,Sv.part_,Sv.nopart_,Sv.max_,Sv.min_,Sv.bm_,Sv.tyInt_,Sv.tyStr_,Sv.cxK,Sv.brS_t,Sv.brS_f,Sv.brA_t,Sv.brA_f,Sv.brO_t,Sv.brO_f,Sv.brAV_t,Sv.brAV_f,Bool.not_true,Bool.not_false,true_and,eq_self,decide_true,decide_false,if_true,if_false,Bool.false_eq_true, List.getElem?_cons_zero,List.getElem?_cons_succ,List.set_cons_zero,List.set_cons_succ])
local macro_rules | `(tactic| walk_at "ix")=>`(tactic| repeat (first | refine Sv.ixT_go (i:=0) (L2.SqT.of (by assumption)) rfl ?_ | refine Sv.ixT_go (i:=1) (L2.SqT.of (by assumption)) rfl ?_ | simp only [Int.zero_add,List.map_cons,List.map_nil,List.getD_cons_zero,List.getD_cons_succ,Sv.seq_,Sv.dget_,Sv.din_,Sv.dnotin_,Sv.dput_,Sv.dnew_,Sv.raiseI_,Sv.sfldX_,Sv.xinit_,Sv.fldE_,Sv.fmt_,Sv.comp_,Sv.setComp_,Sv.yes_,Sv.istr_,Sv.inS_,Sv.vals_,Sv.jn0_,Sv.jnC_,Sv.rep_,Sv.raise_,Sv.callT_,Sv.asnx_,Sv.asrt_,Sv.next_,Sv.ret_,Sv.drop_,Sv.ifS_,Sv.asg_,Sv.gname_,Sv.var_,Sv.ex_,Sv.exb_,Sv.c_,Sv.op_,Sv.un_,Sv.test_,Sv.tB_,Sv.and_,Sv.or_,Sv.not_,Sv.andV_,Sv.notV_,Sv.rI0_,Sv.rU_,Sv.ilist_,Sv.cxK2,Sv.rI_,Sv.rEqI_,Sv.rNeI_,Sv.rEqS_,Sv.rNeS_,Sv.nil_,Sv.cons_,Sv.tup_,Sv.lst_,Sv.call_,Sv.cb_,Sv.for_,Sv.rng1_,Sv.rng3_,Sv.rngS_,Sv.zip_,Sv.rNeB_,Sv.rEqB_,Sv.slice_,Sv.part_,Sv.nopart_,Sv.max_,Sv.min_,Sv.bm_,Sv.tyInt_,Sv.tyStr_,Sv.cxK,Sv.brS_t,Sv.brS_f,Sv.brA_t,Sv.brA_f,Sv.brO_t,Sv.brO_f,Sv.brAV_t,Sv.brAV_f,Bool.not_true,Bool.not_false,true_and,eq_self,decide_true,decide_false,if_true,if_false,Bool.false_eq_true, List.getElem?_cons_zero,List.getElem?_cons_succ,List.set_cons_zero,List.set_cons_succ]))
namespace K16
open PySem PySem.Spec PyProof.Rows L2 Sv
section
variable {P:Program}{w:World}{K:PySem.W.Frag}{mg:Str→Option Value}{base:Heap}{f:Addr}{fd:FuncData}
def top (i:Nat):Stmt:=PySem.Challenge.pw_sieve_k16_rows_refused.main.body.getD i (.Pass ⟨0,0,0,0⟩)
abbrev s_NoRow___init__:Stmt:=inClass (top 3) 0
theorem st_NoRow___init__ {v0 v1:V}:start ["self","row"] [v0,v1]=[some v0,some v1]:=rfl
theorem sc_NoRow___init__:FnScope ["self","row"] ["self","row"] (defScope s_NoRow___init__):=⟨rfl,rfl,rfl,by decide +kernel,rfl,by decide +kernel,by decide +kernel⟩
abbrev s_NoName___init__:Stmt:=inClass (top 5) 0
abbrev s_words_of:Stmt:=top 10
theorem st_words_of {v0:V}:start ["row"] [v0]=[some v0]:=rfl
theorem sc_words_of:FnScope ["row"] ["row"] (defScope s_words_of):=⟨rfl,rfl,rfl,by decide +kernel,rfl,by decide +kernel,by decide +kernel⟩
abbrev s_is_name:Stmt:=top 11
theorem st_is_name {v0:V}:start ["word"] [v0]=[some v0]:=rfl
theorem sc_is_name:FnScope ["word"] ["word"] (defScope s_is_name):=⟨rfl,rfl,rfl,by decide +kernel,rfl,by decide +kernel,by decide +kernel⟩
abbrev s_is_number:Stmt:=top 12
theorem st_is_number {v0 v1:V}:start ["word","greatest"] [v0,v1]=[some v0,some v1]:=rfl
theorem sc_is_number:FnScope ["word","greatest"] ["word","greatest"] (defScope s_is_number):=⟨rfl,rfl,rfl,by decide +kernel,rfl,by decide +kernel,by decide +kernel⟩
abbrev s_read_address:Stmt:=top 16
theorem st_read_address {v0:V}:start ["text","words","address","word"] [v0]=[some v0,none,none,none]:=rfl
theorem sc_read_address:FnScope ["text","words","address","word"] ["text"] (defScope s_read_address):=⟨rfl,rfl,rfl,by decide +kernel,rfl,by decide +kernel,by decide +kernel⟩
abbrev s_beginning:Stmt:=top 20
theorem st_beginning {v0 v1:V}:start ["address","bits","free_bits","high"] [v0,v1]=[some v0,some v1,none,none]:=rfl
theorem sc_beginning:FnScope ["address","bits","free_bits","high"] ["address","bits"] (defScope s_beginning):=⟨rfl,rfl,rfl,by decide +kernel,rfl,by decide +kernel,by decide +kernel⟩
abbrev s_every:Stmt:=top 25
theorem st_every:start ["addresses","doors"] []=[none,none]:=rfl
theorem sc_every:FnScope ["addresses","doors"] [] (defScope s_every):=⟨rfl,rfl,rfl,by decide +kernel,rfl,by decide +kernel,by decide +kernel⟩
abbrev s_read_number:Stmt:=top 31
theorem st_read_number {v0 v1:V}:start ["word","greatest"] [v0,v1]=[some v0,some v1]:=rfl
theorem sc_read_number:FnScope ["word","greatest"] ["word","greatest"] (defScope s_read_number):=⟨rfl,rfl,rfl,by decide +kernel,rfl,by decide +kernel,by decide +kernel⟩
abbrev s_read_place:Stmt:=top 32
theorem st_read_place {v0:V}:start ["word"] [v0]=[some v0]:=rfl
theorem sc_read_place:FnScope ["word"] ["word"] (defScope s_read_place):=⟨rfl,rfl,rfl,by decide +kernel,rfl,by decide +kernel,by decide +kernel⟩
abbrev s_read_ends:Stmt:=top 33
theorem st_read_ends {v0 v1:V}:start ["word","read_end","ends"] [v0,v1]=[some v0,some v1,none]:=rfl
theorem sc_read_ends:FnScope ["word","read_end","ends"] ["word","read_end"] (defScope s_read_ends):=⟨rfl,rfl,rfl,by decide +kernel,rfl,by decide +kernel,by decide +kernel⟩
abbrev s_read_numbers:Stmt:=top 34
theorem st_read_numbers {v0 v1:V}:start ["word","greatest"] [v0,v1]=[some v0,some v1]:=rfl
theorem sc_read_numbers:FnScope ["word","greatest"] ["word","greatest"] (defScope s_read_numbers):=⟨rfl,rfl,rfl,by decide +kernel,rfl,by decide +kernel,by decide +kernel⟩
abbrev s_read_addresses:Stmt:=top 35
theorem st_read_addresses {v0:V}:start ["word","sides"] [v0]=[some v0,none]:=rfl
theorem sc_read_addresses:FnScope ["word","sides"] ["word"] (defScope s_read_addresses):=⟨rfl,rfl,rfl,by decide +kernel,rfl,by decide +kernel,by decide +kernel⟩
abbrev s_pair_values:Stmt:=top 36
theorem st_pair_values {v0 v1:V}:start ["words","pair_words","told","place","word"] [v0,v1]=[some v0,some v1,none,none,none]:=rfl
theorem sc_pair_values:FnScope ["words","pair_words","told","place","word"] ["words","pair_words"] (defScope s_pair_values):=⟨rfl,rfl,rfl,by decide +kernel,rfl,by decide +kernel,by decide +kernel⟩
abbrev s_read_pairs:Stmt:=top 37
theorem st_read_pairs {v0 v1 v2:V}:start ["words","pair_words","whole_box","told","stretches","word","whole"] [v0,v1,v2]=[some v0,some v1,some v2,none,none,none,none]:=rfl
theorem sc_read_pairs:FnScope ["words","pair_words","whole_box","told","stretches","word","whole"] ["words","pair_words","whole_box"] (defScope s_read_pairs):=⟨rfl,rfl,rfl,by decide +kernel,rfl,by decide +kernel,by decide +kernel⟩
abbrev s_read_box:Stmt:=top 38
theorem st_read_box {v0:V}:start ["words"] [v0]=[some v0]:=rfl
theorem sc_read_box:FnScope ["words"] ["words"] (defScope s_read_box):=⟨rfl,rfl,rfl,by decide +kernel,rfl,by decide +kernel,by decide +kernel⟩
abbrev s_read_words:Stmt:=top 39
theorem st_read_words {v0:V}:start ["words"] [v0]=[some v0]:=rfl
theorem sc_read_words:FnScope ["words"] ["words"] (defScope s_read_words):=⟨rfl,rfl,rfl,by decide +kernel,rfl,by decide +kernel,by decide +kernel⟩
abbrev s_read_rule:Stmt:=top 40
theorem st_read_rule {v0:V}:start ["row"] [v0]=[some v0]:=rfl
theorem sc_read_rule:FnScope ["row"] ["row"] (defScope s_read_rule):=⟨rfl,rfl,rfl,by decide +kernel,rfl,by decide +kernel,by decide +kernel⟩
abbrev s__law_cell_at:Stmt:=top 42
theorem st__law_cell_at {v0 v1:V}:start ["_law_script","_law_k"] [v0,v1]=[some v0,some v1]:=rfl
theorem sc__law_cell_at:FnScope ["_law_script","_law_k"] ["_law_script","_law_k"] (defScope s__law_cell_at):=⟨rfl,rfl,rfl,by decide +kernel,rfl,by decide +kernel,by decide +kernel⟩
abbrev s__law_whole:Stmt:=top 43
theorem st__law_whole {v0:V}:start ["_law_found"] [v0]=[some v0]:=rfl
theorem sc__law_whole:FnScope ["_law_found"] ["_law_found"] (defScope s__law_whole):=⟨rfl,rfl,rfl,by decide +kernel,rfl,by decide +kernel,by decide +kernel⟩
abbrev s__law_stream:Stmt:=top 44
theorem st__law_stream {v0 v1:V}:start ["_law_cell","_law_many","_law_found","_law_number","_law_k"] [v0,v1]=[some v0,some v1,none,none,none]:=rfl
theorem sc__law_stream:FnScope ["_law_cell","_law_many","_law_found","_law_number","_law_k"] ["_law_cell","_law_many"] (defScope s__law_stream):=⟨rfl,rfl,rfl,by decide +kernel,rfl,by decide +kernel,by decide +kernel⟩
abbrev s__law_address:Stmt:=top 45
theorem st__law_address {v0:V}:start ["_law_number","_law_words","_law_size"] [v0]=[some v0,none,none]:=rfl
theorem sc__law_address:FnScope ["_law_number","_law_words","_law_size"] ["_law_number"] (defScope s__law_address):=⟨rfl,rfl,rfl,by decide +kernel,rfl,by decide +kernel,by decide +kernel⟩
abbrev s__law_pairs:Stmt:=top 46
theorem st__law_pairs {v0:V}:start ["_law_cell","_law_draws","_law_tops","_law_keys","_law_pairs_here","_law_box","_law_k","_law_x","_law_y","_law_start"] [v0]=[some v0,none,none,none,none,none,none,none,none,none]:=rfl
theorem sc__law_pairs:FnScope ["_law_cell","_law_draws","_law_tops","_law_keys","_law_pairs_here","_law_box","_law_k","_law_x","_law_y","_law_start"] ["_law_cell"] (defScope s__law_pairs):=⟨rfl,rfl,rfl,by decide +kernel,rfl,by decide +kernel,by decide +kernel⟩
abbrev s__law_bad_number:Stmt:=top 47
theorem st__law_bad_number {v0 v1 v2:V}:start ["_law_top","_law_draw","_law_more","_law_x","_law_some"] [v0,v1,v2]=[some v0,some v1,some v2,none,none]:=rfl
theorem sc__law_bad_number:FnScope ["_law_top","_law_draw","_law_more","_law_x","_law_some"] ["_law_top","_law_draw","_law_more"] (defScope s__law_bad_number):=⟨rfl,rfl,rfl,by decide +kernel,rfl,by decide +kernel,by decide +kernel⟩
abbrev s__law_bad_address:Stmt:=top 48
theorem st__law_bad_address {v0 v1:V}:start ["_law_draw","_law_more","_law_x","_law_one","_law_some"] [v0,v1]=[some v0,some v1,none,none,none]:=rfl
theorem sc__law_bad_address:FnScope ["_law_draw","_law_more","_law_x","_law_one","_law_some"] ["_law_draw","_law_more"] (defScope s__law_bad_address):=⟨rfl,rfl,rfl,by decide +kernel,rfl,by decide +kernel,by decide +kernel⟩
abbrev s__law_bad_value:Stmt:=top 49
theorem st__law_bad_value {v0 v1 v2:V}:start ["_law_key","_law_draw","_law_more","_law_top"] [v0,v1,v2]=[some v0,some v1,some v2,none]:=rfl
theorem sc__law_bad_value:FnScope ["_law_key","_law_draw","_law_more","_law_top"] ["_law_key","_law_draw","_law_more"] (defScope s__law_bad_value):=⟨rfl,rfl,rfl,by decide +kernel,rfl,by decide +kernel,by decide +kernel⟩
abbrev s__law_spoiled:Stmt:=top 50
theorem st__law_spoiled {v0 v1 v2 v3:V}:start ["_law_words","_law_many","_law_cell","_law_more","_law_at","_law_way","_law_some","_law_other"] [v0,v1,v2,v3]=[some v0,some v1,some v2,some v3,none,none,none,none]:=rfl
theorem sc__law_spoiled:FnScope ["_law_words","_law_many","_law_cell","_law_more","_law_at","_law_way","_law_some","_law_other"] ["_law_words","_law_many","_law_cell","_law_more"] (defScope s__law_spoiled):=⟨rfl,rfl,rfl,by decide +kernel,rfl,by decide +kernel,by decide +kernel⟩
abbrev s__law_refused:Stmt:=top 51
theorem st__law_refused {v0:V}:start ["_law_row","_law_told","e"] [v0]=[some v0,none,none]:=rfl
theorem sc__law_refused:FnScope ["_law_row","_law_told","e"] ["_law_row"] (defScope s__law_refused):=⟨rfl,rfl,rfl,by decide +kernel,rfl,by decide +kernel,by decide +kernel⟩
abbrev s_law:Stmt:=top 52
theorem st_law {v0:V}:start ["_law_script","_law_k","_law_cell","_law_head","_law_letters","_law_pairs_here","_law_box","_law_words","_law_key","_law_word","_law_more","_law_spoiled_here"] [v0]=[some v0,none,none,none,none,none,none,none,none,none,none,none]:=rfl
theorem sc_law:FnScope ["_law_script","_law_k","_law_cell","_law_head","_law_letters","_law_pairs_here","_law_box","_law_words","_law_key","_law_word","_law_more","_law_spoiled_here"] ["_law_script"] (defScope s_law):=⟨rfl,rfl,rfl,by decide +kernel,rfl,by decide +kernel,by decide +kernel⟩
section
open PySem PySem.Spec PyProof.Rows L2
theorem entry_unchain:entryFor table "proto.unchain"=some Builtin.«proto.unchain»:=by kernel_rfl
theorem chn_tail:∀ {pre:List (Addr×Obj)} {p:Addr×Obj} {l:List (Addr×Obj)} {v:Value},Chn (pre++p::l) v→Chn (p::l) (.ref p.1)
 | [],_,_,_,h=>⟨rfl,h.2⟩
 | _::pre,_,_,_,h=>by
  obtain ⟨_,_,_,_,_,h⟩:=h
  exact chn_tail (pre:=pre) h
section
variable {prog:Program}{w:World}{A:Around}{s:Shared}{R:Result→Shared→Prop}{e:Addr}
theorem unchain_go (hR:R (.ok (.ret .none)) s):∀ (l pre:List (Addr×Obj)) (p:Addr×Obj) (slow:Value) (tg:Bool),Chn (pre++p::l) slow→(tg=true→pre≠[])→(∀ q∈pre++p::l,s.heap.get? q.1=some q.2∧q.1≠e) →
  codeAny (model prog w) A (.builtin "proto.unchain" ⟨[.ref e,.ref p.1,slow,.bool tg],[]⟩) R s:=by
 intro l
 induction l with
 | nil =>
  intro pre p slow tg h _ hk
  obtain ⟨_,ws,c,hd,h2,rfl⟩:=chn_tail h
  refine codeAny_builtin entry_unchain ?_
  unfold Builtin.«proto.unchain»
  refine wpAny_bind (wpAny_field (hk p (by simp)).1 hd h2 ?_)
  rw [if_pos (by decide)]
  exact wpAny_pure hR
 | cons q l ih =>
  intro pre p slow tg h htg hk
  obtain ⟨_,ws,c,hd,h2,hq⟩:=chn_tail h
  obtain ⟨rfl,_⟩:=id hq
  have hne:q.1≠e:=(hk q (by simp)).2
  have eqL:(pre++[p])++q::l=pre++p::q::l:=by simp
  refine codeAny_builtin entry_unchain ?_
  unfold Builtin.«proto.unchain»
  refine wpAny_bind (wpAny_field (hk p (by simp)).1 hd h2 ?_)
  rw [if_neg (by simp),if_neg (by simpa using hne)]
  by_cases hs:(Value.ref q.1 == slow)=true
  ·rw [if_pos hs]
   exact wpAny_bind (wpAny_rule (wpAny_pure hR))
  ·rw [if_neg hs]
   cases tg with
   | false =>
    refine wpAny_bind (wpAny_pure (wpAny_pure ⟨Code.quiet_builtin _ (by decide +kernel),?_⟩))
    exact ih (pre++[p]) q slow true (by rw [eqL]; exact h) (fun _=>by simp) (by rw [eqL]; exact hk)
   | true =>
    cases pre with
    | nil=>exact absurd rfl (htg rfl)
    | cons r pre =>
     obtain ⟨rfl,ws',c',hd',h2',hc'⟩:=h
     have eqL':(pre++[p])++q::l=pre++p::q::l:=by simp
     refine wpAny_bind (wpAny_field (hk r (by simp)).1 hd' h2' (wpAny_pure ⟨Code.quiet_builtin _ (by decide +kernel),?_⟩))
     exact ih (pre++[p]) q c' false (by rw [eqL']; exact hc') (fun z=>nomatch z) (by rw [eqL']; exact fun x hx=>hk x (List.mem_cons_of_mem _ hx))
end
section
variable {prog:Program}{w:World}{A:Around}{E:Value→Shared→Prop}{env:Env}
variable {nm q:Str}{C N:Addr}{bs bm:List Value}{hdct:Bool}{sn:List Str}{sub:List Value}{ab:Bool}{col:Option Bool}{dd:Option Addr}{k0 k1 k2 k3 k5:Option Value}{newId:String}
theorem raise_madeF {s:Shared}{x c:Sem Value}{xa:Addr}{Q:Flow→Shared→Prop}(hbase:bm.contains (.type "BaseException")=true)(hh:A.handled=some (.ref xa))(hcv:∀ (Q':Value→Shared→Prop) s',Q' .none s'→wpAny (model prog w) A c Q' E s')
  (h:wpAny (model prog w) A x (fun v s1=>∃ (e:Addr) (dx:Option Addr) (vs:Array Value) (sl:Array (Option Value)) (oa:Obj) (l:List (Addr×Obj)),v=.ref e∧s1.heap.get? C=some (excClassObj nm q C N bs bm hdct sn sub ab col dd k0 k1 k2 k3 k5 newId) ∧
   s1.heap.get? e=some ⟨.ref C,dx,.fields vs,sl⟩∧(vs[1]?=some .none∧4<vs.size)∧C≠e∧Chn ((xa,oa)::l) (.ref xa)∧(∀ p∈(xa,oa)::l,s1.heap.get? p.1=some p.2∧p.1≠e) ∧
   ∀ h' vs',(∀ b,b≠e→h'.get? b=s1.heap.get? b)→h'.get? e=some ⟨.ref C,dx,.fields vs',sl⟩→vs'[1]?=some .none→vs'[2]?=some (.ref xa)→E (.ref e) { s1 with heap:=h' }) E s):wpAny (model prog w) A (raiseStmt env (some x) (some c)) Q E s:=by
 have hcB:(Value.ref C::bm).contains (.type "BaseException")=true:=by rw [List.contains_cons,hbase,Bool.or_true]
 unfold raiseStmt
 refine wpAny_bind (wpAny_mono h (fun v s1 h1=>?_) fun _ _ y=>y)
 obtain ⟨e,dx,vs,sl,oa,l,rfl,hC,he,⟨h1,hz⟩,hCe,hch,hk,hE⟩:=h1
 obtain ⟨hp,g,d,tk,os⟩:=s1
 dsimp only at hC he hk hE
 have hx:∀ (m:String) (Q':Value→Shared→Prop),Q' (.ref e) ⟨hp,g,d,tk,os⟩→wpAny (model prog w) A (excFromValue (.ref e) m) Q' E ⟨hp,g,d,tk,os⟩:=fun m Q' hQ=>by
  unfold excFromValue
  repeat (first | with_reducible refine wpAny_loadPart_at he ?_ | with_reducible refine wpAny_loadPart_at hC ?_ | (with_reducible refine wpAny_isSubtype_exc hC ?_; rw [hcB]) | wp_step)
  exact hQ
 refine wpAny_bind (wpAny_holding (hcv _ _ ?_))
 refine wpAny_bind (wpAny_pure ?_)
 refine wpAny_bind (wpAny_holding (hx _ _ ?_))
 obtain ⟨u1,u2,_⟩:=upd_rest (f:=fun w=>w.setIfInBounds 3 Value.none) he rfl
 obtain ⟨v1,v2,_⟩:=upd_rest (f:=fun w=>w.setIfInBounds 4 (Value.bool true)) u2 rfl
 dsimp only
 rw [if_pos (by decide)]
 refine wpAny_bind (wpAny_pure ?_)
 refine wpAny_bind (wpAny_setField he rfl (by omega) ?_)
 refine wpAny_bind (wpAny_setField u2 rfl (by simp; omega) ?_)
 have hC2:=(v1 C hCe).trans ((u1 C hCe).trans hC)
 generalize hp2:(hp.update e (Obj.mapFields fun w=>w.setIfInBounds 3 Value.none)).update e (Obj.mapFields fun w=>w.setIfInBounds 4 (Value.bool true))=h2 at v1 v2 hC2 ⊢
 have o2:∀ b,b≠e→h2.get? b=hp.get? b:=fun b hb=>(v1 b hb).trans (u1 b hb)
 have w1:((vs.setIfInBounds 3 Value.none).setIfInBounds 4 (Value.bool true))[1]?=some .none:=by simp [h1]
 have wz:2<((vs.setIfInBounds 3 Value.none).setIfInBounds 4 (Value.bool true)).size:=by simp; omega
 generalize (vs.setIfInBounds 3 Value.none).setIfInBounds 4 (Value.bool true)=vs2 at v2 w1 wz ⊢
 have hty:∀ (Q':Bool→Shared→Prop),Q' false ⟨h2,g,d,tk,os⟩→wpAny (model prog w) A (isType (.ref e)) Q' E ⟨h2,g,d,tk,os⟩:=fun Q' hQ=>by
  unfold isType
  repeat (first | with_reducible refine wpAny_loadPart_at v2 ?_ | with_reducible refine wpAny_loadPart_at hC2 ?_ | wp_step)
  exact hQ
 have hin:∀ (Q':Value→Shared→Prop),Q' (.ref e) ⟨h2,g,d,tk,os⟩→wpAny (model prog w) A (raisedInstance (.ref e)) Q' E ⟨h2,g,d,tk,os⟩:=fun Q' hQ=>by
  unfold raisedInstance
  repeat (first | with_reducible refine wpAny_loadPart_at v2 ?_ | with_reducible refine wpAny_loadPart_at hC2 ?_ | wp_step)
  exact hQ
 refine wpAny_bind (hty _ ?_)
 rw [if_neg (by decide)]
 refine wpAny_bind (hin _ ?_)
 refine wpAny_bind ?_
 unfold setFlight
 refine wpAny_bind (wpAny_field v2 rfl w1 ?_)
 rw [if_neg (by decide)]
 refine wpAny_pure ?_
 unfold raiseNew
 refine wpAny_bind (wpAny_handled ?_)
 rw [hh]
 dsimp only
 have hne:xa≠e:=(hk _ List.mem_cons_self).2
 rw [if_pos (by simpa using hne)]
 refine wpAny_bind (wpAny_holding (wpAny_runValue (unchain_go ?_ l [] (xa,oa) (.ref xa) false hch (fun z=>nomatch z) fun q hq=>⟨(o2 q.1 (hk q hq).2).trans (hk q hq).1,(hk q hq).2⟩)))
 obtain ⟨x1,x2,_⟩:=upd_rest (f:=fun w=>w.setIfInBounds 2 (Value.ref xa)) v2 rfl
 refine wpAny_bind (wpAny_setField (a:=e) v2 rfl wz ?_)
 refine wpAny_throw ?_
 exact hE _ _ (fun b hb=>(x1 b hb).trans (o2 b hb)) x2 (by rw [Array.getElem?_setIfInBounds_ne (by decide)]; exact w1) (by simp [wz])
end
section
variable {prog:Program}{w:World}{A:Around}{E:Value→Shared→Prop}{s:Shared}{env:Env}
variable {nm q:Str}{C N:Addr}{bs bm bmB:List Value}{hdct:Bool}{sn:List Str}{sub:List Value}{ab:Bool}{col:Option Bool}{dd:Option Addr}{k0 k1 k2 k3 k5:Option Value}{B newId initId:String}
theorem raise_callF (F:ExcBaseFacts B newId initId bmB){mN:Str→Option Value}{x:Str}{np cpos pos np2:Pos}{kd:Nat}{args:List Expr}{fI xa:Addr}{oI:Obj}{Q:Flow→Shared→Prop}(hbase:bm.contains (.type "BaseException")=true)(hh:A.handled=some (.ref xa))(hplain:(backTo cpos (starEach args env)).any (·.1)=false)(hi:mN "__init__"=some (.ref fI))(hfc:oI.cls=.type "function")
  (h:wpAny (model prog w) A (eval (.Name x np) env) (fun f s1=>f=.ref C∧wpAny (model prog w) A (evalArgs (.ref C) true (backTo cpos (starEach args env)) [])
   (fun a s2=>a.kw=[]∧a.pos.length≤sizeLine∧s2.heap.get? C=some (excClassObj nm q C N bs bm hdct sn sub ab col dd k0 k1 k2 k3 k5 newId)∧s2.heap.Ns N mN∧OwnTail s2.heap bmB bm∧s2.heap.get? fI=some oI ∧
    ∀ h' e,Heap.MadeExcOf s2.heap h' e (.ref C) a.pos→s2.heap.objs.size≤e→wpAny (model prog w) (A.under (.builtin "type.__call__" ⟨.ref C::a.pos,[]⟩)) (call (.ref fI) (.ref e::a.pos)) (fun r s'=>r=.none ∧
     s'.heap.get? C=some (excClassObj nm q C N bs bm hdct sn sub ab col dd k0 k1 k2 k3 k5 newId)∧C≠e∧∃ (dx:Option Addr) (vs:Array Value) (sl:Array (Option Value)) (oa:Obj) (l:List (Addr×Obj)),s'.heap.get? e=some ⟨.ref C,dx,.fields vs,sl⟩∧(vs[1]?=some .none∧4<vs.size) ∧
      Chn ((xa,oa)::l) (.ref xa)∧(∀ p∈(xa,oa)::l,s'.heap.get? p.1=some p.2∧p.1≠e) ∧
      ∀ h'' vs',(∀ b,b≠e→h''.get? b=s'.heap.get? b)→h''.get? e=some ⟨.ref C,dx,.fields vs',sl⟩→vs'[1]?=some .none→vs'[2]?=some (.ref xa)→E (.ref e) { s' with heap:=h'' }) E { s2 with heap:=h' }) E s1) E s) :
  wpAny (model prog w) A (exec (.Raise (some (.Call (.Name x np) args [] cpos)) (some (.Constant .none kd np2)) pos) env) Q E s:=by
 rw [arm_exec_Raise]
 simp only [evalOpt,Option.map]
 refine wpAny_bind (wpAny_standAt (raise_madeF (C:=C) (nm:=nm) (q:=q) (N:=N) (bs:=bs) (bm:=bm) (hdct:=hdct) (sn:=sn) (sub:=sub) (ab:=ab) (col:=col) (dd:=dd) (k0:=k0) (k1:=k1) (k2:=k2) (k3:=k3) (k5:=k5) (newId:=newId) hbase hh (fun Q' s' hQ=>wpAny_bind ?_) (wpAny_bind (wpAny_mono (wpAny_Call_ofName (wpAny_mono h (fun f s1 h1=>?_) fun _ _ y=>y)) (fun v s3 h3=>wpAny_bind (wpAny_standAt (wpAny_pure h3))) fun _ _ y=>y))))
 ·first
   | exact wpAny_pure (wpAny_bind (wpAny_standAt (wpAny_pure hQ)))
   | (show wpAny _ _ (pure Value.none) _ _ _; exact wpAny_pure (wpAny_bind (wpAny_standAt (wpAny_pure hQ))))
 obtain ⟨rfl,h1⟩:=h1
 unfold callWith
 refine wpAny_bind (wpAny_holding (wpAny_mono h1 (fun a s2 h2=>wpAny_bind (wpAny_standAt ?_)) fun _ _ y=>y))
 obtain ⟨apos,akw⟩:=a
 obtain ⟨hkw,hlen,hC,hn,T,hf,h2⟩:=h2
 obtain rfl:akw=[]:=hkw
 obtain ⟨hp,g,d,tk,os⟩:=s2
 simp only [hplain]
 refine wpAny_bind (wpAny_keeperOf_exc hC ?_)
 refine wpAny_bind (call_excI F T hC hn hi hf hfc (fun h' e hm le=>?_) hlen)
 refine wpAny_mono (h2 h' e hm le) (fun r s' hr=>?_) fun _ _ y=>y
 obtain ⟨rfl,hC',hne,dx,vs,sl,oa,l,he,h1,r⟩:=hr
 exact ⟨rfl,wpAny_bind (wpAny_holding (wpAny_point (wpAny_pure ⟨e,dx,vs,sl,oa,l,rfl,hC',he,h1,hne,r⟩)))⟩
end
def calmA (A:Around):Around:={ A with handled:=none }
def cxN (X:Cx):Cx:={ X with calm:=false }
structure FnH (P:Program)(w:World)(K:PySem.W.Frag)(mg:Str→Option Value)(base:Heap)(k:Nat)(f:Addr)(fd:FuncData)(ps:List Str)(sp:Sp):Prop where
 len:∀ vs H Q E,sp vs H Q E→vs.length=ps.length
 run:∀ (A:Around) (outer:List Env) (s:Shared) (H:Hp) (args:Args) (us:List Value) (vs:List V) (Q:VK) (E:XK),Room k (calmA A)→Env0 P w K mg base A outer s H→BindsTo s fd args (ps.zip us)→Vals vs us→sp vs H Q E →
  codeAny (model P w) A (.call (.ref f) args) (CR CX0 outer P w H s Q E) s
theorem fun_okH {P:Program}{w:World}{K:PySem.W.Frag}{mg:Str→Option Value}{base:Heap}{x qual:Str}{st:Stmt}{f:Addr}{fd:FuncData}{N ps:List Str}{k:Nat}{sp:Sp}(F:Fun K x qual st f fd)(S:FnScope N ps (defScope st))(len:∀ vs H Q E,sp vs H Q E→vs.length=ps.length)
  (hbody:∀ (cdv:Value) (A:Around) (outer:List Env) (s:Shared) (H:Hp) (vs:List V) (Q:VK) (E:XK),sp vs H Q E →
   ∃ t,PSs (cxN (cxOf CX0 P w K mg base N qual (defScope st) f cdv A outer s H E)) (defBody st) t∧t { nx:=fun _ H'=>Q .non H',rt:=Q } (start N vs) H):FnH P w K mg base (k+1) f fd ps sp:=by
 obtain ⟨oc,od,kV,doc,pm,an,cdv,ct,osl,rfl,lk,hcd⟩:=F.ex
 refine ⟨len,fun A outer s H args us vs Q E hr e0 hb r hsp=>?_⟩
 have hl:=len _ _ _ _ hsp
 have KX:K.In s.heap:=e0.mod.kin.keeps fun b o e=>(e0.bs b o e).1
 have lim:s.heap.NoLimit:=e0.mod.nolimit.keeps fun b o e=>(e0.bs b o e).1
 have hkind:∀ y∈ps.zip us,(defScope st).names.lookup y.1=some .local∨((defScope st).names.lookup y.1=some .cell∧((cellsFrom (s.heap.objs.size+1) (defScope st).names []).lookup y.1).isSome=true):=fun ⟨n,v⟩ hy=>by
  rcases S.par n (List.of_mem_zip hy).1 with q | q
  ·exact .inl q
  ·exact .inr ⟨q,PySem.W.cellsFrom_some _ _ _ (.inl q)⟩
 refine codeAny_call_function (show A.depth<recursionLimit from hr.depth) (KX _ _ lk) rfl S.co S.gen rfl (PySem.W.codeRec_of KX hcd) (hb _ _ _ _ ?_)
 refine wpAny_newFunctionEnv_cells S.kind hkind fun env he s1 x=>?_
 subst he
 refine ⟨lim.keeps x.toInCall.keep,codeAny_func ?_⟩
 obtain ⟨t,ht,hq⟩:=hbody cdv A outer s H vs Q E hsp
 have I0:=inv_start (CX:=CX0) (E:=E) (A:=calmA A) S rfl ⟨e0.frames,e0.mod,e0.bs,e0.bsz,e0.funs,e0.frf,e0.hok,e0.bare⟩ hl r x
 have o:=I0.ok
 have I:Inv (cxN (cxOf CX0 P w K mg base N qual (defScope st) f cdv A outer s H E)) [] (start N vs) H s1 :=
  ⟨⟨o.mod,o.kind,o.glob,o.blt,o.above,o.inj,o.has,o.cab,(fun z=>nomatch z),o.frames,o.stk,o.exf,o.bs,o.bsz,o.noex,o.exfs,o.funs,o.frf⟩,I0.os,I0.bare,I0.base,I0.loc,I0.cell,I0.free,I0.freeC,I0.pin,I0.hok,I0.len⟩
 refine wpAny_mono (ht [] s1 (start N vs) H _ I hq) (fun fl s' hs=>?_) fun e s' hs=>hs
 have fin:∀ {σ':L2.St} {H':Hp} {v:V} {u:Value},Inv (cxN (cxOf CX0 P w K mg base N qual (defScope st) f cdv A outer s H E)) [] σ' H' s'→RelV v u→Q v H'→CE outer P w H s Q u s' :=
  fun {σ' H' v u} J rv q=>⟨v,H',J.os,J.bare,J.base,J.hok,rv,q⟩
 cases fl with
 | ret u =>
  obtain ⟨v,σ',H',J,rv,q⟩:=hs
  exact fin J rv q
 | next =>
  obtain ⟨σ',H',J,q⟩:=hs
  exact fin (v:=V.non) (u:=Value.none) J rfl q
 | brk =>
  obtain ⟨_,_,_,q⟩:=hs
  exact False.elim q
 | cont =>
  obtain ⟨_,_,_,q⟩:=hs
  exact False.elim q
structure XcH (P:Program)(w:World)(K:PySem.W.Frag)(mg:Str→Option Value)(base:Heap)(x:Str)(C:Addr)(k:Nat)(ps:List Str)(sp:Sp):Prop where
 ex:∃ (N fI:Addr) (fd:FuncData),ExcCI K mg x C N fI∧FnH P w K mg base k fI fd ps sp∧Binds K fd ps []
theorem _root_.Sv.XDef.xch {P:Program}{w:World}{K:PySem.W.Frag}{mg:Str→Option Value}{base:Heap}{x qual:Str}{C:Addr}{st:Stmt}{k:Nat}{ps:List Str}{sp:Sp}(D:XDef K mg x C qual st)
  (b:∀ (kV doc pm:Value) (an:Option Addr) (cdv ct:Value) (us:List Value),us.length=ps.length→bindArgs (PySem.W.fnOf "__init__" qual (defArgs st) (defBody st) (defScope st) .none kV doc pm an cdv ct) ⟨us,[]⟩=pure (ps.zip us))
  (ok:∀ (N f:Addr) (fd:FuncData),ExcK K C N→Fun K "__init__" qual st f fd→FnH P w K mg base k f fd ps sp):XcH P w K mg base x C k ps sp:=by
 obtain ⟨N,fI,fd,O,F⟩:=D.ex
 exact ⟨⟨N,fI,fd,O,ok N fI fd O.k F,F.binds b⟩⟩
section
variable {M:Model}{A:Around}{E':Value→Shared→Prop}{s:Shared}{B:Heap}{U:Addr→Prop}{env:Env}{l:List Env}{L e:Addr}{cls:Value}{dd:Option Addr}{Q:Unit→Shared→Prop}
theorem note_again (hf:env.frame=some L)(x:FlyD B U l e cls dd (rawInt L) s.heap)(k:Q () s):wpAny M A (noteFrame (.ref e) env) Q E' s:=by
 obtain ⟨_,_,_,sl,vs,T,oT,ts,he,h1,hT,hne,ho,hd,h3,hc⟩:=x
 unfold noteFrame
 simp only [hf]
 refine wpAny_bind (wpAny_field he rfl h1 ?_)
 rw [if_pos (show (Value.ref T != Value.none)=true by simp)]
 refine wpAny_bind (wpAny_field ho hd h3 ?_)
 rw [if_pos (by simp)]
 exact wpAny_pure k
theorem flight_to {fl:Value}(x:FlyD B U l e cls dd fl s.heap)(k:∀ h',FlyD B U l e cls dd (rawInt L) h'→s.heap.UpToSlots h'→Q () { s with heap:=h' }):wpAny M A (setFlight (.ref e) (some L)) Q E' s:=by
 obtain ⟨hB,hn,hl,sl,vs,T,oT,ts,he,h1,hT,hne,ho,hd,h3,hc⟩:=x
 have hz:3<ts.size:=(Array.getElem?_eq_some_iff.mp h3).1
 unfold setFlight
 refine wpAny_bind (wpAny_field he rfl h1 ?_)
 rw [if_pos (show (Value.ref T != Value.none)=true by simp)]
 obtain ⟨u1,u2,u3⟩:=upd_rest (f:=fun w=>w.setIfInBounds 3 (rawInt L)) ho hd
 have up:s.heap.UpToSlots (s.heap.update T (Obj.mapFields fun w=>w.setIfInBounds 3 (rawInt L))):=fun b o hb nf=>⟨o.slots,u3 b o hb nf⟩
 refine wpAny_setField ho hd hz (k _ ⟨fun b o hb=>?_,hn,frames_up hl up,?_⟩ up)
 ·exact (u1 b fun z=>by rw [z,hT] at hb; cases hb).trans (hB b o hb)
 ·exact ⟨sl,vs,T,_,_,(u1 e (Ne.symm hne)).trans he,h1,hT,hne,u2,rfl,by simp [hz],hc⟩
end
section
variable {X:Cx}{E:XK}{pins:List (Addr×Obj)}{σ:L2.St}{H:Hp}{s:Shared}
theorem back_made {e:Addr}{cls:Value}{dd:Option Addr}{z:Option Value}{E':Value→Shared→Prop}(hX:XeOut X E)(J:Inv X pins σ H s)(hx:Raw s.heap (PySem.W.hideAll s.heap (e::frs (X.env::X.outer))) (fun b=>H b=none) e cls dd)(h0:X.s₀.heap.get? e=none)(hf:H e=none)(hd:∀ d,dd=some d→∃ fs,H d=some (.xd fs))(hE:E cls dd H) :
  wpAny (model X.prog X.w) (X.A.mark z) (noteFrame (.ref e) X.env) (fun _ s1=>cameBackBy (model X.prog X.w) X.A X.env X.xe (.ref e) s1) E' s:=by
 have stk:=J.stack
 rw [hX.stk] at stk
 have hfr:(X.A.mark z).frames=some (X.env::X.outer):=by rw [← hX.stk]; exact J.ok.frames
 have hin:∀ env∈(X.env::X.outer),∀ a,env.frame=some a→a∈e::frs (X.env::X.outer):=fun env he a ha=>List.mem_cons_of_mem _ (List.mem_filterMap.mpr ⟨env,he,ha⟩)
 refine note_d (B:=PySem.W.hideAll s.heap (e::frs (X.env::X.outer))) hfr (PySem.W.funFrames_hide stk hin) hX.frm (fun b o q=>PySem.W.of_hideAll _ q) (PySem.W.hideAll_none _ List.mem_cons_self) (.inl hx) fun h1 f1 up1=>?_
 unfold cameBackBy
 obtain ⟨sl1,vs1,T1,oT1,ts1,he1,g1,_⟩:=id f1.tr
 refine wpAny_bind (wpAny_field he1 rfl g1 ?_)
 rw [if_neg (by simp)]
 rw [hX.frm]
 refine flight_to (s:={ s with heap:=h1 }) f1 fun h2 f2 up2=>?_
 refine hX.out _ _ ?_
 unfold leaving
 refine wpAny_bind (note_again (s:={ s with heap:=h2 }) hX.frm f2 ?_)
 refine flight_d (s:={ s with heap:=h2 }) f2 fun h3 f3 up3=>?_
 have cov:∀ b o,s.heap.get? b=some o→b∉frs X.stack→((∃ u,X.s₀.heap.get? b=some u)∨∃ u,H b=some u)→(PySem.W.hideAll s.heap (e::frs (X.env::X.outer))).get? b=some o:=fun b o q hb hc=>by
  refine PySem.W.hideAll_get _ q fun z=>?_
  rcases List.mem_cons.mp z with z | z
  ·rcases hc with ⟨u,e'⟩ | ⟨u,e'⟩
   ·rw [z,h0] at e'; cases e'
   ·rw [z,hf] at e'; cases e'
  ·rw [hX.stk] at hb
   exact hb z
 obtain ⟨un,hok,cv⟩:=left_ok hX.toDefCx J f3.st (up1.trans (up2.trans up3)) cov
 obtain ⟨_,_,q⟩:=f3.fr
 exact ⟨e,cls,dd,H,rfl,⟨J.os,J.bare,un,hok,⟨_,⟨f3.st,f3.ne,q,f3.tr⟩,cv⟩,hf,hd⟩,hE⟩
end
theorem chn_dat {p:Addr×Obj}:∀ {l:List (Addr×Obj)} {v:Value},Chn l v→p∈l→∃ ws,p.2.data=.fields ws
 | [],_,_,z=>nomatch z
 | q::l,v,h,z=>by
  obtain ⟨_,ws,c,hd,_,h⟩:=h
  rcases List.mem_cons.mp z with rfl | z
  ·exact ⟨ws,hd⟩
  ·exact chn_dat h z
theorem del_upd {H:Hp}{a:Addr}{o:HO}(h:H a=none):del (upd H a o) a=H:=by
 funext b
 by_cases z:b=a
 ·rw [z,del_same,h]
 ·rw [del_ne z,upd_ne z]
theorem inv_pins {X:Cx}{pins qs:List (Addr×Obj)}{σ:L2.St}{H:Hp}{s:Shared}(I:Inv X pins σ H s)(h:∀ p∈qs,s.heap.get? p.1=some p.2∧H p.1=none∧p.1≠X.env.locals∧¬p.1∈X.fs∧∀ v:Option Value,p.2.data≠Data.cell v):Inv X qs σ H s :=
 ⟨I.ok,I.os,I.bare,I.base,I.loc,I.cell,I.free,I.freeC,fun p hp=>by
  rcases List.mem_append.mp hp with hp | hp
  ·exact I.pin p (List.mem_append_left _ hp)
  ·exact h p hp,I.hok,I.len⟩
def tTryF (Rr:RX)(tb:TS)(C:Addr)(sp:Sp)(E:XK)(t:TA):TS:=fun D σ H=>tb D σ H∧∀ cls dd σ' H',Rr cls dd σ' H'→tRaiseI C sp E t D σ' H'
section
variable {X:Cx}{body:List Stmt}{x y:Str}{C C2 N fI:Addr}{np yp cpos np2 rpos hpos pos:Pos}{kd:Nat}{tb:TS}{e:Expr}{es:List Expr}{t:TA}{k:Nat}{fd:FuncData}{ps:List Str}{sp:Sp}{E:XK}
theorem ps_tryF {Rr:RX}(hX:XeOut X E)(hg:Gl X x)(hmg:X.mg x=some (.ref C))(hm:∀ cls dd σ H,Rr cls dd σ H→∃ C',cls=.ref C'∧PySem.W.kitCls X.K (.ref C') (.ref C)=some true)(hC:PySem.W.mroIn X.K C (.type "BaseException")=some true)
  (O:ExcCI X.K X.mg y C2 N fI) (G:FnH X.prog X.w X.K X.mg X.base k fI fd ps sp) (hr:Room (k+1) X.A) (hbd:Binds X.K fd ps []) (hg2:Gl X y) (hb:∀ pn,PSs ((cxP X pn).wish (xeT (cxP X pn) Rr)) body tb) (ha:∀ pn xa,PA (cxH (cxP X pn) xa) (e::es) t)
  (hdb:(x == ("__debug__":Str))=false:=by decide) (hdb2:(y == ("__debug__":Str))=false:=by decide) (he:starEach (e::es) X.env=(false,eval e X.env)::starEach es X.env:=by rfl) (hpl:(backTo cpos (starEach es X.env)).any (·.1)=false:=by rfl) :
  PS X (.Try body [.ExceptHandler (some (.Name x np)) none [.Raise (some (.Call (.Name y yp) (e::es) [] cpos)) (some (.Constant .none kd np2)) rpos] hpos] [] [] pos) (tTryF Rr tb C2 sp E t):=by
 intro pins s σ H D I h
 obtain ⟨h1,h2⟩:=h
 refine wpAny_Try_except (wpAny_mono (hb (X.pn++pins) [] s σ H D ((inv_toP I).wish _) h1) (fun f s1 q=>?_) (fun e s1 q=>?_))
 ·have q':SP X pins D f s1:=sp_ofP q.unwish
  cases f with
  | next=>exact wpAny_execs_nil q'
  | brk=>exact q'
  | cont=>exact q'
  | ret u=>exact q'
 ·refine to_suite (nm:=none) hX.toDefCx hg hmg hm hC hdb q fun xa cls dd σ' H' B h5 ee r hf f5 land=>?_
  subst ee
  refine codeAny_handlers_suite (flight_d (s:={ s1 with heap:=h5 }) f5 fun h6 f6 up6=>?_)
  have J7:=(land h6 f6 up6).del upd_same
  rw [del_upd hf] at J7
  obtain ⟨sl,vs,T,oT,ts,he6,g1,hT,hne,ho,hd',h3,c,l,hc2,hch,hl⟩:=id f6.tr
  have nofr:∀ b ob ws,h6.get? b=some ob→ob.data=.fields ws→b≠X.env.locals∧b∉frs X.outer:=fun b ob ws q1 q2=>by
   have no:b∉frs (X.env::X.outer):=fun z=>by
    obtain ⟨_,o,ho,nf⟩:=f6.fr.mem z
    rw [q1] at ho
    cases ho
    exact nf _ q2
   exact ⟨fun z=>no ((mem_frs hX.frm).mpr (.inl z)),fun z=>no ((mem_frs hX.frm).mpr (.inr z))⟩
  have chn:Chn ((xa,⟨cls,dd,.fields vs,sl⟩)::l) (.ref xa):=⟨rfl,vs,c,rfl,hc2,hch⟩
  have J9:Inv (cxH (cxP X (X.pn++pins)) xa) ((xa,⟨cls,dd,.fields vs,sl⟩)::l) σ' H' { s1 with heap:=h6 }:=by
   refine inv_pins (inv_toH J7) fun p hp=>?_
   obtain ⟨ws,hw⟩:=chn_dat chn hp
   have q1:h6.get? p.1=some p.2∧H' p.1=none:=by
    rcases List.mem_cons.mp hp with rfl | hp
    ·exact ⟨he6,hf⟩
    ·exact ⟨f6.st _ _ (hl p hp).1,(hl p hp).2⟩
   obtain ⟨n1,n2⟩:=nofr _ _ _ q1.1 hw
   exact ⟨q1.1,q1.2,n1,n2,fun v z=>by rw [hw] at z; cases z⟩
  obtain ⟨nm,q',bs,bm,hdct,sn,sub,ab,col,dd',k0,k1,k2,k3,k5,lk,tl⟩:=O.k.ex
  obtain ⟨oI,lf,hfc⟩:=O.fn
  have kin:=I.ok.mod.kin
  have TT:=PySem.W.tail_of_in kin tl
  have hN:X.base.Ns N (X.base.nsMap N):=.of_isNs (PySem.W.isNs_of_in kin O.ns)
  have hi:X.base.nsMap N "__init__"=some (.ref fI):=ns_some kin hN O.ini
  refine wpAny_execs_cons (thn (Q:=fun _ _=>False) ?_ fun f s2 z=>z.elim)
  refine raise_callF (C:=C2) (nm:=nm) (q:=q') (N:=N) (bs:=bs) (bm:=bm) (hdct:=hdct) (sn:=sn) (sub:=sub) (ab:=ab) (col:=col) (dd:=dd') (k0:=k0) (k1:=k1) (k2:=k2) (k3:=k3) (k5:=k5) PySem.F.excBase_ValueError (mN:=X.base.nsMap N) (oI:=oI) (xa:=xa)
   (TT.hasType (show bmVE.contains (.type "BaseException")=true by decide +kernel)) rfl (by rw [he]; show (false || (backTo cpos (starEach es X.env)).any (·.1))=false; rw [hpl]; rfl) hi hfc (ld_glob J9 hg2 O.mg ⟨rfl,?_⟩ hdb2)
  have a:=ha (X.pn++pins) xa cpos _ _ σ' H' _ J9 (h2 cls dd σ' H' r)
  have he':starEach (e::es) (cxH (cxP X (X.pn++pins)) xa).env=(false,eval e X.env)::starEach es X.env:=he
  rw [he'] at a
  rw [he]
  refine Calls.evalArgs_plain (wpAny_mono a (fun us s2 ⟨vs2,H2,I2,r2,hz,q2⟩=>?_) fun _ _ y=>y.elim)
  refine ⟨rfl,by rw [← r2.length]; exact hz,I2.kIn _ _ lk,hN.keeps I2.bk,PySem.W.tail_of_in I2.kIn tl,I2.kIn _ _ lf,fun h' e' hm le=>?_⟩
  obtain ⟨t0,ht0,_,_⟩:=hm.there
  have hfree:H2 e'=none:=I2.hok.fresh le
  have I3:=I2.laid (t':=s2.toks) (o:=exN e' C2 none) hm.keeps le (exN_ok ht0 rfl ⟨rfl,rfl,show 4<6 by decide⟩)
  have hq:=q2 e' hfree
  have r3:Vals (V.ref e'::vs2) (Value.ref e'::us):=.cons rfl r2
  have hln:(Value.ref e'::us++[]).length=ps.length:=by
   have e1:=r3.length
   rw [G.len _ _ _ _ hq] at e1
   rw [List.append_nil]
   exact e1.symm
  have bd:=hbd { s2 with heap:=h',toks:=s2.toks } (Value.ref e'::us) I3.kIn hln
  rw [List.append_nil] at bd
  have rm:Room (k+1) (calmA (X.A.mark (some (.ref xa)))):=⟨rfl,hr.dp,hr.un,hr.gd⟩
  have rm2:=rm.make C2 us []
  refine wpAny_call (codeAny_mono (G.run _ X.stack _ _ ⟨Value.ref e'::us,[]⟩ (Value.ref e'::us) _ _ E0 ⟨rfl,rm2.dp,rm2.un,rm2.gd⟩ (I3.env0.make C2 us []) bd r3 hq) fun r' s' hq'=>?_)
  cases r' with
  | error y=>exact False.elim hq'
  | ok fl =>
   cases fl with
   | ret u =>
    obtain ⟨v,H4,I4,rv,ev,dx,h4,hdx,hE⟩:=I3.after hq'
    subst ev
    obtain ⟨⟨vs',sl',t',hr',h0',h1'⟩,_,_⟩:=(show ObjOk X.prog X.w H4 s'.heap e' (exN e' C2 dx) from I4.hok e' _ h4)
    have old:∀ b ob,s2.heap.get? b=some ob→b≠e':=fun b ob q1 z=>by
     have q2:=Heap.lt_size q1
     rw [z] at q2
     exact absurd (Nat.lt_of_lt_of_le q2 le) (Nat.lt_irrefl _)
    have pn:∀ p∈(xa,(⟨cls,dd,.fields vs,sl⟩:Obj))::l,s'.heap.get? p.1=some p.2∧p.1≠e':=fun p hp=>⟨(I4.pin p (List.mem_append_right _ hp)).1,old _ _ (I2.pin p (List.mem_append_right _ hp)).1⟩
    refine ⟨rv,I4.kIn _ _ lk,old _ _ (I2.kIn _ _ lk),dx,vs',sl',_,l,hr',⟨h1'.1,h1'.2.2⟩,chn,pn,fun h'' ws oth ho' w1 w2=>?_⟩
    have I5:=I4.del h4
    have e0:X.s₀.heap.objs.size≤e':=Nat.le_trans I2.sz le
    have hL:e'≠X.env.locals:=fun z=>by
     obtain ⟨m,⟨ob,_,_,ho2,_⟩,_⟩:=I2.loc
     exact old _ _ ho2 z.symm
    have cl:∀ y c,X.env.cells.lookup y=some c→c≠e':=fun y c q1 z=>by
     obtain ⟨v,ob,ho2,_⟩:=I2.cell y c q1
     exact old _ _ ho2 z
    have I6:=I5.turned (t':=s'.toks) (it:=e') (h':=h'') (fun b ob hb q1=>(oth b hb).trans q1) del_same hL (.inr e0) cl fun p hp=>old _ _ (I2.pin p hp).1
    have J6:Inv X pins σ' (del H4 e') { s' with heap:=h'',toks:=s'.toks }:=inv_ofP (inv_ofH J7.ok (inv_pins (qs:=[]) I6 fun p z=>nomatch z))
    refine back_made hX J6 ⟨sl',ws,ho',w1,_,_,w2,chn,fun p hp=>?_⟩ ?_ del_same (fun d z=>?_) hE
    ·obtain ⟨p1,p2,p3,p4,_⟩:=I4.pin p (List.mem_append_right _ hp)
     refine ⟨PySem.W.hideAll_get _ ((oth _ (pn p hp).2).trans p1) fun z=>?_,?_⟩
     ·rcases List.mem_cons.mp z with z | z
      ·exact (pn p hp).2 z
      ·exact ((mem_frs hX.frm).mp z).elim p3 p4
     ·exact (del_ne (pn p hp).2).trans p2
    ·exact Heap.get?_none_of_le e0
    ·obtain ⟨ne,fs,hfs⟩:=hdx d z
     exact ⟨fs,by rw [del_ne ne]; exact hfs⟩
   | next=>exact False.elim hq'
   | brk=>exact False.elim hq'
   | cont=>exact False.elim hq'
end
end
section
open PySem PySem.Spec PyProof.Rows L2
def tabO (P:Addr)(ps:Array Value):HO:=.ext fun h=>h.get? P=some (PySem.W.tabObj ps)
def codO (c:Addr)(q:Str):HO:=.ext fun h=>h.CodeRec (.ref c) q
def lamO (f:Addr)(o:Obj):HO:=.ext fun h=>h.get? f=some o
section
variable {P:Program}{w:World}{H:Hp}{h:Heap}{a:Addr}
theorem tabO_ok {ps:Array Value}(e:h.get? a=some (PySem.W.tabObj ps)):ObjOk P w H h a (tabO a ps):=⟨e,⟨_,e⟩,fun _ _ q k=>k _ q⟩
theorem lamO_ok {o:Obj}(e:h.get? a=some o):ObjOk P w H h a (lamO a o):=⟨e,⟨_,e⟩,fun _ _ q k=>k _ q⟩
theorem codO_ok {q:Str}(e:h.CodeRec (.ref a) q):ObjOk P w H h a (codO a q):=by
 obtain ⟨c,o,vs,t,ec,ho,hd,hv⟩:=e
 cases ec
 exact ⟨⟨_,_,_,_,rfl,ho,hd,hv⟩,⟨_,ho⟩,fun _ _ ⟨c,o,vs,t,ec,ho,hd,hv⟩ k=>by
  cases ec
  exact ⟨_,_,_,_,rfl,k _ ho,hd,hv⟩⟩
end
def LamObj (qual:Str)(params:Arguments)(body:Expr)(scope:Scope)(cl:List (Str×Addr))(c':Addr)(o:Obj):Prop:=∃ pm ctv,o=PySem.W.kla_obj "<lambda>" qual params body scope cl pm c' ctv
def tLam (P:Addr)(pos:Pos)(qual:Str)(params:Arguments)(body:Expr)(scope:Scope)(cl:List (Str×Addr)):TE:=fun _ H Q=>∃ ps,H P=some (tabO P ps)∧TriplesOk ps.toList ∧
 ((codeAmong pos ps.toList=none∧∀ f c' o,H f=none→H c'=none→f≠c'→LamObj qual params body scope cl c' o→Q (.ref f) (upd (upd (upd H P (tabO P (ps++#[rawInt pos.line,rawInt pos.col,.ref c']))) c' (codO c' qual)) f (lamO f o))) ∨
  ∃ c',codeAmong pos ps.toList=some (.ref c')∧∀ f o,H f=none→LamObj qual params body scope cl c' o→Q (.ref f) (upd H f (lamO f o)))
def BltAt (mg:Str→Option Value)(base:Heap):Prop:=∃ bm o,mg "__builtins__"=some (.ref bm)∧bm≠builtinsNs∧bm≠mainGlobals∧base.get? bm=some o∧o.cls=.type "module"∧o.dict=some builtinsNs∧o.data=.plain
theorem pe_lam {X:Cx}{P c:Addr}{params:Arguments}{body:Expr}{scope:Scope}{cl:List (Str×Addr)}{pos:Pos}(hcode:X.env.code=.ref c)(hT:∀ h,X.K.In h→PySem.W.CodeHd h c P)(hB:BltAt X.mg X.base)(hcl:closureFor scope X.env=pure cl)(hdf:defaultsOf params X.env=([],[]):=by rfl) :
  PE X (.Lambda params body scope pos) (tLam P pos (X.env.qual++"<lambda>") params body scope cl):=by
 intro pins s σ H Q I h
 obtain ⟨ps,hP,tr,h⟩:=h
 obtain ⟨hPt,_,_⟩:=(show ObjOk X.prog X.w H s.heap P (tabO P ps) from I.hok P _ hP)
 have hns:s.heap.Ns mainGlobals X.mg:=I.ok.mod.2.keeps I.bk
 have neM:mainGlobals≠P:=fun z=>by
  obtain ⟨o,es,ep,ho,hd,_⟩:=hns
  rw [z] at ho
  rw [show s.heap.get? P=some (PySem.W.tabObj ps) from hPt] at ho
  cases ho
  cases hd
 have blt:s.heap.BuiltinsAt X.mg P:=by
  obtain ⟨bm,o,e1,n1,n2,ho,r⟩:=hB
  have hb:=I.bk _ _ ho
  refine ⟨bm,o,e1,n1,n2,fun z=>?_,hb,r⟩
  rw [z,show s.heap.get? P=some (PySem.W.tabObj ps) from hPt] at hb
  cases hb
  cases r.1
 refine PySem.W.kla_eval hdf ?_
 rcases h with ⟨cn,h⟩ | ⟨c',cs,h⟩
 ·refine PySem.W.kla_makeFunction hcl I.ok.glob hns hcode (hT _ I.kIn) hPt tr cn neM blt fun c' ctv h' tk ext le lt rec hP'=>?_
  have fr:∀ b,s.heap.objs.size≤b→H b=none:=fun b hb=>I.hok.fresh hb
  have lh:s.heap.objs.size≤h'.objs.size:=Nat.le_trans le (Nat.le_of_lt lt)
  have nc:H c'=none:=fr c' le
  have nf:H h'.objs.size=none:=fr _ lh
  have cf:h'.objs.size≠c':=Nat.ne_of_gt lt
  have old:∀ b u,s.heap.get? b=some u→b≠c'∧b≠h'.objs.size:=fun b u e=>⟨Nat.ne_of_lt (Nat.lt_of_lt_of_le (Heap.lt_size e) le),Nat.ne_of_lt (Nat.lt_of_lt_of_le (Heap.lt_size e) lh)⟩
  have trk:∀ b u,H b=some u→b≠c'∧b≠h'.objs.size:=fun b u e=>⟨ne_of_none e nc,ne_of_none e nf⟩
  have Pc:P≠c'∧P≠h'.objs.size:=trk P _ hP
  generalize eo:PySem.W.kla_obj "<lambda>" (X.env.qual++"<lambda>") params body scope cl ((X.mg "__name__").getD .none) c' ctv=o
  have kp:∀ b u,b≠P→s.heap.get? b=some u→(h'.push o).get? b=some u:=fun b u hb e=>Heap.get?_push_of_some _ (ext b u hb e)
  have same:∀ b u,H b=some u→b≠P→upd (upd (upd H P (tabO P (ps++#[rawInt pos.line,rawInt pos.col,.ref c']))) c' (codO c' (X.env.qual++"<lambda>"))) h'.objs.size (lamO h'.objs.size o) b=some u:=fun b u e hb=>by
   rw [upd_ne (trk b u e).2,upd_ne (trk b u e).1,upd_ne hb]
   exact e
  have notP:∀ b u,H b=some u→(∀ φ,u≠.ext φ)→b≠P:=fun b u e n z=>by
   rw [z,hP] at e
   exact n _ (Option.some.inj e).symm
  refine ⟨.ref h'.objs.size,_,I.un (t':=tk) ⟨fun b u e n _ _=>?_,fun b u e n _ _=>?_,fun b u e n _=>?_,fun b u e _=>?_,fun b xs e=>?_,fun b u v e=>?_,fun b qs e=>?_⟩ (fun b u e=>?_),rfl,h h'.objs.size c' o nf nc cf ⟨_,_,eo.symm⟩⟩
  ·exact kp b u (fun z=>by rw [z,hP] at n; cases n) e
  ·exact ⟨u.slots,kp b u (fun z=>by rw [z,hP] at n; cases n) e⟩
  ·rw [upd_ne (old b u e).2,upd_ne (old b u e).1,upd_ne (fun z=>by rw [z,hP] at n; cases n)]
   exact n
  ·by_cases z:b=P
   ·exact ⟨_,by rw [z]; exact Heap.get?_push_of_some _ hP'⟩
   ·exact ⟨u,kp b u z e⟩
  ·exact same b _ e (notP b _ e fun _ z=>by cases z)
  ·exact same b _ e (notP b _ e fun _ z=>by cases z)
  ·exact ⟨#[],by rw [same b _ e (notP b _ e fun _ z=>by cases z)]; simp⟩
  ·by_cases z1:b=h'.objs.size
   ·rw [z1,upd_same] at e
    cases e
    rw [z1]
    exact lamO_ok (Heap.get?_push_size _ (by rw [← eo]; rfl))
   rw [upd_ne z1] at e
   by_cases z2:b=c'
   ·rw [z2,upd_same] at e
    cases e
    rw [z2]
    refine codO_ok ?_
    obtain ⟨c1,o1,v1,t1,e1,e2,r⟩:=rec
    exact ⟨c1,o1,v1,t1,e1,Heap.get?_push_of_some _ e2,r⟩
   rw [upd_ne z2] at e
   by_cases z3:b=P
   ·rw [z3,upd_same] at e
    cases e
    rw [z3]
    exact tabO_ok (Heap.get?_push_of_some _ hP')
   rw [upd_ne z3] at e
   refine (I.hok b u e).stay (fun d v hd q=>?_) (fun d q=>?_) fun d xs q=>?_
   ·refine kp d v (fun z=>?_) q
    rcases hd with rfl | hd
    ·exact z3 z
    ·rw [z,hP] at hd
     cases hd
   ·exact same d _ q (notP d _ q fun _ z=>by cases z)
   ·exact same d _ q (notP d _ q fun _ z=>by cases z)
 ·refine PySem.W.kla_makeFunctionHit hcl I.ok.glob hns hcode (hT _ I.kIn) hPt tr cs blt fun ctv h' tk kk le=>?_
  have I2:=I.laid (h':=h'.push (PySem.W.kla_obj "<lambda>" (X.env.qual++"<lambda>") params body scope cl ((X.mg "__name__").getD .none) c' ctv)) (a:=h'.objs.size) (t':=tk) (o:=lamO h'.objs.size (PySem.W.kla_obj "<lambda>" (X.env.qual++"<lambda>") params body scope cl ((X.mg "__name__").getD .none) c' ctv)) (fun b u e=>Heap.get?_push_of_some _ (kk b u e)) le (lamO_ok (Heap.get?_push_size _ rfl))
  exact ⟨.ref h'.objs.size,_,I2,rfl,h _ _ (I.hok.fresh le) ⟨_,_,rfl⟩⟩
def CalAt (K:PySem.W.Frag)(H:Hp)(f:Addr):Prop:=PySem.W.keepIn K (.ref f)=true∨∃ (o:Obj) (fd:FuncData),H f=some (lamO f o)∧o.data=.func fd
def RunV (P:Program)(w:World)(K:PySem.W.Frag)(mg:Str→Option Value)(base:Heap)(k:Nat)(f:Addr)(sp:Sp)(H:Hp):Prop:=∀ (A:Around) (outer:List Env) (s:Shared) (us:List Value) (vs:List V) (Q:VK) (E:XK),Room k A→Env0 P w K mg base A outer s H→Vals vs us→sp vs H Q E →
 codeAny (model P w) A (.call (.ref f) ⟨us,[]⟩) (CR CX0 outer P w H s Q E) s
def tCallV (P:Program)(w:World)(K:PySem.W.Frag)(mg:Str→Option Value)(base:Heap)(k i:Nat)(t:TA):TE:=fun σ H Q=>∃ f,σ[i]?=some (some (.ref f))∧CalAt K H f∧t σ H fun vs H1=>(∀ o,H f=some o→H1 f=some o)∧∃ sp,RunV P w K mg base k f sp H1∧sp vs H1 Q E0
section
variable {X:Cx}{k j i:Nat}{x:Str}{e:Expr}{es:List Expr}{t:TA}{p pos:Pos}
theorem run_val {pins:List (Addr×Obj)}{σ:L2.St}{H:Hp}{s:Shared}{Q:VK}{us:List Value}{vs:List V}{f:Addr}{sp:Sp}(G:RunV X.prog X.w X.K X.mg X.base k f sp H)(hr:Room k X.A)(I:Inv X pins σ H s)(r:Vals vs us)(h:sp vs H Q E0):wpAny (model X.prog X.w) X.A (call (.ref f) us) (EP X pins σ Q) X.xe s:=by
 refine wpAny_call (codeAny_mono (G X.A X.stack s us vs Q E0 hr I.env0 r h) fun r s' hq=>?_)
 cases r with
 | error e=>exact False.elim hq
 | ok fl =>
  cases fl with
  | ret u=>exact I.after hq
  | next=>exact False.elim hq
  | brk=>exact False.elim hq
  | cont=>exact False.elim hq
theorem pe_callV (hr:Room j X.A)(hk:k≤j)(hx:PE X (.Name x p) (tVar i))(ha:PA X (e::es) t)(he:starEach (e::es) X.env=(false,eval e X.env)::starEach es X.env:=by rfl)(hpl:(backTo pos (starEach es X.env)).any (·.1)=false:=by rfl) :
  PE X (.Call (.Name x p) (e::es) [] pos) (tCallV X.prog X.w X.K X.mg X.base k i t):=by
 intro pins s σ H Q I h
 obtain ⟨f,hf,ca,h⟩:=h
 refine wpAny_Call_Name_kw (thn (hx pins s σ H (fun v H1=>v=.ref f∧H1=H) I ⟨_,hf,rfl,rfl⟩) fun u s1 ⟨v,H1,I1,rv,ev,eH⟩=>?_)
 subst ev eH
 obtain rfl:u=Value.ref f:=rv
 rcases ca with ca | ⟨o,fd,ho,hd⟩
 ·refine PySem.W.callWith_K (h₀:=X.base) I.ok.mod.kin ca (thn (ha pos pins s1 σ H1 _ I1 h) fun us s2 ⟨vs,H2,I2,r,_,sp,G,q⟩=>⟨I2.kIn,?_⟩) he hpl
  exact run_val G (hr.mono hk) I2 r q
 ·have at_:∀ {H':Hp} {s':Shared} {o:Obj} {fd:FuncData},Inv X pins σ H' s'→H' f=some (lamO f o)→o.data=.func fd→PySem.W.FnAt f s'.heap:=fun {H' s' o fd} J hh dd=>by
   obtain ⟨q,_,_⟩:=(show ObjOk X.prog X.w H' s'.heap f (lamO f o) from J.hok f _ hh)
   obtain ⟨oc,od,dt,sl⟩:=o
   cases dd
   exact ⟨oc,od,fd,sl,q⟩
  refine PySem.W.callWith_F (at_ I1 ho hd) (thn (ha pos pins s1 σ H1 _ I1 h) fun us s2 ⟨vs,H2,I2,r,st,sp,G,q⟩=>⟨at_ I2 (st _ ho) hd,run_val G (hr.mono hk) I2 r q⟩) he hpl
end
theorem Fn.val {P:Program}{w:World}{K:PySem.W.Frag}{mg:Str→Option Value}{base:Heap}{x:Str}{k:Nat}{ps:List Str}{sp:Sp}(F:Fn P w K mg base x k ps sp):∃ f,mg x=some (.ref f)∧∀ H,CalAt K H f∧RunV P w K mg base k f sp H:=by
 obtain ⟨f,fd,G,m,kp,b⟩:=F.ex
 refine ⟨f,m,fun H=>⟨.inl kp,fun A outer s us vs Q E hr e0 r h=>?_⟩⟩
 have hl:(us++[]).length=ps.length:=by rw [List.append_nil,← r.length]; exact G.len _ _ _ _ h
 have bd:=b s us (e0.mod.kin.keeps fun b o e=>(e0.bs b o e).1) hl
 rw [List.append_nil] at bd
 exact G.run A outer s H ⟨us,[]⟩ us vs Q E hr e0 bd r h
end
section
open PySem PySem.Spec PyProof.Rows L2
structure DefT (K:PySem.W.Frag)(mg:Str→Option Value)(x:Str)(st:Stmt)(c T:Addr):Prop where
 ex:∃ (f:Addr) (fd:FuncData),Fun K x x st f fd∧mg x=some (.ref f)∧fd.code=.ref c
 hd:∀ h,K.In h→PySem.W.CodeHd h c T
 no:K.lookup T=none
theorem mk_defT {K:PySem.W.Frag}{h:Heap}{mg:Str→Option Value}{x:Str}{st:Stmt}{f c T:Addr}{oc kV dc pm ct:Value}{od an:Option Addr}{sl:Array (Option Value)}{cd:Option Addr}{v0 v1 v2 v3 v4 v5 v6 v8 v12 v13 v14 v15 v16 v17:Value}{fl tx:Int}{tg tt tf:Nat}{inF:Bool}{file:Str}{sl2:Array (Option Value)}(X:K.In h)(G:h.Ns mainGlobals mg)
  (a:PySem.W.nsIn K mainGlobals x=some (some (.ref f))) (l:K.lookup f=some ⟨oc,od,.func (PySem.W.fnOf x x (defArgs st) (defBody st) (defScope st) .none kV dc pm an (.ref c) ct),sl⟩) (cc:PySem.W.codeIn K (.ref c) x=true) (k:PySem.W.keepIn K (.ref f)=true)
  (lc:K.lookup c=some ⟨.type "code",cd,.fields #[v0,v1,v2,v3,v4,v5,v6,.int fl tg,v8,.bool inF,.int tx tt,.ref T,v12,v13,v14,v15,v16,v17,.str file tf],sl2⟩) (no:K.lookup T=none) (ne:c≠T):DefT K mg x st c T :=
 ⟨⟨f,_,fun_mk l cc k,PySem.W.mg_of X G a,rfl⟩,fun _ hk=>⟨_,_,file,tf,fl,tg,inF,tx,tt,hk _ _ lc,rfl,rfl,rfl,rfl,rfl,rfl,rfl,rfl,ne⟩,no⟩
def spLawT (K:PySem.W.Frag)(T:Addr):Sp:=fun vs H Q _=>∃ (a:Addr) (ns:List Int),vs=[.ref a]∧SqL K H a (ns.map V.int)∧ns.length≤63∧H T=some (tabO T #[])∧∀ H' ps,H' T=some (tabO T ps)→Q (.bl true) H'
theorem law_callT {P:Program}{w:World}{K:PySem.W.Frag}{mg mb:Str→Option Value}{k:Nat}{fa a c T:Addr}{fd:FuncData}{x:Str}{s₁:Shared}{vs:List Value}{ns:List Int}
  (KX:K.In s₁.heap) (hns:s₁.heap.Ns mainGlobals mg) (hb:s₁.heap.Ns builtinsNs mb) (hbb:∀ x:Str,x≠"__name__"→mb x=bootBuiltins x) (hlim:s₁.heap.NoLimit) (hg:s₁.gens=#[]) (ha:s₁.heap.get? a=some { cls:=.type "list",data:=.seq vs.toArray }) (hi:IntsAre vs ns) (hl:ns.length≤63) (hr:Room k callerA)
  (F:∀ base:Heap,K.In base→base.Ns mainGlobals mg→BltAt mg base→FnOk P w K mg base CX0 k fa fd [x] (spLawT K T)) (hbind:∀ (s:Shared) (u:Value),BindsTo s fd ⟨[u],[]⟩ [(x,u)]) (hB:BltAt mg s₁.heap) (hT:s₁.heap.TableAt c T #[]) (hKT:K.lookup T=none) :
  codeAny (model P w) callerA (.call (.ref fa) ⟨[.ref a],[]⟩) (fun r s'=>r=.ok (.ret (.bool true))∧OldK s₁.heap s'.heap∧s'.os=s₁.os∧AllBare s'.gens) s₁:=by
 obtain ⟨hc,hP⟩:=hT
 have neTa:T≠a:=fun z=>by
  rw [z,ha] at hP
  cases hP
 have rv:=vals_ints hi
 have lz:ns.length≤sizeLine:=Nat.le_trans hl (by decide)
 -- what is tracked: the table,and the script where the text does not hold it
 obtain ⟨H,hHT,hS,hHa,hHn⟩:∃ H:Hp,H T=some (tabO T #[])∧SqL K H a (ns.map V.int)∧(H a=none∨(K.lookup a=none∧H a=some (.frz { cls:=.type "list",data:=.seq vs.toArray } (.lst (ns.map V.int)))))∧∀ b,b≠T→b≠a→H b=none:=by
  cases hk:K.lookup a with
  | some o =>
   have e:=KX a o hk
   rw [ha] at e
   cases e
   refine ⟨fun b=>if b=T then some (tabO T #[]) else none,if_pos rfl,?_,.inl (if_neg (Ne.symm neTa)),fun b h1 _=>if_neg h1⟩
   exact .inr ⟨_,vs.toArray,_,hk,rfl,rfl,rfl,by rw [List.size_toArray,hi.length]; exact lz,by simpa using rv⟩
  | none =>
   refine ⟨fun b=>if b=T then some (tabO T #[]) else if b=a then some (.frz { cls:=.type "list",data:=.seq vs.toArray } (.lst (ns.map V.int))) else none,if_pos rfl,?_,.inr ⟨rfl,?_⟩,fun b h1 h2=>(if_neg h1).trans (if_neg h2)⟩
   ·exact .inl (.inr ⟨{ cls:=.type "list",data:=.seq vs.toArray },(if_neg (Ne.symm neTa)).trans (if_pos rfl)⟩)
   ·exact (if_neg (Ne.symm neTa)).trans (if_pos rfl)
 have hok:HOk P w H s₁.heap:=fun b u e=>by
  by_cases z:b=T
  ·rw [z,hHT] at e
   cases e
   rw [z]
   exact tabO_ok hP
  by_cases z2:b=a
  ·rcases hHa with n | ⟨_,n⟩
   ·rw [z2,n] at e
    cases e
   ·rw [z2,n] at e
    cases e
    rw [z2]
    exact ⟨ha,by rw [List.length_map]; exact lz,vs,_,rv,ha⟩
  ·rw [hHn b z z2] at e
   cases e
 have free:∀ {b:Addr} {o:Obj},s₁.heap.get? b=some o→o≠PySem.W.tabObj #[]→o≠{ cls:=.type "list",data:=.seq vs.toArray }→H b=none:=fun {b o} e n1 n2=>by
  refine hHn b (fun z=>?_) fun z=>?_
  ·rw [z,hP] at e
   exact n1 (Option.some.inj e).symm
  ·rw [z,ha] at e
   exact n2 (Option.some.inj e).symm
 have nsK:∀ {b:Addr} {m:Str→Option Value},s₁.heap.Ns b m→(hidT s₁.heap H).Ns b m:=fun {b m} ⟨o,es,ep,e,d,r⟩ =>
  ⟨o,es,ep,hidT_get e (free e (fun z=>by rw [z] at d; cases d) fun z=>by rw [z] at d; cases d),d,r⟩
 have hKb:K.In (hidT s₁.heap H):=fun b o e=>hidT_get (KX b o e) (by
  by_cases z:b=T
  ·rw [z,hKT] at e
   cases e
  by_cases z2:b=a
  ·rcases hHa with n | ⟨n,_⟩
   ·rw [z2]
    exact n
   ·rw [z2,n] at e
    cases e
  ·exact hHn b z z2)
 have hBb:BltAt mg (hidT s₁.heap H):=by
  obtain ⟨bm,o,e1,n1,n2,ho,h1,r⟩:=hB
  exact ⟨bm,o,e1,n1,n2,hidT_get ho (free ho (fun z=>by rw [z] at h1; cases h1) fun z=>by rw [z] at h1; injection h1 with e; exact absurd e (by decide)),h1,r⟩
 have e0:Env0 P w K mg (hidT s₁.heap H) callerA [] s₁ H:=⟨rfl,⟨hKb,nsK hns,⟨mb,nsK hb,hbb⟩,let ⟨mc,h1,h2⟩:=hlim; ⟨mc,nsK h1,h2⟩⟩,fun b o e=>of_hidT e,Nat.le_of_eq (hidT_size _ _),trivial,(fun b z=>nomatch z),hok,.of_eq hg⟩
 refine codeAny_mono ((F _ hKb (nsK hns) hBb).run callerA [] s₁ H ⟨[.ref a],[]⟩ [.ref a] [.ref a] (fun v H'=>v=.bl true∧∃ ps,H' T=some (tabO T ps)) E0 hr e0 (hbind s₁ (.ref a)) (.cons rfl .nil) ⟨a,ns,rfl,hS,hl,hHT,fun H' ps h=>⟨rfl,ps,h⟩⟩) fun r s' h=>?_
 cases r with
 | error e=>exact False.elim h
 | ok fl =>
  cases fl with
  | next=>exact False.elim h
  | brk=>exact False.elim h
  | cont=>exact False.elim h
  | ret u =>
   obtain ⟨v,H',os,bare,un,hok',r',rfl,ps,hps⟩:=h
   obtain rfl:u=Value.bool true:=r'
   refine ⟨rfl,⟨fun b o e=>?_,fun b o e=>un.there b o e (by simp)⟩,os,bare⟩
   by_cases z:b=T
   ·obtain ⟨q,_,_⟩:=(show ObjOk P w H' s'.heap T (tabO T ps) from hok' T _ hps)
    rw [z,hP] at e
    cases e
    rw [z]
    obtain ⟨oc,vc,c1,c2,c3,c4⟩:=hc
    exact .inr (.inl ⟨⟨c,oc,vc,c1,c2,c3,c4⟩,rfl,#[],ps,rfl,by rw [Array.empty_append]; exact q⟩)
   by_cases z2:b=a
   ·rcases hHa with n | ⟨_,n⟩
    ·exact .inl (un.keep b o e (by rw [z2]; exact n) (fun z=>nomatch z) (by simp))
    ·have q2:=hok' a _ (un.frzs a _ _ n)
     rw [z2,ha] at e
     cases e
     rw [z2]
     exact .inl q2.1
   ·exact .inl (un.keep b o e (hHn b z z2) (fun z=>nomatch z) (by simp))
theorem walkT {l:PySem.W.OpenLaw}{k:Nat}{q:Program}{loose:List Str}{XP:(Str→Option Value)→Heap→Prop}{YP:World→Heap→Prop}{d:DefRec}{K:Params→PySem.W.Frag}{x x':Str}{st:Stmt}(hn:l.most=some 63)(hdf:d.params.defaults=[])(hr:Room k callerA)
  (hY:∀ (w:World) (h:Heap),YP w h→(K w.params).In h) (hd':((recsOf q).find? (fun d=>d.name == x')).isSome=true)
  (F:∀ (w:World) (mg:Str→Option Value) (fa:Addr) (h:Heap),(K w.params).In h→h.Ns mainGlobals mg→mg d.name=some (.ref fa) →
   ∃ (c T:Addr) (fd:FuncData),DefT (K w.params) mg x' st c T∧(∀ (s:Shared) (u:Value),BindsTo s fd ⟨[u],[]⟩ [(x,u)]) ∧
    ∀ base:Heap,(K w.params).In base→base.Ns mainGlobals mg→BltAt mg base→FnOk l.prog w (K w.params) mg base CX0 k fa fd [x] (spLawT (K w.params) T)) :
  PySem.W.WalkO q loose XP YP l.row.toRowW d [] (fun f vs=>PySem.call f vs):=by
 refine Att.attach_call hn hdf fun w s₀ s₁ mg mb fa o pm cd doc a vs ns G Y ho hd hcd hmg hobj hints hlen hg=>?_
 have KX:=hY w _ Y
 obtain ⟨c,T,fd,D,hb,hF⟩:=F w mg fa _ KX G.T.g hmg
 obtain ⟨d',hd'⟩:=Option.isSome_iff_exists.mp hd'
 obtain ⟨a',o',fd',c',T',m',ho',hd2,hc',_,tab⟩:=G.T.tab d' (List.mem_of_find?_eq_some hd')
 have nm:d'.name=x':=by simpa using List.find?_some hd'
 obtain ⟨f,fdK,Fk,mK,cK⟩:=D.ex
 rw [nm,mK] at m'
 cases m'
 obtain ⟨oc,od,kV,dc,pm',an,cdv,ct,osl,rfl,lk,_⟩:=Fk.ex
 have hf:=KX _ _ lk
 rw [ho'] at hf
 cases hf
 cases hd2
 have ec:Value.ref c=Value.ref c':=cK.symm.trans hc'
 cases ec
 obtain ⟨o1,v1,_,_,_,_,_,_,_,g1,_,g3,g4,_⟩:=D.hd _ KX
 obtain ⟨o2,v2,k1,_,k3,k4⟩:=id tab.1
 rw [g1] at k1
 cases k1
 rw [g3] at k3
 cases k3
 rw [g4] at k4
 cases k4
 refine law_callT KX G.T.g G.T.b G.T.builtins G.T.nolimit hg hobj hints hlen hr hF hb ?_ tab D.no
 obtain ⟨bm,ob,e1,n1,h1,h2,h3,h4⟩:=G.T.bmain
 refine ⟨bm,ob,e1,n1,fun z=>?_,h1,h2,h3,h4⟩
 obtain ⟨og,es,ep,eg,dg,_⟩:=G.T.g
 rw [z,eg] at h1
 cases h1
 rw [dg] at h4
 cases h4
end
section
open PySem PySem.Spec PyProof.Rows L2
def celO (c:Addr)(o:Obj):HO:=.ext fun h=>h.get? c=some o
theorem celO_ok {P:Program}{w:World}{H:Hp}{h:Heap}{c:Addr}{o:Obj}(e:h.get? c=some o):ObjOk P w H h c (celO c o):=⟨e,⟨_,e⟩,fun _ _ q k=>k _ q⟩
theorem hok_del {P:Program}{w:World}{H:Hp}{h:Heap}{a:Addr}{φ:Heap→Prop}(x:HOk P w H h)(ha:H a=some (.ext φ)):HOk P w (del H a) h:=fun b u e=>by
 have ne:∀ b u,H b=some u→(∀ ψ,u≠.ext ψ)→b≠a:=fun b u e n z=>by
  rw [z,ha] at e
  exact n φ (Option.some.inj e).symm
 have hb:b≠a:=fun z=>by
  rw [z,del_same] at e
  cases e
 rw [del_ne hb] at e
 exact (x b u e).stay (fun _ _ _ q=>q) (fun d q=>by rw [del_ne (ne d _ q fun _ z=>by cases z)]; exact q) fun d xs q=>by rw [del_ne (ne d _ q fun _ z=>by cases z)]; exact q
end
section
open PySem PySem.Spec PyProof.Rows L2
def envF (qual:Str)(scope:Scope)(cl:List (Str×Addr))(L a:Addr)(cd:Value):Env:={ scope:=scope,locals:=L,globals:=mainGlobals,cells:=cl,qual:=qual++".<locals>.",func:=some a,code:=cd,frame:=some L,builtins:=builtinsNs }
def cxF (CX:CXT)(P:Program)(w:World)(K:PySem.W.Frag)(mg:Str→Option Value)(base:Heap)(N:List Str)(qual:Str)(scope:Scope)(cl:List (Str×Addr))(f:Addr)(cd:Value)(A:Around)(outer:List Env)(s:Shared)(H H0:Hp)(E:XK):Cx where
 prog:=P
 w:=w
 K:=K
 mg:=mg
 base:=base
 A:=A.deeper (envF qual scope cl s.heap.objs.size f cd)
 N:=N
 s₀:=s
 H₀:=H0
 env:=envF qual scope cl s.heap.objs.size f cd
 outer:=outer
 stack:=envF qual scope cl s.heap.objs.size f cd::outer
 ex:=[]
 calm:=true
 fn:=fun _=>false
 pn:=[]
 xe:=fun e s'=>wpAny (model P w) (A.deeper (envF qual scope cl s.heap.objs.size f cd)) (leaving (envF qual scope cl s.heap.objs.size f cd) e) (fun _ s''=>CX outer H s E e s'') (fun e' s''=>CX outer H s E e' s'') s'
structure LamSc (x y:Str)(scope:Scope):Prop where
 kind:scope.kind=.function
 co:scope.isCoroutine=false
 gen:scope.isGenerator=false
 nocell:∀ z∈scope.names,z.2≠.cell
 par:scope.names.lookup x=some .local
 cap:scope.names.lookup y=some .free
 one:∀ z,scope.names.lookup z=some .free→z=y
theorem LamSc.cells {x y z:Str}{scope:Scope}(S:LamSc x y scope)(h:scope.names.lookup z=some .cell):False:=S.nocell _ (PySem.mem_of_lookup h) rfl
theorem back_ok {P:Program}{w:World}{H H2:Hp}{h h':Heap}{c:Addr}{oc:Obj}{fs:List Addr}(hc:H c=some (celO c oc))(ho:h.get? c=some oc)(nf:c∉fs)(un:Un fs [] (del H c) H2 h h')(hok2:HOk P w H2 h'):Un fs [] H (upd H2 c (celO c oc)) h h'∧HOk P w (upd H2 c (celO c oc)) h':=by
 have ne0:∀ b:Addr,b∉([]:List Addr):=fun b z=>absurd z (by simp)
 have hc':h'.get? c=some oc:=un.keep c oc ho del_same nf (ne0 c)
 have n2:H2 c=none:=un.free c oc ho del_same (ne0 c)
 have dl:∀ b u,H b=some u→(∀ ψ,u≠.ext ψ)→b≠c∧del H c b=some u:=fun b u e n=>by
  have hb:b≠c:=fun z=>by
   rw [z,hc] at e
   exact n _ (Option.some.inj e).symm
  exact ⟨hb,(del_ne hb).trans e⟩
 have nn:∀ b,H b=none→b≠c:=fun b n z=>by
  rw [z,hc] at n
  cases n
 have nd:∀ b,H b=none→del H c b=none:=fun b n=>(del_ne (nn b n)).trans n
 refine ⟨⟨fun b o e n hb hx=>un.keep b o e (nd b n) hb hx,fun b o e n hb hx=>un.slot b o e (nd b n) hb hx,fun b o e n hx=>(upd_ne (nn b n)).trans (un.free b o e (nd b n) hx),un.there,fun b xs e=>?_,fun b o u e=>?_,fun b ps e=>?_⟩,fun b u e=>?_⟩
 ·obtain ⟨hb,d⟩:=dl b _ e fun _ z=>by cases z
  exact (upd_ne hb).trans (un.tups b xs d)
 ·obtain ⟨hb,d⟩:=dl b _ e fun _ z=>by cases z
  exact (upd_ne hb).trans (un.frzs b o u d)
 ·obtain ⟨hb,d⟩:=dl b _ e fun _ z=>by cases z
  obtain ⟨more,e2⟩:=un.tbls b ps d
  exact ⟨more,(upd_ne hb).trans e2⟩
 ·by_cases z:b=c
  ·rw [z,upd_same] at e
   cases e
   rw [z]
   exact celO_ok hc'
  ·rw [upd_ne z] at e
   exact (hok2 b u e).stay (fun _ _ _ q=>q) (fun d q=>(upd_ne (ne_of_none q n2)).trans q) fun d xs q=>(upd_ne (ne_of_none q n2)).trans q
theorem lam_runF {P:Program}{w:World}{K:PySem.W.Frag}{mg:Str→Option Value}{base:Heap}{CX:CXT}{k:Nat}{f c c':Addr}{o oc:Obj}{qual x y:Str}{params:Arguments}{body:Expr}{scope:Scope}{sp:Sp}{H:Hp}{v0:V}{u0:Value}(L:LamObj qual params body scope [(y,c)] c' o)(S:LamSc x y scope)(hf:H f=some (lamO f o))(hcd:H c'=some (codO c' qual))(hce:H c=some (celO c oc))(hoc:oc.data=.cell (some u0))(r0:RelV v0 u0)
  (len:∀ vs Q E,sp vs H Q E→vs.length=1) (hb:∀ (pm ctv:Value) (u:Value),bindArgs (PySem.W.kla_fn "<lambda>" qual params body scope [(y,c)] pm (.ref c') ctv) ⟨[u],[]⟩=pure [(x,u)])
  (hbody:∀ (A:Around) (outer:List Env) (s:Shared) (v:V) (Q:VK) (E:XK),s.heap.get? c=some oc→c∉frs outer→Room k (A.deeper (envF qual scope [(y,c)] s.heap.objs.size f (.ref c')))→sp [v] H Q E →
   ∃ t,PE (cxF CX P w K mg base [x,y] qual scope [(y,c)] f (.ref c') A outer s H (del H c) E) body t∧t [some v,some v0] (del H c) (fun v H2=>Q v (upd H2 c (celO c oc)))) (A:Around) (outer:List Env) (s:Shared) (us:List Value) (vs:List V) (Q:VK) (E:XK) (hr:Room (k+1) A) (e0:Env0 P w K mg base A outer s H) (r:Vals vs us) (hsp:sp vs H Q E) :
  codeAny (model P w) A (.call (.ref f) ⟨us,[]⟩) (CR CX outer P w H s Q E) s:=by
 obtain ⟨pm,ctv,rfl⟩:=L
 have hl:=len _ _ _ hsp
 obtain ⟨v,rfl⟩:∃ v,vs=[v]:=by
  match vs,hl with
  | [v],_=>exact ⟨v,rfl⟩
 obtain ⟨u,rfl,rv⟩:∃ u,us=[u]∧RelV v u:=by
  cases r with
  | cons a b =>
   cases b
   exact ⟨_,rfl,a⟩
 have lim:s.heap.NoLimit:=e0.mod.nolimit.keeps fun b o e=>(e0.bs b o e).1
 obtain ⟨hfo,_,_⟩:=(show ObjOk P w H s.heap f (lamO f _) from e0.hok f _ hf)
 obtain ⟨hco,_,_⟩:=(show ObjOk P w H s.heap c' (codO c' qual) from e0.hok c' _ hcd)
 obtain ⟨hcc,_,_⟩:=(show ObjOk P w H s.heap c (celO c oc) from e0.hok c _ hce)
 have hcc:s.heap.get? c=some oc:=hcc
 refine PySem.W.kla_callFunE hr.depth hfo rfl S.co S.gen rfl hco ?_
 rw [hb pm ctv u]
 refine wpAny_pure ?_
 refine wpAny_newFunctionEnv (around:=none) S.nocell (fun z hz=>?_) (fun h' hns sb=>?_) S.kind
 ·rw [List.mem_singleton.mp hz]
  exact S.par
 have kp:∀ b o,s.heap.get? b=some o→h'.get? b=some o:=fun b o e=>(sb.2 b (Nat.ne_of_lt (Heap.lt_size e))).trans (Heap.get?_push_of_some _ e)
 refine ⟨lim.keeps kp,PySem.W.kla_codeExpr ?_⟩
 have nb:∀ b o,base.get? b=some o→del H c b=none:=fun b o e=>by
  by_cases z:b=c
  ·rw [z]
   exact del_same
  ·exact (del_ne z).trans (e0.bs b o e).2
 have nfr:c∉frs outer:=fun z=>by
  have:=e0.frf c z
  rw [hce] at this
  cases this
 obtain ⟨t,ht,hq⟩:=hbody A outer s v Q E hcc nfr (hr.deeper _) hsp
 have dfr:∀ b,s.heap.objs.size≤b→del H c b=none:=fun b hb=>by
  by_cases z:b=c
  ·rw [z]
   exact del_same
  ·exact (del_ne z).trans (e0.hok.fresh hb)
 have lk:∀ z a,([(y,c)]:List (Str×Addr)).lookup z=some a→z=y∧a=c:=fun z a e=>by
  rw [List.lookup_cons] at e
  split at e
  ·cases e
   exact ⟨eq_of_beq ‹_›,rfl⟩
  ·cases e
 have noA:∀ b:Addr,b∉([]:List Addr):=fun b z=>absurd z (by simp)
 have I:Inv (cxF CX P w K mg base [x,y] qual scope [(y,c)] f (.ref c') A outer s H (del H c) E) [] [some v,some v0] (del H c) { s with heap:=h',toks:=s.toks+1 }:=by
  refine ⟨⟨e0.mod,S.kind,rfl,rfl,Nat.le_refl _,fun z1 z2 a h1 h2=>?_,fun z hz=>?_,fun z a h _=>(by cases h),fun _=>hr.hd,Around.frames_deeper e0.frames,.inr ⟨rfl,rfl⟩,fun b z=>absurd z (noA b),fun b o e=>⟨(e0.bs b o e).1,nb b o e⟩,e0.bsz,fun b _ _=>noA b,fun b z=>absurd z (noA b),e0.funs,fun b hb=>?_⟩,
   rfl,e0.bare,Un.kept kp,⟨_,hns,fun i z v' h1 h2 h3=>?_⟩,fun z a h=>?_,dfr _ (Nat.le_refl _),fun z a h=>?_,fun p hp=>absurd (show p∈([]:List (Addr×Obj)) from hp) (by simp),(hok_del e0.hok hce).kept kp,rfl⟩
  ·exact (lk z1 a h1).1.trans (lk z2 a h2).1.symm
  ·have hz:scope.names.lookup z=some .cell∨scope.names.lookup z=some .free:=hz
   rcases hz with hz | hz
   ·exact (S.cells hz).elim
   ·refine ⟨c,?_⟩
    rw [S.one z hz]
    show ([(y,c)]:List (Str×Addr)).lookup y=some c
    rw [List.lookup_cons,beq_self_eq_true]
  ·by_cases z:b=c
   ·rw [z]
    exact del_same
   ·exact (del_ne z).trans (e0.frf b hb)
  ·match i,h1,h2 with
   | 0,h1,h2 =>
    cases h1
    cases h2
    refine ⟨u,rv,.inl ⟨S.par,?_⟩⟩
    show ([(x,u)]:List (Str×Value)).reverse.lookup x=some u
    rw [List.reverse_singleton,List.lookup_cons,beq_self_eq_true]
   | 1,h1,h2 =>
    cases h1
    cases h2
    refine ⟨u0,r0,.inr ⟨.inr S.cap,c,?_,oc,kp _ _ hcc,hoc⟩⟩
    show ([(y,c)]:List (Str×Addr)).lookup y=some c
    rw [List.lookup_cons,beq_self_eq_true]
   | n+2,h1,h2=>cases h1
  ·obtain ⟨_,rfl⟩:=lk z a h
   exact ⟨_,oc,kp _ _ hcc,hoc⟩
  ·obtain ⟨_,rfl⟩:=lk z a h
   exact del_same
 refine wpAny_mono (ht [] _ _ _ _ I hq) (fun u' s' ⟨v',H',J,rv',q⟩=>?_) fun e s' hs=>hs
 obtain ⟨un',hok'⟩:=back_ok hce hcc nfr J.base J.hok
 exact ⟨v',_,J.os,J.bare,un',hok',rv',q⟩
end
section
open PySem PySem.Spec PyProof.Rows L2 PySem.Builtin PySem.Builtin.Str
variable {X:Cx}
def rPart:V→List V→Hp→VK→Prop:=fun x vs H Q=>∃ z y,x=.str z∧vs=[.str y]∧(y.length == 0)=false∧z.length≤100000∧∀ p,H p=none→Q (.ref p) (upd H p (.tup [.str (Txt.partition z y).1,.str (Txt.partition z y).2.1,.str (Txt.partition z y).2.2]))
theorem mt_part:MtR X "str.partition" rPart:=by
 intro pins s σ H x vs v us Q I rx rv h
 obtain ⟨z,y,rfl,rfl,hy,hz,q⟩:=h
 obtain ⟨t,rfl⟩:=rx
 obtain ⟨u',rfl,ru⟩:=rv.one
 obtain ⟨u,rfl⟩:=ru
 have hz':z.length≤sizeLine:=Nat.le_trans hz (by decide)
 have key:∀ ta tb tc k,EP X pins σ Q (.ref s.heap.objs.size) { s with heap:=s.heap.push { cls:=.type "tuple",data:=.seq [.str (Txt.partition z y).1 ta,.str (Txt.partition z y).2.1 tb,.str (Txt.partition z y).2.2 tc].toArray },toks:=k }:=fun ta tb tc k=>by
  refine ⟨.ref s.heap.objs.size,upd H s.heap.objs.size (.tup [.str (Txt.partition z y).1,.str (Txt.partition z y).2.1,.str (Txt.partition z y).2.2]),I.laid (fun _ _ q=>Heap.get?_push_of_some _ q) (Nat.le_refl _) ⟨by show 3≤sizeLine; decide,_,.cons ⟨ta,rfl⟩ (.cons ⟨tb,rfl⟩ (.cons ⟨tc,rfl⟩ .nil)),_,Heap.get?_push_size _ rfl,rfl,0,rfl⟩,rfl,q _ I.fresh⟩
 refine call_meets F.slot_str_partition (typeIs_str _ _ _) F.entry_str_partition (F.args_str_partition_2 _ _) (meets_str_partition z y t u hy hz') ?_
 have h':=key
 unfold Txt.partition at h'
 revert h'
 cases occurrences z y 0 z.length 1 with
 | nil=>intro h'; exact h' _ _ _ _
 | cons i r=>intro h'; exact h' _ _ _ _
theorem partT_ {z y:Str}{H:Hp}{Q:VK}(hy:(y.length == 0)=false)(hz:z.length≤100000)(q:∀ p,H p=none→Q (.ref p) (upd H p (.tup [.str (Txt.partition z y).1,.str (Txt.partition z y).2.1,.str (Txt.partition z y).2.2]))):rPart (.str z) [.str y] H Q:=⟨z,y,rfl,rfl,hy,hz,q⟩
end
section
open PySem PySem.Spec PyProof.Rows L2
def Stt (h B:Heap)(U:Addr→Prop)(e:Addr)(cls:Value)(dd:Option Addr):Prop:=Raw h B U e cls dd∨∃ fl,Tr h B U e cls dd fl
section
variable {M:Model}{A:Around}{E:Value→Shared→Prop}{s:Shared}{B:Heap}{U:Addr→Prop}{env:Env}{outer:List Env}{L e:Addr}{cls:Value}{dd:Option Addr}{Q:Unit→Shared→Prop}
theorem note_3 (hfr:A.frames=some (env::outer))(hl:s.heap.FunFrames B (env::outer))(hf:env.frame=some L)(hB:B.StaysIn s.heap)(hn:B.get? e=none)(x:Stt s.heap B U e cls dd)
  (k:∀ h',FlyD B U (env::outer) e cls dd (rawInt L) h'→s.heap.UpToSlots h'→Q () { s with heap:=h' }):wpAny M A (noteFrame (.ref e) env) Q E s:=by
 rcases x with x | ⟨fl,x⟩
 ·exact note_d hfr hl hf hB hn (.inl x) k
 ·obtain ⟨sl,vs,T,oT,ts,he,h1,hT,hne,ho,hd,h3,hc⟩:=id x
  unfold noteFrame
  simp only [hf]
  refine wpAny_bind (wpAny_field he rfl h1 ?_)
  rw [if_pos (show (Value.ref T != Value.none)=true by simp)]
  refine wpAny_bind (wpAny_field ho hd h3 ?_)
  by_cases c:(fl == rawInt L)=true
  ·rw [if_pos c]
   have e1:fl=rawInt L:=eq_of_beq c
   subst e1
   exact wpAny_pure (k s.heap ⟨hB,hn,hl,x⟩ (fun _ o e _=>⟨o.slots,e⟩))
  ·rw [if_neg c]
   refine wpAny_bind (wpAny_setField ho hd (Array.getElem?_eq_some_iff.mp h3).1 ?_)
   obtain ⟨u1,u2,u3⟩:=upd_rest (f:=fun w=>w.setIfInBounds 3 Value.none) ho hd
   have up:s.heap.UpToSlots (s.heap.update T (Obj.mapFields fun w=>w.setIfInBounds 3 Value.none)):=fun b o hb nf=>⟨o.slots,u3 b o hb nf⟩
   refine entry_d (s:={ s with heap:=s.heap.update T (Obj.mapFields fun w=>w.setIfInBounds 3 Value.none) }) hfr (frames_up hl up) hf ((u1 e (Ne.symm hne)).trans he) (fun b o hb=>?_) hn (Array.getElem?_eq_some_iff.mp h1).1 hc fun h' f up'=>k h' f (up.trans up')
   exact (u1 b fun z=>by rw [z,hT] at hb; cases hb).trans (hB b o hb)
theorem flight_any {l:List Env}{fl:Value}{fo:Option Addr}(x:FlyD B U l e cls dd fl s.heap)(k:∀ h' fl',FlyD B U l e cls dd fl' h'→s.heap.UpToSlots h'→Q () { s with heap:=h' }):wpAny M A (setFlight (.ref e) fo) Q E s:=by
 obtain ⟨hB,hn,hl,sl,vs,T,oT,ts,he,h1,hT,hne,ho,hd,h3,hc⟩:=x
 have hz:3<ts.size:=(Array.getElem?_eq_some_iff.mp h3).1
 unfold setFlight
 refine wpAny_bind (wpAny_field he rfl h1 ?_)
 rw [if_pos (show (Value.ref T != Value.none)=true by simp)]
 generalize fo.elim Value.none (fun f=>rawInt f)=nv
 obtain ⟨u1,u2,u3⟩:=upd_rest (f:=fun w=>w.setIfInBounds 3 nv) ho hd
 have up:s.heap.UpToSlots (s.heap.update T (Obj.mapFields fun w=>w.setIfInBounds 3 nv)):=fun b o hb nf=>⟨o.slots,u3 b o hb nf⟩
 refine wpAny_setField ho hd hz (k _ nv ⟨fun b o hb=>?_,hn,frames_up hl up,?_⟩ up)
 ·exact (u1 b fun z=>by rw [z,hT] at hb; cases hb).trans (hB b o hb)
 ·exact ⟨sl,vs,T,_,_,(u1 e (Ne.symm hne)).trans he,h1,hT,hne,u2,rfl,by simp [hz],hc⟩
theorem leaves_3 (hfr:A.frames=some (env::outer))(hl:s.heap.FunFrames B (env::outer))(hf:env.frame=some L)(hB:B.StaysIn s.heap)(hn:B.get? e=none)(x:Stt s.heap B U e cls dd)
  (k:∀ h',FlyD B U outer e cls dd .none h'→s.heap.UpToSlots h'→Q () { s with heap:=h' }):wpAny M A (leaving env (.ref e)) Q E s:=by
 unfold leaving
 refine wpAny_bind (note_3 hfr hl hf hB hn x fun h1 f1 up1=>?_)
 refine flight_d (s:={ s with heap:=h1 }) f1 fun h2 f2 up2=>k h2 ⟨f2.st,f2.ne,?_,f2.tr⟩ (up1.trans up2)
 obtain ⟨_,_,q⟩:=f2.fr
 exact q
end
def upX (X:Cx)(E:XK):Value→Shared→Prop:=fun e s'=>∃ (xa:Addr) (cls:Value) (dd:Option Addr) (σ:L2.St) (H:Hp) (B:Heap),e=.ref xa∧Inv X [] σ H s'∧B.StaysIn s'.heap∧B.get? xa=none∧s'.heap.FunFrames B X.stack∧Stt s'.heap B (fun b=>H b=none) xa cls dd ∧
 (∀ b o,s'.heap.get? b=some o→b∉frs X.stack→((∃ u,X.s₀.heap.get? b=some u)∨∃ u,H b=some u)→B.get? b=some o)∧H xa=none∧(∀ d,dd=some d→∃ fs,H d=some (.xd fs))∧E cls dd H
structure XeU (X:Cx)(E:XK):Prop extends DefCx X where
 pn:X.pn=[]
 up:∀ e s',upX X E e s'→X.xe e s'
section
variable {X:Cx}{E:XK}{pins:List (Addr×Obj)}{σ:L2.St}{H:Hp}{s s':Shared}
theorem up_leave {e:Value}(hX:XeOut X E)(u:upX X E e s'):X.xe e s':=by
 obtain ⟨xa,cls,dd,σ,H,B,rfl,J,st,ne,fr,tr,cov,hf,hd,hE⟩:=u
 have hfr:X.A.frames=some (X.env::X.outer):=by rw [← hX.stk]; exact J.ok.frames
 rw [hX.stk] at fr
 refine hX.out _ _ (leaves_3 hfr fr hX.frm st ne tr fun h' x1 x2=>?_)
 obtain ⟨un,hok,cv⟩:=left_ok (h':=h') hX.toDefCx J x1.st x2 cov
 exact ⟨xa,cls,dd,H,rfl,⟨J.os,J.bare,un,hok,⟨B,x1,cv⟩,hf,hd⟩,hE⟩
theorem up_on {e:Value}(hD:DefCx X)(hp:X.pn=[])(I:Inv X pins σ H s)(h:CXe X.prog X.w X.stack H s E e s'):upX X E e s':=by
 obtain ⟨xa,cls,dd,H',rfl,F,hE⟩:=h
 have J:Inv X pins σ H' s':=I.call' F.os F.un F.hok F.bare fun b z=>nomatch z
 obtain ⟨B,fl,cov⟩:=F.fly
 refine ⟨xa,cls,dd,σ,H',B,rfl,J.pins_of (fun p hp=>nomatch hp),fl.st,fl.ne,fl.fr,.inr ⟨_,fl.tr⟩,fun b o q hb hc=>cov b o q hb ?_,F.free,F.dct,hE⟩
 rcases hc with ⟨u,e'⟩ | hc
 ·exact .inl (I.base.there b u e' (by rw [hD.ex]; simp))
 ·exact .inr hc
theorem up_made {e:Addr}{cls:Value}{dd:Option Addr}(hD:DefCx X)(J:Inv X pins σ H s)(hx:Raw s.heap (PySem.W.hideAll s.heap (e::frs (X.env::X.outer))) (fun b=>H b=none) e cls dd)(h0:X.s₀.heap.get? e=none)(hf:H e=none)(hd:∀ d,dd=some d→∃ fs,H d=some (.xd fs))(hE:E cls dd H):upX X E (.ref e) s:=by
 have stk:=J.stack
 have hin:∀ env∈X.stack,∀ a,env.frame=some a→a∈e::frs (X.env::X.outer):=fun env he a ha=>List.mem_cons_of_mem _ (List.mem_filterMap.mpr ⟨env,by rw [hD.stk] at he; exact he,ha⟩)
 refine ⟨e,cls,dd,σ,H,PySem.W.hideAll s.heap (e::frs (X.env::X.outer)),rfl,J.pins_of (fun p hp=>nomatch hp),fun b o q=>PySem.W.of_hideAll _ q,PySem.W.hideAll_none _ List.mem_cons_self,PySem.W.funFrames_hide stk hin,.inl hx,fun b o q hb hc=>?_,hf,hd,hE⟩
 refine PySem.W.hideAll_get _ q fun z=>?_
 rcases List.mem_cons.mp z with z | z
 ·rcases hc with ⟨u,e'⟩ | ⟨u,e'⟩
  ·rw [z,h0] at e'; cases e'
  ·rw [z,hf] at e'; cases e'
 ·rw [hD.stk] at hb
  exact hb z
theorem up_on2 {h2:Heap}{xa:Addr}{cls:Value}{dd:Option Addr}{B:Heap}{fl:Value}(hD:DefCx X)(hp:X.pn=[])(J:Inv X [] σ H s)(cov:∀ b o,s.heap.get? b=some o→b∉frs X.stack→((∃ u,X.s₀.heap.get? b=some u)∨∃ u,H b=some u)→B.get? b=some o)(hf:H xa=none)(hd:∀ d,dd=some d→∃ fs,H d=some (.xd fs))(hE:E cls dd H)
  (f2:FlyD B (fun b=>H b=none) (X.env::X.outer) xa cls dd fl h2) (up:s.heap.UpToSlots h2):upX X E (.ref xa) { s with heap:=h2 }:=by
 have J2:Inv X [] σ H { s with heap:=h2 }:=land_ok hD J f2.st up fun b o q hb hc=>cov b o q hb (by
  rcases hc with hc | hc | ⟨p,hp',_⟩
  ·exact .inl hc
  ·exact .inr hc
  ·rw [hp] at hp'
   cases hp')
 refine ⟨xa,cls,dd,σ,H,B,rfl,J2,f2.st,f2.ne,by rw [hD.stk]; exact f2.fr,.inr ⟨_,f2.tr⟩,fun b o q hb hc=>?_,hf,hd,hE⟩
 have there:∃ o',s.heap.get? b=some o':=by
  rcases hc with ⟨u,e'⟩ | ⟨u,e'⟩
  ·exact J.base.there b u e' (by rw [hD.ex]; simp)
  ·exact obj_there (J.hok b u e')
 obtain ⟨o',q'⟩:=there
 have c:=cov b o' q' hb hc
 have:=f2.st b o' c
 have q:h2.get? b=some o:=q
 rw [q] at this
 cases this
 exact c
theorem up_note (hD:DefCx X)(hp:X.pn=[]):PassesOwn (model X.prog X.w) X.A X.env (upX X E):=fun e s' u=>by
 obtain ⟨xa,cls,dd,σ,H,B,rfl,J,st,ne,fr,tr,cov,hf,hd,hE⟩:=u
 have hfr:X.A.frames=some (X.env::X.outer):=by rw [← hD.stk]; exact J.ok.frames
 have fr':=fr
 rw [hD.stk] at fr'
 refine note_3 hfr fr' hD.frm st ne tr fun h1 f1 up1=>?_
 unfold cameBackBy
 obtain ⟨sl,vs,T,oT,ts,he,h1',_⟩:=id f1.tr
 refine wpAny_bind (wpAny_field he rfl h1' ?_)
 rw [if_neg (show ¬ (Value.ref T == Value.none)=true by simp)]
 show wpAny _ _ (setFlight (.ref xa) X.env.frame) _ _ _
 rw [hD.frm]
 refine flight_any (s:={ s' with heap:=h1 }) f1 fun h2 fl2 f2 up2=>?_
 exact up_on2 (s:=s') (h2:=h2) hD hp J cov hf hd hE f2 (up1.trans up2)
end
theorem upX_wish {X:Cx}{E:XK}{W:Value→Shared→Prop}{e:Value}{s:Shared}(u:upX (X.wish W) E e s):upX X E e s:=by
 obtain ⟨xa,cls,dd,σ,H,B,e1,J,r⟩:=u
 exact ⟨xa,cls,dd,σ,H,B,e1,J.unwish,r⟩
abbrev cxU (X:Cx)(E:XK):Cx:=X.wish (upX X E)
theorem xeU_up {X:Cx}{E:XK}(hD:DefCx X)(hp:X.pn=[]):XeU (cxU X E) E:=⟨⟨hD.stk,hD.frm,hD.ex⟩,hp,fun _ _ u=>upX_wish u⟩
theorem pass_up {X:Cx}{E:XK}(hD:DefCx X)(hp:X.pn=[]):PassesOwn (model (cxU X E).prog (cxU X E).w) (cxU X E).A (cxU X E).env (cxU X E).xe:=up_note hD hp
theorem pass_onU {X:Cx}{E:XK}(hX:XeU X E):Passes (CXe X.prog X.w) X E:=fun _ _ _ _ _ _ I h=>hX.up _ _ (up_on hX.toDefCx hX.pn I h)
theorem pss_up {X:Cx}{E:XK}{body:List Stmt}{t:TS}(hX:XeOut X E)(h:PSs (cxU X E) body t):PSs X body t:=fun pins s σ H D I hw =>
 wpAny_mono (h pins s σ H D (I.wish _) hw) (fun _ _ q=>q.unwish) fun _ _ u=>up_leave hX u
theorem fun_okU {P:Program}{w:World}{K:PySem.W.Frag}{mg:Str→Option Value}{base:Heap}{x qual:Str}{st:Stmt}{f:Addr}{fd:FuncData}{N ps:List Str}{k:Nat}{sp:Sp}(F:Fun K x qual st f fd)(S:FnScope N ps (defScope st))(len:∀ vs H Q E,sp vs H Q E→vs.length=ps.length)
  (hbody:∀ (cdv:Value) (A:Around) (outer:List Env) (s:Shared) (H:Hp) (vs:List V) (Q:VK) (E:XK),Room k (A.deeper (envOfC qual (defScope st) s.heap.objs.size f cdv))→sp vs H Q E →
   ∃ t,PSs (cxU (cxOf (CXe P w) P w K mg base N qual (defScope st) f cdv A outer s H E) E) (defBody st) t∧t { nx:=fun _ H'=>Q .non H',rt:=Q } (start N vs) H):FnOk P w K mg base (CXe P w) (k+1) f fd ps sp :=
 fun_okX F S len fun cdv A outer s H vs Q E hr h=>by
  obtain ⟨t,ht,q⟩:=hbody cdv A outer s H vs Q E hr h
  exact ⟨t,pss_up xeOut_cx ht,q⟩
end
section
open PySem PySem.Spec PyProof.Rows L2
theorem ps_raiseIU {X:Cx}{E:XK}{x:Str}{C N fI:Addr}{k:Nat}{fd:FuncData}{ps:List Str}{sp:Sp}{np cpos pos:Pos}{e:Expr}{es:List Expr}{t:TA}(hX:XeU X E)(O:ExcCI X.K X.mg x C N fI)(G:FnOk X.prog X.w X.K X.mg X.base CX0 k fI fd ps sp)(hr:Room (k+1) X.A)(hb:Binds X.K fd ps [])(hc:X.calm=true)(hg:Gl X x)(ha:PA X (e::es) t)(hdb:(x == ("__debug__":Str))=false:=by decide)
  (he:starEach (e::es) X.env=(false,eval e X.env)::starEach es X.env:=by rfl) (hpl:(backTo cpos (starEach es X.env)).any (·.1)=false:=by rfl):PS X (.Raise (some (.Call (.Name x np) (e::es) [] cpos)) none pos) (tRaiseI C sp E t):=by
 intro pins s σ H D I h
 obtain ⟨nm,q',bs,bm,hdct,sn,sub,ab,col,dd',k0,k1,k2,k3,k5,lk,tl⟩:=O.k.ex
 obtain ⟨oI,lf,hfc⟩:=O.fn
 have kin:=I.ok.mod.kin
 have T:=PySem.W.tail_of_in kin tl
 have hN:X.base.Ns N (X.base.nsMap N):=.of_isNs (PySem.W.isNs_of_in kin O.ns)
 have hi:X.base.nsMap N "__init__"=some (.ref fI):=ns_some kin hN O.ini
 refine raise_callI (C:=C) (nm:=nm) (q:=q') (N:=N) (bs:=bs) (bm:=bm) (hdct:=hdct) (sn:=sn) (sub:=sub) (ab:=ab) (col:=col) (dd:=dd') (k0:=k0) (k1:=k1) (k2:=k2) (k3:=k3) (k5:=k5) PySem.F.excBase_ValueError (mN:=X.base.nsMap N) (oI:=oI)
  (T.hasType (show bmVE.contains (.type "BaseException")=true by decide +kernel)) (I.ok.hd hc) (by rw [he]; show (false || (backTo cpos (starEach es X.env)).any (·.1))=false; rw [hpl]; rfl) hi hfc (ld_glob I hg O.mg ⟨rfl,?_⟩ hdb)
 have a:=ha cpos pins s σ H _ I h
 rw [he] at a ⊢
 refine Calls.evalArgs_plain (wpAny_mono a (fun us s2 ⟨vs,H2,I2,r,hz,q2⟩=>?_) fun _ _ y=>y)
 refine ⟨rfl,by rw [← r.length]; exact hz,I2.kIn _ _ lk,hN.keeps I2.bk,PySem.W.tail_of_in I2.kIn tl,I2.kIn _ _ lf,fun h' e hm le=>?_⟩
 obtain ⟨t0,ht0,_,_⟩:=hm.there
 have hfree:H2 e=none:=I2.hok.fresh le
 have I3:Inv X pins σ (upd H2 e (exN e C none)) { s2 with heap:=h',toks:=s2.toks }:=I2.laid hm.keeps le (exN_ok ht0 rfl ⟨rfl,rfl,show 4<6 by decide⟩)
 have hq:=q2 e hfree
 have r2:Vals (V.ref e::vs) (Value.ref e::us):=.cons rfl r
 have hl:(Value.ref e::us++[]).length=ps.length:=by
  have e1:=r2.length
  rw [G.len _ _ _ _ hq] at e1
  rw [List.append_nil]
  exact e1.symm
 have bd:=hb { s2 with heap:=h',toks:=s2.toks } (Value.ref e::us) I3.kIn hl
 rw [List.append_nil] at bd
 refine wpAny_call (codeAny_mono (G.run _ X.stack _ _ ⟨Value.ref e::us,[]⟩ (Value.ref e::us) _ _ E0 (hr.make C us []) (I3.env0.make C us []) bd r2 hq) fun r' s' hq'=>?_)
 cases r' with
 | error y=>exact False.elim hq'
 | ok fl =>
  cases fl with
  | ret u =>
   obtain ⟨v,H4,I4,rv,ev,dd,h4,hd,hE⟩:=I3.after hq'
   subst ev
   obtain ⟨⟨vs',sl',t',hr',h0',h1'⟩,_,_⟩:=(show ObjOk X.prog X.w H4 s'.heap e (exN e C dd) from I4.hok e _ h4)
   refine ⟨rv,I4.kIn _ _ lk,⟨dd,vs',sl',hr',h1'.1⟩,?_⟩
   refine hX.up _ _ (up_made hX.toDefCx (I4.del h4) ⟨sl',vs',hr',h1'.1,.no h1'.2.1⟩ ?_ del_same (fun d z=>?_) hE)
   ·cases q:X.s₀.heap.get? e with
    | none=>rfl
    | some u =>
     obtain ⟨ob,ho⟩:=I2.base.there e u q (by rw [hX.ex]; simp)
     rw [hm.new] at ho
     cases ho
   ·obtain ⟨ne,fs,hf⟩:=hd d z
    exact ⟨fs,by rw [del_ne ne]; exact hf⟩
  | next=>exact False.elim hq'
  | brk=>exact False.elim hq'
  | cont=>exact False.elim hq'
theorem pe_fnU {X:Cx}{E:XK}{k j:Nat}{ps:List Str}{sp:Sp}{x:Str}{e:Expr}{es:List Expr}{t:TA}{p pos:Pos}(F:FnX X.prog X.w X.K X.mg X.base x k ps sp)(hX:XeU X E)(hr:Room j X.A)(hk:k≤j)(hg:Gl X x)(ha:PA X (e::es) t)(hdb:(x == ("__debug__":Str))=false:=by decide)
  (he:starEach (e::es) X.env=(false,eval e X.env)::starEach es X.env:=by rfl) (hpl:(backTo pos (starEach es X.env)).any (·.1)=false:=by rfl):PE X (.Call (.Name x p) (e::es) [] pos) (tCall sp [] E t):=by
 obtain ⟨f,fd,G,m,kp,b⟩:=F.ex
 exact pe_call G (hr.mono hk) hg m kp b .nil (pass_onU hX) ha hdb he hpl
end
section
open PySem PySem.Spec PyProof.Rows L2
theorem noteFrame_frame {x:Value}{e1 e2:Env}(h:e1.frame=e2.frame):noteFrame x e1=noteFrame x e2:=by
 unfold noteFrame PySem.frameOf
 rw [h]
theorem chn_flds:∀ {l:List (Addr×Obj)} {v:Value},Chn l v→∀ p∈l,∃ ws,p.2.data=.fields ws
 | [],_,_,_,hp=>nomatch hp
 | _::_,_,⟨_,ws,_,hd,_,r⟩,p,hp=>by
  rcases List.mem_cons.mp hp with e | hp
  ·exact ⟨ws,by rw [e]; exact hd⟩
  ·exact chn_flds r p hp
theorem fly_past {B h h':Heap}{U U':Addr→Prop}{l:List Env}{e C:Addr}{cls fl:Value}{dd:Option Addr}{oC:Obj}(f:FlyD B U l e cls dd fl h)(hC:h.get? C=some oC)(nf:∀ ws,oC.data≠.fields ws)(sb:∀ b,b≠C→h'.get? b=h.get? b)(hl:C∉frs l)(hU:∀ b,b≠C→U b→U' b):FlyD (PySem.W.hideAll B [C]) U' l e cls dd fl h':=by
 obtain ⟨st,ne,fr,sl,vs,T,oT,ts,he,h1,hT,hne,ho,hd,h3,c,ch,h2,hch,hB⟩:=f
 have hid:∀ b,B.get? b=none→(PySem.W.hideAll B [C]).get? b=none:=fun b n=>by
  cases q:(PySem.W.hideAll B [C]).get? b with
  | none=>rfl
  | some o=>rw [PySem.W.of_hideAll _ q] at n; cases n
 have nC:∀ b o,h.get? b=some o→(∃ ws,o.data=.fields ws)→b≠C:=fun b o q ⟨ws,d⟩ z=>by
  rw [z,hC] at q
  cases q
  exact nf ws d
 refine ⟨fun b o q=>?_,hid e ne,?_,sl,vs,T,oT,ts,(sb e (nC e _ he ⟨_,rfl⟩)).trans he,h1,hid T hT,hne,(sb T (nC T _ ho ⟨_,hd⟩)).trans ho,hd,h3,c,ch,h2,hch,fun p hp=>?_⟩
 ·have z:b≠C:=fun z=>by
   rw [z,PySem.W.hideAll_none [C] List.mem_cons_self] at q
   cases q
  exact (sb b z).trans (st b o (PySem.W.of_hideAll _ q))
 ·clear he h1 hT hne ho hd h3 h2 hch hB
  induction l with
  | nil=>trivial
  | cons env rest ih =>
   obtain ⟨k,⟨L,o,hf,hn,hg,hdd⟩,r⟩:=fr
   have hm:C≠L∧C∉frs rest:=by
    unfold frs at hl ⊢
    rw [List.filterMap_cons,hf] at hl
    exact ⟨fun z=>hl (by rw [z]; exact List.mem_cons_self),fun z=>hl (List.mem_cons_of_mem _ z)⟩
   exact ⟨k,⟨L,o,hf,hid L hn,(sb L (Ne.symm hm.1)).trans hg,hdd⟩,ih hm.2 r⟩
 ·obtain ⟨hb,hu⟩:=hB p hp
  have z:=nC _ _ (st _ _ hb) (chn_flds hch p hp)
  exact ⟨PySem.W.hideAll_get [C] hb (by simpa using z),hU _ z hu⟩
section
variable {X:Cx}{E:XK}{σ:L2.St}{H:Hp}{s:Shared}
theorem pass_comp {B h':Heap}{xa C:Addr}{cls fl:Value}{dd:Option Addr}{what:String}{cenv:Env}{m:Str→Option Value}(hX:XeU X E)(J:Inv X [] σ H s)(f:FlyD B (fun b=>H b=none) (X.env::X.outer) xa cls dd fl s.heap)
  (cov:∀ b o,s.heap.get? b=some o→b∉frs X.stack→((∃ u,X.s₀.heap.get? b=some u)∨∃ u,H b=some u)→B.get? b=some o) (hf:H xa=none) (hd:∀ d,dd=some d→∃ fs,H d=some (.xd fs)) (hE:E cls dd H)
  (hC:FpOk X [] H C) (hm:s.heap.Ns C m) (sb:Heap.SameBut C s.heap h'):wpAny (model X.prog X.w) X.A (passOn what (.ref xa) cenv:Sem Value) (fun _ _=>False) X.xe { s with heap:=h' }:=by
 have J3:Inv X [] σ H { s with heap:=h' }:=J.turned (t':=s.toks) (fun b o hb e=>(sb.2 b hb).trans e) hC.1 hC.2.1 hC.2.2.2.1 hC.2.2.2.2.1 hC.2.2.2.2.2
 obtain ⟨oC,es,ep,hoC,hdC,_⟩:=hm
 have nst:C∉frs X.stack:=fun z=>by
  rcases List.mem_cons.mp (J.stkSub C z) with e | e
  ·exact hC.2.1 e
  ·exact hC.2.2.1 e
 have f3:=fly_past f (U':=fun b=>H b=none) hoC (fun ws z=>by rw [hdC] at z; cases z) sb.2 (by rw [← hX.stk]; exact nst) fun _ _ q=>q
 have le:X.s₀.heap.objs.size≤C:=hC.2.2.2.1.resolve_left fun z=>by rw [hX.ex] at z; cases z
 have cov3:∀ b o,h'.get? b=some o→b∉frs X.stack→((∃ u,X.s₀.heap.get? b=some u)∨∃ u,H b=some u)→(PySem.W.hideAll B [C]).get? b=some o:=fun b o q hb hc=>by
  have z:b≠C:=fun z=>by
   rcases hc with ⟨u,e⟩ | ⟨u,e⟩
   ·rw [z] at e
    exact absurd (Nat.lt_of_lt_of_le (Heap.lt_size e) le) (Nat.lt_irrefl _)
   ·rw [z,hC.1] at e
    cases e
  exact PySem.W.hideAll_get [C] (cov b o ((sb.2 b z).symm.trans q) hb hc) (by simpa using z)
 unfold PySem.passOn
 obtain ⟨sl,vs,T,oT,ts,he,h1',_⟩:=id f3.tr
 refine wpAny_bind (wpAny_field he rfl h1' ?_)
 rw [if_neg (show ¬ (Value.ref T == Value.none)=true by simp)]
 refine wpAny_bind (flight_any (s:={ s with heap:=h' }) f3 fun h2 fl2 f2 up2=>?_)
 exact wpAny_throw (hX.up _ _ (up_on2 (s:={ s with heap:=h' }) hX.toDefCx hX.pn J3 cov3 hf hd hE f2 up2))
theorem note_comp {X':Cx}{pins':List (Addr×Obj)}{σ':L2.St}{e:Value}{s':Shared}{use:Option (Value→Sem Unit)}{Q:Value→Shared→Prop}{acc:Value}(hX:XeU X E)(J:Inv X [] σ H s)(I':Inv X' pins' σ' H s)(ep:X'.prog=X.prog)(ew:X'.w=X.w)(est:X'.stack=X.stack)(hfr:X'.env.frame=X.env.frame)
  (hC0:FpOk X [] H X'.env.locals) (h:CXe X.prog X.w X.stack H s E e s'):notedBy (model X.prog X.w) X.A X'.env (fun e s''=>compPost (model X.prog X.w) X.A X.xe use Q acc X'.env.locals (.error e) s'') e s':=by
 obtain ⟨xa,cls,dd,H',rfl,F,hE⟩:=h
 have J1:Inv X [] σ H' s':=J.call' F.os F.un F.hok F.bare fun b z=>nomatch z
 have I1:Inv X' pins' σ' H' s':=I'.call' (ch:=[]) F.os (by rw [est]; exact F.un) (by rw [ep,ew]; exact F.hok) F.bare fun b z=>nomatch z
 obtain ⟨B,f,cov⟩:=F.fly
 have cov':∀ b o,s'.heap.get? b=some o→b∉frs X.stack→((∃ u,X.s₀.heap.get? b=some u)∨∃ u,H' b=some u)→B.get? b=some o:=fun b o q hb hc=>cov b o q hb (by
  rcases hc with ⟨u,e'⟩ | hc
  ·exact .inl (J.base.there b u e' (by rw [hX.ex]; simp))
  ·exact .inr hc)
 obtain ⟨m,hm,_⟩:=I1.loc
 have hA:X.A.frames=some (X.env::X.outer):=by rw [← hX.stk]; exact J.ok.frames
 have fr':=f.fr
 rw [hX.stk] at fr'
 unfold notedBy
 rw [noteFrame_frame hfr]
 refine note_3 hA fr' hX.frm f.st f.ne (.inr ⟨_,f.tr⟩) fun h1 f1 up1=>?_
 have J2:Inv X [] σ H' { s' with heap:=h1 }:=land_ok hX.toDefCx J1 f1.st up1 fun b o q hb hc=>cov' b o q hb (by
  rcases hc with hc | hc | ⟨p,hp',_⟩
  ·exact .inl hc
  ·exact .inr hc
  ·rw [hX.pn] at hp'
   cases hp')
 have cov2:∀ b o,h1.get? b=some o→b∉frs X.stack→((∃ u,X.s₀.heap.get? b=some u)∨∃ u,H' b=some u)→B.get? b=some o:=fun b o q hb hc=>by
  have there:∃ o',s'.heap.get? b=some o':=by
   rcases hc with ⟨u,e'⟩ | ⟨u,e'⟩
   ·exact J1.base.there b u e' (by rw [hX.ex]; simp)
   ·exact obj_there (J1.hok b u e')
  obtain ⟨o',q'⟩:=there
  have c:=cov' b o' q' hb hc
  have:=f1.st b o' c
  rw [q] at this
  cases this
  exact c
 have key:∃ m,h1.Ns X'.env.locals m∧∀ h',Heap.SameBut X'.env.locals h1 h'→∀ cenv:Env,cenv.locals=X'.env.locals→wpAny (model X.prog X.w) X.A (passOn "comprehension.variables-let-go" (.ref xa) cenv:Sem Value) (fun _ _=>False) X.xe { s' with heap:=h' } :=
  ⟨m,up1.ns hm,fun h' sb cenv _=>pass_comp (s:={ s' with heap:=h1 }) hX J2 f1 cov2 F.free F.dct hE ⟨I1.free,hC0.2⟩ (up1.ns hm) sb⟩
 cases use <;> exact key
end
section
variable {prog:Program}{w:World}{A:Around}{R:Result→Shared→Prop}{s:Shared}
theorem compLoop_anyU {elt target iter:Expr}{ifs:List Expr}{scope:Scope}{pos:Pos}{it acc:Value}{env:Env}{EE:Value→Shared→Prop}(I:Nat→Shared→Prop)(hE:∀ x s,EE x s→notedBy (model prog w) A env (fun e s'=>R (.error e) s') x s)
  (turn:∀ n s,I n s→wpAny (model prog w) A (pyNext it) (fun r s₁=>match r with
   | none=>R (.ok .next) s₁
   | some v=>wpAny (model prog w) A (letOwnedTupleGo target it v) (fun _ s₀=>wpAny (model prog w) A (assign target env v) (fun _ s₂ =>
     wpAny (model prog w) A (forIn ifs true fun c r=>if r=true then do let ok ← isTrue c env (eval c env); pure (ForInStep.yield ok) else pure (ForInStep.yield r)) (fun ok s₃ =>
      if ok=true then wpAny (model prog w) A (eval elt env) (fun x s₄=>wpAny (model prog w) A (call (.builtin "list.append") [acc,x]) (fun _ s₅=>∃ m,m<n∧I m s₅) EE s₄) EE s₃
      else ∃ m,m<n∧I m s₃) EE s₂) EE s₀) EE s₁) EE s)
  (n:Nat) (h:I n s):codeAny (model prog w) A (.compLoop (.ListComp elt [⟨target,iter,ifs,0⟩] scope pos) 0 it acc env) R s:=by
 refine codeAny_loop rfl I (fun n s hI=>?_) n h
 show wpAny _ A ((compTurn (.ListComp elt [⟨target,iter,ifs,0⟩] scope pos) 0 it acc env).onRaise (fun x=>do noteFrame x env; theTreesLotGoes x)) _ _ s
 refine wpAny_noted ?_
 rw [compTurn_list]
 refine wpAny_bind (wpAny_standAt (wpAny_bind (wpAny_mono (turn n s hI) (fun r s₁ h₁=>?_) hE)))
 cases r with
 | none=>exact wpAny_pure h₁
 | some v =>
  refine wpAny_bind (wpAny_mono h₁ (fun _ s₀ h₀=>wpAny_bind (wpAny_mono h₀ (fun _ s₂ h₂=>wpAny_bind (wpAny_mono h₂ (fun ok s₃ h₃=>?_) hE)) hE)) hE)
  cases ok with
  | false=>exact wpAny_pure ⟨rfl,h₃⟩
  | true=>exact wpAny_bind (wpAny_bind (wpAny_mono h₃ (fun x s₄ h₄=>wpAny_bind (wpAny_mono h₄ (fun _ s₅ h₅=>wpAny_pure (wpAny_pure ⟨rfl,h₅⟩)) hE)) hE))
end
def upC (X:Cx)(E:XK):Value→Shared→Prop:=fun e s'=>∃ pins σ H s,Inv X pins σ H s∧CXe X.prog X.w X.stack H s E e s'
abbrev cxCU (X:Cx)(E:XK)(sc:Scope)(T:List Str)(cap:List Nat)(fp:List Addr)(s:Shared)(H:Hp):Cx:=(cxC X sc T cap fp s H).wish (upC (cxC X sc T cap fp s H) E)
section
variable {X:Cx}{E:XK}{sc:Scope}{T:List Str}{cap:List Nat}{tg elt iter:Expr}{ifs:List Expr}{pos:Pos}{g:TG}{tc:TT}{te:TE}{wi:TI}
theorem passC {fp:List Addr}{s:Shared}{H:Hp}:Passes (CXe X.prog X.w) (cxCU X E sc T cap fp s H) E:=fun _ _ _ _ _ _ I h=>⟨_,_,_,_,I.unwish,h⟩
theorem comp_coreU {pins:List (Addr×Obj)}{s₂:Shared}{σ:L2.St}{H2:Hp}{it:Addr}{fp:List Addr}{tn:Nat→Heap→Prop}{J:It}{Q:VK}{E':Value→Shared→Prop}{use:Option (Value→Sem Unit)}{QQ:Value→Shared→Prop}
  (hX0:XeU X E) (hc:X.calm=true) (O:COk X sc cap) (hg:∀ fp s H,PG (cxCU X E sc T cap fp s H) tg g) (hifs:∀ fp s H,PIfs (cxCU X E sc T cap fp s H) ifs tc) (helt:∀ fp s H,PE (cxCU X E sc T cap fp s H) elt te)
  (I2:Inv X pins σ H2 s₂) (Tn:Turn X.prog X.w X.K tg J fp it tn) (st2:tn 0 s₂.heap) (f2:∀ b∈fp,FpOk X pins H2 b) (h:CmpR T.length cap g tc te J σ H2 Q)
  (hRR:∀ D C s' H',Inv X pins σ H' s'→FpOk X pins H' C→(∃ m,s'.heap.Ns C m)→Q (.ref D) H'→compPost (model X.prog X.w) X.A X.xe use QQ (.ref D) C (.ok .next) s') :
  wpAny (model X.prog X.w) X.A (newList []) (fun acc s₃=>wpAny (model X.prog X.w) X.A (newFunctionEnv sc X.env.globals (clOf X.env sc) [] X.env.qual none .none (some X.env)) (fun cenv s₄ =>
   codeAny (model X.prog X.w) X.A (.compStart (.ListComp elt [⟨tg,iter,ifs,0⟩] sc pos) 0 (.ref it) acc { cenv with scope:=relabel sc X.env }) (compPost (model X.prog X.w) X.A X.xe use QQ acc cenv.locals) s₄) E' s₃) E' s₂:=by
 have I3:=I2.lnew (its:=[]) (ys:=[]) (t':=s₂.toks) .nil (Nat.zero_le _)
 have hD:H2 s₂.heap.objs.size=none:=I2.fresh
 obtain ⟨W,⟨m0,w0⟩,turn⟩:=h _ hD
 refine wpAny_newObj_type (wpAny_newFunctionEnv O.nocell (by intro y hy; simp at hy) (fun h₁ hns₁ hsb₁=>?_) O.kind)
 dsimp only at hns₁ hsb₁ ⊢
 generalize hs3:({ s₂ with heap:=s₂.heap.push { cls:=.type "list",data:=.seq ([]:List Value).toArray },toks:=s₂.toks }:Shared)=s3 at I3
 have eh:s₂.heap.push { cls:=.type "list",dict:=none,data:=.seq ([]:List Value).toArray }=s3.heap:=by rw [← hs3]
 have e3:s3.os=s₂.os:=by rw [← hs3]
 have keep2:∀ b o,s₂.heap.get? b=some o→s3.heap.get? b=some o:=fun b o e=>by rw [← eh]; exact Heap.get?_push_of_some _ e
 have keep:∀ b o,s3.heap.get? b=some o→h₁.get? b=some o:=fun b o e=>by
  rw [eh] at hsb₁
  rw [hsb₁.2 b (Nat.ne_of_lt (Heap.lt_size e))]
  exact Heap.get?_push_of_some _ e
 have f3:∀ b∈fp,FpOk X pins (upd H2 s₂.heap.objs.size (.lst [])) b:=fun b hb=>by
  refine ⟨?_,(f2 b hb).2⟩
  obtain ⟨o,ho,_⟩:=Tn.obj 0 _ st2 b hb
  rw [upd_ne (Nat.ne_of_lt (Heap.lt_size ho))]
  exact (f2 b hb).1
 have fo3:∀ b∈fp,∃ o,s3.heap.get? b=some o:=fun b hb=>by
  obtain ⟨o,ho,_⟩:=Tn.obj 0 _ st2 b hb
  exact ⟨o,keep2 b o ho⟩
 have hns:h₁.Ns s3.heap.objs.size (fun x=>([]:List (Str×Value)).reverse.lookup x):=by rw [← eh]; exact hns₁
 have I4:=fun t'=>inv_comp (T:=T) (fp:=fp) (t':=t') O I3 f3 fo3 hns keep
 have st4:tn 0 h₁:=Tn.keep 0 _ _ st2 fun b _ o e=>keep b o (keep2 b o e)
 have sz:s₂.heap.objs.size≤s3.heap.objs.size:=by rw [← eh,Heap.size_push]; exact Nat.le_succ _
 generalize hX:cxC X sc T cap fp s3 (upd H2 s₂.heap.objs.size (.lst []))=X' at I4
 have ex:X'.ex=fp:=by rw [← hX]; rfl
 have ep:X'.prog=X.prog:=by rw [← hX]; rfl
 have ew:X'.w=X.w:=by rw [← hX]; rfl
 have eK:X'.K=X.K:=by rw [← hX]; rfl
 have ec:X'.calm=true:=by rw [← hX]; exact hc
 have eA:X'.A=X.A:=by rw [← hX]; rfl
 have eL:X'.env.locals=s3.heap.objs.size:=by rw [← hX]; rfl
 have eE:X'.env=compEnvC sc (clOf X.env sc) s3.heap.objs.size X.env:=by rw [← hX]; rfl
 have stat:∀ {H':Hp},(∀ b∈fp,H' b=none)→∀ b∈fp,FpOk X' [] H' b:=fun hn b hb=>by
  have ok:=(I4 0).ok
  have q:=ok.exf b (by rw [ex]; exact hb)
  refine ⟨hn b hb,q.1,ok.exfs b (by rw [ex]; exact hb),.inl (by rw [ex]; exact hb),q.2,fun p hp=>?_⟩
  subst hX
  exact absurd hp (by simp [cxC])
 have at_:∀ {pins':List (Addr×Obj)} {σ5:L2.St} {H5:Hp} {s6:Shared},Inv X' pins' σ5 H5 s6→Inv X pins σ H5 s6∧FpOk X pins H5 s3.heap.objs.size:=fun {pins' σ5 H5 s6} I6=>by
  have un:=(Un.laid (fs:=frs X.stack) (ex:=fp) (o:=.lst []) keep2 (Nat.le_refl _) hD).trans (by
   have b:=I6.base
   subst hX
   exact b:Un (frs X.stack) fp (upd H2 s₂.heap.objs.size (.lst [])) H5 s3.heap s6.heap)
  have os6:s6.os=s₂.os:=by
   have q:=I6.os
   subst hX
   exact q.trans e3
  have hok:HOk X.prog X.w H5 s6.heap:=by
   have q:=I6.hok
   rw [ep,ew] at q
   exact q
  exact ⟨I2.call' os6 un hok I6.bare fun b hb=>⟨(f2 b hb).2.2.2.1,(f2 b hb).2.1,(f2 b hb).2.2.2.2.1,(f2 b hb).2.2.2.2.2⟩,I2.fpOk sz (by rw [← eL]; exact I6.free)⟩
 have loop:∀ s4:Shared,(∃ t',s4={ s3 with heap:=h₁,toks:=t' })→codeAny (model X.prog X.w) X.A (.compLoop (.ListComp elt [⟨tg,iter,ifs,0⟩] sc pos) 0 (.ref it) (.ref s₂.heap.objs.size) (compEnvC sc (clOf X.env sc) s3.heap.objs.size X.env))
   (compPost (model X.prog X.w) X.A X.xe use QQ (.ref s₂.heap.objs.size) s3.heap.objs.size) s4:=by
  rintro s4 ⟨t',rfl⟩
  refine compLoop_anyU (EE:=upC X' E) (fun n s'=>∃ i σ' H',Inv X' [] σ' H' s'∧tn i s'.heap∧(∀ b∈fp,H' b=none)∧W i n σ' H') (fun e s' ⟨pins',σ',H',s5,I',h'⟩=>?_) ?_ m0 ⟨0,_,_,I4 t',st4,fun b hb=>(f3 b hb).1,w0⟩
  ·obtain ⟨J1,fC⟩:=at_ I'
   have est:X'.stack=X.stack:=by rw [← hX]; rfl
   rw [ep,ew,est] at h'
   have q:=note_comp (X':=X') (use:=use) (Q:=QQ) (acc:=.ref s₂.heap.objs.size) hX0 (J1.pins_of (pins':=[]) fun p hp=>J1.pin p (by simpa using List.mem_append_left pins (by simpa using hp))) I' ep ew est (by rw [eE]; rfl) (by rw [eL]; exact ⟨fC.1,fC.2.1,fC.2.2.1,fC.2.2.2.1,fC.2.2.2.2.1,fun p hp=>fC.2.2.2.2.2 p (List.mem_append_left _ (by simpa using hp))⟩) h'
   rw [eL,eE] at q
   exact q
  rintro n s5 ⟨i,σ5,H5,I5,st5,fr5,w5⟩
  rcases turn i n σ5 H5 w5 with ⟨stop,qn⟩ | ⟨go,N,hN,step⟩
  ·have d:=Tn.done X' ep ew eK ec i [] s5 σ5 H5 (upC X' E) I5 (stat fr5) st5 stop
   rw [eA] at d
   refine wpAny_mono d (fun r s6 ⟨hr,I6⟩=>?_) fun _ _ z=>z
   subst hr
   obtain ⟨J1,fC⟩:=at_ I6
   refine hRR _ _ s6 H5 J1 fC ?_ qn
   obtain ⟨m6,hm6,_⟩:=I6.loc
   rw [eL] at hm6
   exact ⟨m6,hm6⟩
  ·have d:=Tn.item X' ep ew eK ec i [] s5 σ5 H5 (upC X' E) I5 (stat fr5) st5 go
   subst hX
   refine wpAny_mono d (fun r s6 ⟨u,hr,h6⟩=>?_) fun _ _ z=>z
   subst hr
   refine wpAny_mono h6 (fun _ s7 ⟨x,H7,I7,r7,y7,st7,fr7⟩=>?_) fun _ _ z=>z
   have I7':=(I7.pinned (stat fr7) (Tn.obj _ _ st7)).wish (upC (cxC X sc T cap fp s3 (upd H2 s₂.heap.objs.size (.lst []))) E)
   refine wpAny_mono (hg _ _ _ _ s7 σ5 H7 x u _ I7' r7 (step x H7 y7)) (fun _ s8 ⟨σ8,H8,I8,q8⟩=>?_) fun _ _ z=>z
   refine wpAny_mono (hifs _ _ _ _ s8 σ8 H8 _ I8 q8) (fun b s9 ⟨H9,I9,q9⟩=>?_) fun _ _ z=>z
   have again:∀ {s':Shared} {σ':L2.St} {H':Hp},Inv (cxCU X E sc T cap fp s3 (upd H2 s₂.heap.objs.size (.lst []))) ([]++pinsAt fp s7.heap) σ' H' s'→N σ' H' →
     ∃ m,m<n∧∃ i σ' H',Inv (cxC X sc T cap fp s3 (upd H2 s₂.heap.objs.size (.lst []))) [] σ' H' s'∧tn i s'.heap∧(∀ b∈fp,H' b=none)∧W i m σ' H':=fun {s' σ' H'} Ia na=>by
    obtain ⟨m',hm,w'⟩:=hN σ' H' na
    refine ⟨m',hm,i+1,σ',H',Ia.unwish.unpinned,Tn.keep _ _ _ st7 fun b hb o e=>(Ia.pin (b,o) (List.mem_append_right _ (List.mem_append_right _ (mem_pinsAt hb e)))).1,fun b hb=>?_,w'⟩
    obtain ⟨o,e,_⟩:=Tn.obj _ _ st7 b hb
    exact (Ia.pin (b,o) (List.mem_append_right _ (List.mem_append_right _ (mem_pinsAt hb e)))).2.1
   cases b with
   | false =>
    rw [if_neg Bool.false_ne_true] at q9 ⊢
    exact again I9 q9
   | true =>
    rw [if_pos rfl] at q9 ⊢
    refine wpAny_mono (helt _ _ _ _ s9 σ8 H9 _ I9 q9) (fun y s10 ⟨yv,H10,I10,ry,ys,hl,hz,n10⟩=>?_) fun _ _ z=>z
    refine wpAny_mono (mt_append (X:=cxCU X E sc T cap fp s3 (upd H2 s₂.heap.objs.size (.lst []))) _ s10 σ8 H10 (.ref s₂.heap.objs.size) [yv] (.ref s₂.heap.objs.size) [y] (fun _ H'=>N σ8 H') I10 rfl (.cons ry .nil) ⟨_,ys,yv,rfl,rfl,hl,hz,n10⟩)
     (fun _ s11 ⟨_,H11,I11,_,n11⟩=>again I11 n11) fun _ _ z=>z
 subst hs3
 exact codeAny_compStart_list (loop _ ⟨_,rfl⟩) (Tn.self X.A 0 _ _ _ st4 (loop _ ⟨_,rfl⟩))
theorem ps_setCompU {i:Nat}{x:Str}{px spos:Pos}(hX:XeU X E)(hc:X.calm=true)(O:COk X sc cap)(hN:X.N.Nodup)(hix:X.N[i]?=some x)(hx:Loc X.env.scope x)(hi:PI X tg iter wi)(hg:∀ fp s H,PG (cxCU X E sc T cap fp s H) tg g)(hifs:∀ fp s H,PIfs (cxCU X E sc T cap fp s H) ifs tc)
  (helt:∀ fp s H,PE (cxCU X E sc T cap fp s H) elt te) (hsw:swapsWith (.ListComp elt [⟨tg,iter,ifs,0⟩] sc pos) (some (.Name x px)) spos.line X.env=pure true:=by rfl)
  (hf:X.fn x=true∨X.env.scope.names.lookup x=some .local:=by first | exact .inl rfl | exact .inr rfl | assumption)
  (hs:∀ x,foldedSetIterable iter X.env x=pure x:=by intro _; rfl):PS X (.Assign [.Name x px] (.ListComp elt [⟨tg,iter,ifs,0⟩] sc pos) spos) (tSetComp i (tComp wi T.length cap g tc te)):=by
 intro pins s σ H D I h
 rw [exec_Assign_Name_used _ _ _ _ hsw]
 refine wpAny_bind (wpAny_standAt (wpAny_bind ?_))
 show wpAny _ X.A (do let _ ← comprehension (.ListComp elt [⟨tg,iter,ifs,0⟩] sc pos) sc X.env _ (newList []) false (eval iter X.env) (some (assign (.Name x px) X.env))) _ _ s
 refine wpAny_bind (wpAny_mono (wpAny_comprehension_free (use:=some (assign (.Name x px) X.env)) (Q:=fun _ s'=>SP X pins D .next s') rfl hs (closure_eq (O.cells I.ok)) O.kind O.loc
  (wpAny_mono (hi pins s σ H _ I h) (fun v s1 h1=>wpAny_mono h1 (fun itv s2 h2=>?_) fun _ _ e=>e) fun _ _ e=>e)) (fun _ s' hq=>wpAny_pure (wpAny_pure hq)) fun _ _ e=>e)
 obtain ⟨it,fp,tn,J,H2,e,I2,Tn,st2,f2,R⟩:=h2
 subst e
 refine comp_coreU (use:=some (assign (.Name x px) X.env)) (QQ:=fun _ s'=>SP X pins D .next s') hX hc O hg hifs helt I2 Tn st2 f2 R fun Dl C s' H' I' f' hm q=>?_
 obtain ⟨m,hm⟩:=hm
 show wpAny _ X.A (assign (.Name x px) X.env (.ref Dl)) _ _ s'
 refine wpAny_assign_Name (store_ok2 (v:=.ref Dl) I' hN hix hx rfl (fun s'' I'' hsb=>?_) hf)
 obtain ⟨a,hsb,ha⟩:=hsb
 have hCa:C≠a:=by
  rcases ha with z | z
  ·rw [z]; exact f'.2.1
  ·exact fun e=>f'.2.2.2.2.1 x a z e.symm
 refine ⟨m,hm.sameBut hsb hCa,fun h' hs'=>⟨_,H',?_,q⟩⟩
 exact I''.turned (t':=s''.toks) (fun b o hb e=>(hs'.2 b hb).trans e) f'.1 f'.2.1 f'.2.2.2.1 f'.2.2.2.2.1 f'.2.2.2.2.2
end
end
section
open PySem PySem.Spec PyProof.Rows L2
theorem fly_mono {B h:Heap}{U U':Addr→Prop}{l:List Env}{e:Addr}{cls fl:Value}{dd:Option Addr}(f:FlyD B U l e cls dd fl h)(hU:∀ p o,h.get? p=some o→(∃ ws,o.data=.fields ws)→U p→U' p):FlyD B U' l e cls dd fl h:=by
 obtain ⟨st,ne,fr,sl,vs,T,oT,ts,he,h1,hT,hne,ho,hd,h3,c,ch,h2,hch,hB⟩:=f
 exact ⟨st,ne,fr,sl,vs,T,oT,ts,he,h1,hT,hne,ho,hd,h3,c,ch,h2,hch,fun p hp=>⟨(hB p hp).1,hU _ _ (st _ _ (hB p hp).1) (chn_flds hch p hp) (hB p hp).2⟩⟩
def RunX (P:Program)(w:World)(K:PySem.W.Frag)(mg:Str→Option Value)(base:Heap)(k:Nat)(f:Addr)(sp:Sp)(H:Hp):Prop:=∀ (A:Around) (outer:List Env) (s:Shared) (us:List Value) (vs:List V) (Q:VK) (E:XK),Room k A→Env0 P w K mg base A outer s H→Vals vs us→sp vs H Q E →
 codeAny (model P w) A (.call (.ref f) ⟨us,[]⟩) (CR (CXe P w) outer P w H s Q E) s
theorem RunX.up {P:Program}{w:World}{K:PySem.W.Frag}{mg:Str→Option Value}{base:Heap}{k j:Nat}{h:Addr}{sp:Sp}{H:Hp}(G:RunX P w K mg base k h sp H)(l:k≤j):RunX P w K mg base j h sp H:=fun A outer s us vs Q E hr=>G A outer s us vs Q E (hr.mono l)
theorem RunX.imp {P:Program}{w:World}{K:PySem.W.Frag}{mg:Str→Option Value}{base:Heap}{k:Nat}{h:Addr}{sp sp':Sp}{H:Hp}(G:RunX P w K mg base k h sp H)(i:∀ vs Q E,sp' vs H Q E→sp vs H Q E):RunX P w K mg base k h sp' H:=fun A outer s us vs Q E hr e0 r q=>G A outer s us vs Q E hr e0 r (i _ _ _ q)
def tCallVX (P:Program)(w:World)(K:PySem.W.Frag)(mg:Str→Option Value)(base:Heap)(k i:Nat)(E:XK)(t:TA):TE:=fun σ H Q=>∃ f,σ[i]?=some (some (.ref f))∧CalAt K H f∧t σ H fun vs H1=>(∀ o,H f=some o→H1 f=some o)∧∃ sp,RunX P w K mg base k f sp H1∧sp vs H1 Q E
section
variable {X:Cx}{k j i:Nat}{x:Str}{e:Expr}{es:List Expr}{t:TA}{p pos:Pos}{E:XK}
theorem run_valX {pins:List (Addr×Obj)}{σ:L2.St}{H:Hp}{s:Shared}{Q:VK}{us:List Value}{vs:List V}{f:Addr}{sp:Sp}(G:RunX X.prog X.w X.K X.mg X.base k f sp H)(hp:Passes (CXe X.prog X.w) X E)(hr:Room k X.A)(I:Inv X pins σ H s)(r:Vals vs us)(h:sp vs H Q E):wpAny (model X.prog X.w) X.A (call (.ref f) us) (EP X pins σ Q) X.xe s:=by
 refine wpAny_call (codeAny_mono (G X.A X.stack s us vs Q E hr I.env0 r h) fun r s' hq=>?_)
 cases r with
 | error e=>exact hp _ _ _ _ _ _ I hq
 | ok fl =>
  cases fl with
  | ret u=>exact I.after hq
  | next=>exact False.elim hq
  | brk=>exact False.elim hq
  | cont=>exact False.elim hq
theorem pe_callVX {P:Program}{w:World}{K:PySem.W.Frag}{mg:Str→Option Value}{base:Heap}(hP:X.prog=P)(hw:X.w=w)(hK:X.K=K)(hm:X.mg=mg)(hb:X.base=base)(hp:Passes (CXe X.prog X.w) X E)(hr:Room j X.A)(hk:k≤j)(hx:PE X (.Name x p) (tVar i))(ha:PA X (e::es) t)(he:starEach (e::es) X.env=(false,eval e X.env)::starEach es X.env:=by rfl)(hpl:(backTo pos (starEach es X.env)).any (·.1)=false:=by rfl) :
  PE X (.Call (.Name x p) (e::es) [] pos) (tCallVX P w K mg base k i E t):=by
 subst hP hw hK hm hb
 intro pins s σ H Q I h
 obtain ⟨f,hf,ca,h⟩:=h
 refine wpAny_Call_Name_kw (thn (hx pins s σ H (fun v H1=>v=.ref f∧H1=H) I ⟨_,hf,rfl,rfl⟩) fun u s1 ⟨v,H1,I1,rv,ev,eH⟩=>?_)
 subst ev eH
 obtain rfl:u=Value.ref f:=rv
 rcases ca with ca | ⟨o,fd,ho,hd⟩
 ·refine PySem.W.callWith_K (h₀:=X.base) I.ok.mod.kin ca (thn (ha pos pins s1 σ H1 _ I1 h) fun us s2 ⟨vs,H2,I2,r,_,sp,G,q⟩=>⟨I2.kIn,?_⟩) he hpl
  exact run_valX G hp (hr.mono hk) I2 r q
 ·have at_:∀ {H':Hp} {s':Shared} {o:Obj} {fd:FuncData},Inv X pins σ H' s'→H' f=some (lamO f o)→o.data=.func fd→PySem.W.FnAt f s'.heap:=fun {H' s' o fd} J hh dd=>by
   obtain ⟨q,_,_⟩:=(show ObjOk X.prog X.w H' s'.heap f (lamO f o) from J.hok f _ hh)
   obtain ⟨oc,od,dt,sl⟩:=o
   cases dd
   exact ⟨oc,od,fd,sl,q⟩
  refine PySem.W.callWith_F (at_ I1 ho hd) (thn (ha pos pins s1 σ H1 _ I1 h) fun us s2 ⟨vs,H2,I2,r,st,sp,G,q⟩=>⟨at_ I2 (st _ ho) hd,run_valX G hp (hr.mono hk) I2 r q⟩) he hpl
end
theorem FnX.val {P:Program}{w:World}{K:PySem.W.Frag}{mg:Str→Option Value}{base:Heap}{x:Str}{k:Nat}{ps:List Str}{sp:Sp}(F:FnX P w K mg base x k ps sp):∃ f,mg x=some (.ref f)∧∀ H,CalAt K H f∧RunX P w K mg base k f sp H:=by
 obtain ⟨f,fd,G,m,kp,b⟩:=F.ex
 refine ⟨f,m,fun H=>⟨.inl kp,fun A outer s us vs Q E hr e0 r h=>?_⟩⟩
 have hl:(us++[]).length=ps.length:=by rw [List.append_nil,← r.length]; exact G.len _ _ _ _ h
 have bd:=b s us (e0.mod.kin.keeps fun b o e=>(e0.bs b o e).1) hl
 rw [List.append_nil] at bd
 exact G.run A outer s H ⟨us,[]⟩ us vs Q E hr e0 bd r h
theorem xeF {P:Program}{w:World}{K:PySem.W.Frag}{mg:Str→Option Value}{base:Heap}{N:List Str}{qual:Str}{scope:Scope}{cl:List (Str×Addr)}{f c:Addr}{cd:Value}{A:Around}{outer:List Env}{s:Shared}{H:Hp}{E:XK}{oc:Obj}{u0:Option Value}(hce:H c=some (celO c oc))(ho:s.heap.get? c=some oc)(hoc:oc.data=.cell u0)(nf:c∉frs outer) :
  XeOut (cxF (CXe P w) P w K mg base N qual scope cl f cd A outer s H (del H c) E) (fun cls dd H2=>H2 c=none→E cls dd (upd H2 c (celO c oc))):=by
 have conv:∀ e s'',CXe P w outer (del H c) s (fun cls dd H2=>H2 c=none→E cls dd (upd H2 c (celO c oc))) e s''→CXe P w outer H s E e s'':=fun e s'' h=>by
  obtain ⟨xa,cls,dd,H2,rfl,F,hE⟩:=h
  have ne0:∀ b:Addr,b∉([]:List Addr):=fun b z=>absurd z (by simp)
  have hc':s''.heap.get? c=some oc:=F.un.keep c oc ho del_same nf (ne0 c)
  have n2:H2 c=none:=F.un.free c oc ho del_same (ne0 c)
  obtain ⟨un,hok⟩:=back_ok hce ho nf F.un F.hok
  obtain ⟨B,fl,cov⟩:=F.fly
  have nc:∀ p o,s''.heap.get? p=some o→(∃ ws,o.data=.fields ws)→p≠c:=fun p o q ⟨ws,d⟩ z=>by
   rw [z,hc'] at q
   cases q
   rw [hoc] at d
   cases d
  refine ⟨xa,cls,dd,_,rfl,⟨F.os,F.bare,un,hok,⟨B,fly_mono fl fun p o q d u=>(upd_ne (nc p o q d)).trans u,fun b o q hb hc=>cov b o q hb ?_⟩,?_,fun d e=>?_⟩,hE n2⟩
  ·rcases hc with hc | ⟨u,e⟩
   ·exact .inl hc
   ·by_cases z:b=c
    ·exact .inl ⟨oc,by rw [z]; exact ho⟩
    ·exact .inr ⟨u,(upd_ne z).symm.trans e⟩
  ·obtain ⟨sl,vs,T,oT,ts,he,_⟩:=fl.tr
   exact (upd_ne (nc xa _ he ⟨_,rfl⟩)).trans F.free
  ·obtain ⟨fs,hd⟩:=F.dct d e
   exact ⟨fs,(upd_ne (ne_of_none hd n2)).trans hd⟩
 exact ⟨⟨rfl,rfl,rfl⟩,fun e s' h=>wpAny_mono h (fun _ s'' q=>conv e s'' q) fun e' s'' q=>conv e' s'' q⟩
def tCallCX (cells:List (Str×Addr))(i:Nat)(sp:Sp)(y:Str)(E:XK)(t:TA):TE:=fun σ H Q=>t σ H fun vs H1=>∀ c o,cells.lookup y=some c→H1 c=none→(∀ v,σ[i]?=some (some v)→∃ u,RelV v u∧o.data=.cell (some u))→sp vs (upd H1 c (celO c o)) (fun v H2=>H2 c=some (celO c o)∧Q v (del H2 c)) (fun cls dd H2=>H2 c=some (celO c o)∧E cls dd (del H2 c))
theorem pe_fnCX {X:Cx}{E:XK}{x y:Str}{k j i:Nat}{ps:List Str}{sp:Sp}{e:Expr}{es:List Expr}{t:TA}{p pos:Pos}{c:Addr}(F:FnX X.prog X.w X.K X.mg X.base x k ps sp)(hpass:Passes (CXe X.prog X.w) X E)(hr:Room j X.A)(hk:k≤j)(hg:Gl X x)(hc:X.env.cells.lookup y=some c)(hf:X.fn y=true)(hi:X.N[i]?=some y)(hky:X.env.kindOf y=some .cell)(hv:Vis X.env.scope y)(ha:PA X (e::es) t)(hdb:(x == ("__debug__":Str))=false:=by decide)
  (he:starEach (e::es) X.env=(false,eval e X.env)::starEach es X.env:=by rfl) (hpl:(backTo pos (starEach es X.env)).any (·.1)=false:=by rfl):PE X (.Call (.Name x p) (e::es) [] pos) (tCallCX X.env.cells i sp y E t):=by
 intro pins s σ H Q I h
 obtain ⟨f,fd,G,m,kp,bd⟩:=F.ex
 refine wpAny_Call_Name_kw (ld_glob I hg m ?_ hdb)
 refine PySem.W.callWith_K (h₀:=X.base) I.ok.mod.kin kp (thn (ha pos pins s σ H _ I h) fun us s1 ⟨vs,H1,I1,r,q⟩=>⟨I1.kIn,?_⟩) he hpl
 obtain ⟨v0,o,ho,hd⟩:=I1.cell y c hc
 have nc:H1 c=none:=I1.freeC y c hc
 have q:=q c o hc nc fun v ev=>by
  obtain ⟨mm,_,lo⟩:=I1.loc
  obtain ⟨u,ru,lk⟩:=lo i y v hi ev hv
  rcases lk with ⟨kl,_⟩ | ⟨_,c2,ec,o2,ho2,hd2⟩
  ·rw [hky] at kl
   cases kl
  ·rw [hc] at ec
   cases ec
   rw [ho] at ho2
   cases ho2
   exact ⟨u,ru,hd2⟩
 have ge:X.s₀.heap.objs.size≤c:=I1.ok.cab y c hf hc
 have nb:X.base.get? c=none:=Heap.get?_none_of_le (Nat.le_trans I1.ok.bsz ge)
 have trk:∀ b u,H1 b=some u→b≠c:=fun b u e=>ne_of_none e nc
 have same:∀ b u,H1 b=some u→upd H1 c (celO c o) b=some u:=fun b u e=>(upd_ne (trk b u e)).trans e
 have hokP:HOk X.prog X.w (upd H1 c (celO c o)) s1.heap:=fun b u e=>by
  by_cases z:b=c
  ·rw [z,upd_same] at e
   cases e
   rw [z]
   exact celO_ok ho
  ·rw [upd_ne z] at e
   exact (I1.hok b u e).stay (fun _ _ _ q=>q) (fun d q=>same d _ q) fun d xs q=>same d _ q
 have e1:=I1.env0
 have nfr:c∉frs X.stack:=fun z=>by
  rcases List.mem_cons.mp (I1.stkSub c z) with e | hb
  ·exact I1.cne y c hc e
  ·obtain ⟨_,o',ho',_⟩:=I1.ok.funs.mem hb
   exact absurd (Nat.lt_of_lt_of_le (Heap.lt_size ho') ge) (Nat.lt_irrefl _)
 have e0:Env0 X.prog X.w X.K X.mg X.base X.A X.stack s1 (upd H1 c (celO c o)):=⟨e1.frames,e1.mod,fun b u eb=>⟨(e1.bs b u eb).1,(upd_ne fun z=>by rw [z,nb] at eb; cases eb).trans (e1.bs b u eb).2⟩,e1.bsz,e1.funs,fun b hb=>(upd_ne fun z=>nfr (by rw [← z]; exact hb)).trans (e1.frf b hb),hokP,e1.bare⟩
 have hl:(us++[]).length=ps.length:=by rw [List.append_nil,← r.length]; exact G.len _ _ _ _ q
 have b2:=bd s1 us I1.kIn hl
 rw [List.append_nil] at b2
 have cut:∀ {H2:Hp} {s':Shared},Un (frs X.stack) [] (upd H1 c (celO c o)) H2 s1.heap s'.heap→HOk X.prog X.w H2 s'.heap→H2 c=some (celO c o)→Un (frs X.stack) [] H1 (del H2 c) s1.heap s'.heap:=fun {H2 s'} un hok2 h2c=>by
  obtain ⟨hc2,_,_⟩:=(show ObjOk X.prog X.w H2 s'.heap c (celO c o) from hok2 c _ h2c)
  have dl:∀ b u,H2 b=some u→(∀ ψ,u≠.ext ψ)→del H2 c b=some u:=fun b u e n=>(del_ne fun z=>by
   rw [z,h2c] at e
   exact n _ (Option.some.inj e).symm).trans e
  have no:∀ b,b≠c→H1 b=none→upd H1 c (celO c o) b=none:=fun b hb n=>(upd_ne hb).trans n
  refine ⟨fun b u eb n hb hx=>?_,fun b u eb n hb hx=>?_,fun b u eb n hx=>?_,un.there,fun b xs e=>dl b _ (un.tups b xs (same b _ e)) (fun _ z=>by cases z),fun b ob u e=>dl b _ (un.frzs b ob u (same b _ e)) (fun _ z=>by cases z),fun b qs e=>?_⟩
  ·by_cases z:b=c
   ·rw [z,ho] at eb
    cases eb
    rw [z]
    exact hc2
   ·exact un.keep b u eb (no b z n) hb hx
  ·by_cases z:b=c
   ·exact absurd (by rw [← z]; exact hb) nfr
   ·exact un.slot b u eb (no b z n) hb hx
  ·by_cases z:b=c
   ·rw [z]
    exact del_same
   ·rw [del_ne z]
    exact un.free b u eb (no b z n) hx
  ·obtain ⟨more,e2⟩:=un.tbls b qs (same b _ e)
   exact ⟨more,dl b _ e2 fun _ z=>by cases z⟩
 refine wpAny_call (codeAny_mono (G.run X.A X.stack s1 _ ⟨us,[]⟩ us vs _ _ (hr.mono hk) e0 b2 r q) fun rr s' hq=>?_)
 cases rr with
 | error e =>
  obtain ⟨xa,cls,dd,H2,rfl,F,h2c,hE⟩:=hq
  obtain ⟨B,fl,cov⟩:=F.fly
  have none_:∀ b,H2 b=none→del H2 c b=none:=fun b n=>by
   by_cases z:b=c
   ·rw [z]
    exact del_same
   ·exact (del_ne z).trans n
  have some_:∀ b u,del H2 c b=some u→H2 b=some u:=fun b u e=>by
   by_cases z:b=c
   ·rw [z,del_same] at e
    cases e
   ·exact (del_ne z).symm.trans e
  refine hpass _ _ _ _ _ _ I1 ⟨xa,cls,dd,del H2 c,rfl,⟨F.os,F.bare,cut F.un F.hok h2c,hok_del F.hok h2c,⟨B,fly_mono fl fun p _ _ _ u=>none_ p u,fun b o q hb hc=>cov b o q hb (hc.elim .inl fun ⟨u,e⟩=>.inr ⟨u,some_ b u e⟩)⟩,none_ _ F.free,fun d e=>?_⟩,hE⟩
  obtain ⟨fs,hd'⟩:=F.dct d e
  refine ⟨fs,(del_ne fun z=>?_).trans hd'⟩
  rw [z,h2c] at hd'
  cases hd'
 | ok fl =>
  cases fl with
  | next=>exact False.elim hq
  | brk=>exact False.elim hq
  | cont=>exact False.elim hq
  | ret u =>
   obtain ⟨v,H2,os,bare,un,hok2,rv,h2c,hQ⟩:=hq
   exact I1.after ⟨v,del H2 c,os,bare,cut un hok2 h2c,hok_del hok2 h2c,rv,hQ⟩
theorem fun_okCX {P:Program}{w:World}{K:PySem.W.Frag}{mg:Str→Option Value}{base:Heap}{x qual:Str}{st:Stmt}{f c:Addr}{fd:FuncData}{N ps:List Str}{k:Nat}{sp:Sp}(F:Fun K x qual st f fd)(hc:fd.code=.ref c)(S:FnScope N ps (defScope st))(len:∀ vs H Q E,sp vs H Q E→vs.length=ps.length)
  (hbody:∀ (A:Around) (outer:List Env) (s:Shared) (H:Hp) (vs:List V) (Q:VK) (E:XK),Room k (A.deeper (envOfC qual (defScope st) s.heap.objs.size f (.ref c)))→sp vs H Q E →
   ∃ t,PSs (cxOf (CXe P w) P w K mg base N qual (defScope st) f (.ref c) A outer s H E) (defBody st) t∧t { nx:=fun _ H'=>Q .non H',rt:=Q } (start N vs) H):FnOk P w K mg base (CXe P w) (k+1) f fd ps sp:=by
 obtain ⟨oc,od,kV,doc,pm,an,cdv,ct,osl,rfl,lk,hcd⟩:=F.ex
 obtain rfl:cdv=.ref c:=hc
 exact fn_of lk hcd S len hbody
theorem CmpR.mapO {cap:List Nat}{te:TE}{J:It}{σ:L2.St}{H:Hp}{Q:VK}{xs:List V}{Ok:Hp→Prop}(f:V→V)(ok':V→Prop)(it:ItOf J xs Ok)(hz:xs.length≤1000)(ok:∀ H',Same H H'→Ok H')
  (hs:∀ x H' (Q':VK),x∈xs→Same H H'→(ok' x→∀ H2,Same H' H2→Q' (f x) H2)→te (some x::cap.map fun i=>σ.getD i none) H' Q')
  (hd:∀ D H',H D=none→(∀ x∈xs,ok' x)→Same H H'→H' D=some (.lst (xs.map f))→Q (.ref D) H'):CmpR 1 cap (gName 0) tYes te J σ H Q:=by
 intro D hD
 have keep:∀ {H':Hp} {o:HO},Same H H'→Same H (upd H' D o):=fun sm b o e=>by
  rw [upd_ne (ne_of_none e hD)]
  exact sm b o e
 refine ⟨fun i m σ' H'=>m=xs.length - i∧i≤xs.length∧(∀ x∈xs.take i,ok' x)∧∃ t,σ'=t::(cap.map fun i=>σ.getD i none)∧Same H H'∧H' D=some (.lst ((xs.take i).map f)),⟨_,rfl,Nat.zero_le _,fun _ z=>by simp at z,none,rfl,keep (Same.refl _),upd_same⟩,fun i m σ' H' hw=>?_⟩
 obtain ⟨rfl,hi,al,t,rfl,sm,hl⟩:=hw
 by_cases lt:i<xs.length
 ·refine .inr ⟨it.go i _ (ok _ sm) lt,fun σ2 H2=>(∀ x∈xs.take (i+1),ok' x)∧∃ t,σ2=t::(cap.map fun i=>σ.getD i none)∧Same H H2∧H2 D=some (.lst ((xs.take (i+1)).map f)),fun σ2 H2 n2=>⟨_,?_,rfl,lt,n2⟩,fun x H2 y=>?_⟩
  ·omega
  ·obtain ⟨rfl,hx⟩:=it.yld i _ x H2 (ok _ sm) lt y
   show te (some x::(cap.map fun i=>σ.getD i none)) _ _
   refine hs x H2 _ (List.mem_of_getElem? hx) sm fun ox H3 s3=>⟨_,s3 _ _ hl,?_,?_,_,rfl,keep (sm.trans s3),?_⟩
   ·rw [List.length_map,List.length_take]
    exact small1000 (by omega)
   ·intro y hy
    rw [List.take_add_one,hx] at hy
    rcases List.mem_append.mp hy with hy | hy
    ·exact al y hy
    ·rw [List.mem_singleton.mp hy]
     exact ox
   ·rw [upd_same,List.take_add_one,hx,List.map_append]
    rfl
 ·obtain rfl:i=xs.length:=by omega
  refine .inl ⟨it.stop _ _ (ok _ sm) (Nat.le_refl _),?_⟩
  rw [List.take_length] at hl al
  exact hd D H' hD al sm hl
end
--CUT--
def figs:Str:="0123456789"
theorem lit_nil:("":Str)=⟨#[]⟩:=by decide +kernel
theorem lit_0:("0":Str)=⟨#[48]⟩:=by decide +kernel
theorem lit_dot:(".":Str)=⟨#[46]⟩:=by decide +kernel
theorem figs_list:figs.cps.toList=[48,49,50,51,52,53,54,55,56,57]:=by decide +kernel
def isFig (c:Nat):Bool:=decide (48≤c) && decide (c≤57)
theorem in_figs (c:Nat):(!(Builtin.Str.occurrences figs ⟨#[c]⟩ 0 figs.length 1).isEmpty)=isFig c:=by
 rw [StrLaws.found_one,figs_list,Bool.eq_iff_iff]
 unfold isFig
 rw [Bool.and_eq_true,decide_eq_true_eq,decide_eq_true_eq,decide_eq_true_eq]
 simp only [List.mem_cons,List.not_mem_nil,or_false]
 omega
def inFig:V→V
 | .str y=>.bl (!(Builtin.Str.occurrences figs y 0 figs.length 1).isEmpty)
 | _=>.non
theorem map_inFig (z:Str):(signsV z).map inFig=(z.cps.toList.map isFig).map V.bl:=by
 unfold signsV
 rw [List.map_map,List.map_map]
 refine List.map_congr_left fun c _=>?_
 show V.bl _=V.bl _
 rw [in_figs]
def pOk (cs:List Nat):Bool:=!cs.isEmpty && decide (cs.length≤3) && cs.all isFig && !(decide (cs.headD 0=48) && !decide (cs=[48])) && decide (NumText.digitsVal cs<256)
theorem all_isFig {cs:List Nat}(h:cs.all isFig=true):NumText.AllDigits cs:=fun c hc=>by
 have q:=List.all_eq_true.mp h c hc
 unfold isFig at q
 rw [Bool.and_eq_true,decide_eq_true_eq,decide_eq_true_eq] at q
 exact q
theorem str_len (z:Str):z.length=z.cps.toList.length:=(Array.length_toList).symm
theorem str_eq_iff {z:Str}{a:Array Nat}:z=⟨a⟩↔z.cps.toList=a.toList:=⟨fun e=>by rw [e],fun e=>str_ext e⟩
def nOk (g:Nat)(cs:List Nat):Bool:=!cs.isEmpty && decide (cs.length≤(Str.ofString (toString (g:Int))).length) && cs.all isFig && !(decide (cs.headD 0=48) && !decide (cs=[48])) && decide (NumText.digitsVal cs≤g)
theorem nOk_part (cs:List Nat):nOk 255 cs=pOk cs:=by
 have e3:(Str.ofString (toString ((255:Nat):Int))).length=3:=by decide +kernel
 unfold nOk pOk
 rw [e3]
 congr 1
 exact decide_eq_decide.mpr ⟨fun h=>by omega,fun h=>by omega⟩
theorem nOk_parts {g:Nat}{cs:List Nat}(h:nOk g cs=true):cs≠[]∧cs.length≤(Str.ofString (toString (g:Int))).length∧NumText.AllDigits cs∧NumText.digitsVal cs≤g:=by
 unfold nOk at h
 rw [Bool.and_eq_true,Bool.and_eq_true,Bool.and_eq_true,Bool.and_eq_true,decide_eq_true_eq,decide_eq_true_eq] at h
 obtain ⟨⟨⟨⟨h1,h2⟩,h3⟩,_⟩,h5⟩:=h
 refine ⟨fun e=>?_,h2,all_isFig h3,h5⟩
 rw [e] at h1
 cases h1
def spIsNum:Sp:=fun vs H Q _=>∃ (z:Str) (g:Nat),vs=[.str z,.int g]∧g<10 ^ 10∧z.length≤100000∧∀ H',Same H H'→Q (.bl (nOk g z.cps.toList)) H'
theorem ok_is_number (F:Fun K "is_number" "is_number" s_is_number f fd)(c_FIGURES:∃ u,mg "FIGURES"=some u∧RelV (.str figs) u)
  (b_len:mg "len"=none) (b_all:mg "all"=none) (b_int:mg "int"=none) (b_str:mg "str"=none):FnOk P w K mg base CX0 1 f fd ["word","greatest"] spIsNum:=by
 refine F.ok sc_is_number (fun vs H Q E h=>?_) (fun cdv A outer s H vs Q E hr h=>?_)
 ·obtain ⟨z,g,rfl,_⟩:=h
  rfl
 obtain ⟨z,g,rfl,hg,hz,q⟩:=h
 obtain ⟨_,m_FIGURES,r_FIGURES⟩:=c_FIGURES
 refine ⟨_,(@pss_cons _ _ _ _ _ (@ps_if _ _ _ _ _ _ _ _ (@PW.pt _ _ _ (@pw_or _ _ _ _ _ _ _ (@pt_cmpR _ _ _ _ _ _ _ _ op_eq (pv 0) pe_str (nomark _)) (@pw_or1 _ _ _ _ (@pt_cmpR _ _ _ _ _ _ _ _ op_gt (@pe_callB _ _ _ _ _ _ _ _ _ call_lenS rfl b_len bo_len (@pa_cons _ _ _ _ _ (pv 0) pa_nil (by rfl)) (by decide) (by decide) (by rfl) (by rfl)) (@pe_callB _ _ _ _ _ _ _ _ _ call_lenS rfl b_len bo_len (@pa_cons _ _ _ _ _ (@pe_callTy _ _ _ _ _ _ _ _ _ call_strI rfl b_str bo_str (@pa_cons _ _ _ _ _ (pv 1) pa_nil (by rfl)) (by decide) (by decide) (by rfl) (by rfl)) pa_nil (by rfl)) (by decide) (by decide) (by rfl) (by rfl)) (nomark _))))) (@pss_one _ _ _ (@ps_ret _ _ _ _ pe_bl)) pss_nil) (@pss_cons _ _ _ _ _ (@ps_if _ _ _ _ _ _ _ _ (@pt_not _ _ _ _ (@pt_val _ _ _ (@pe_callB _ _ _ _ _ _ _ _ _ (call_all rfl) rfl b_all bo_all (@pa_cons _ _ _ _ _ (@pe_comp _ _ (["sign"]) ([]) _ _ _ _ _ _ _ _ _ rfl (COk.of (out:=defScope s_is_number) (N:=["word","greatest"]) rfl rfl (by decide +kernel)) (@pi_str _ _ _ _ (pv 0)) (fun _ _ _=>(@pg_name _ _ (0) _ (show List.Nodup (["sign"]:List Str) by decide +kernel) rfl (Or.inl rfl) (by first | exact .inl rfl | exact .inr rfl | assumption))) (fun _ _ _=>pifs_nil) (fun _ _ _=>(@pe_cmpR _ _ _ _ _ _ _ _ op_inS (pv 0) (@pe_glob _ _ _ _ _ rfl m_FIGURES r_FIGURES (by decide)) (by with_unfolding_all rfl))) (by intro _; rfl)) pa_nil (by rfl)) (by decide) (by decide) (by rfl) (by rfl)) (by intro _; rfl))) (@pss_one _ _ _ (@ps_ret _ _ _ _ pe_bl)) pss_nil) (@pss_cons _ _ _ _ _ (@ps_if _ _ _ _ _ _ _ _ (@PW.pt _ _ _ (@pw_and _ _ _ _ _ _ _ (@pt_cmpR _ _ _ _ _ _ _ _ op_eq (@pe_ix _ _ _ _ _ _ _ ix_str (pv 0) pe_int (fun _ _=>rfl)) pe_str (nomark _)) (@pw_and1 _ _ _ _ (@pt_cmpR _ _ _ _ _ _ _ _ op_ne (pv 0) pe_str (nomark _))))) (@pss_one _ _ _ (@ps_ret _ _ _ _ pe_bl)) pss_nil) (@pss_one _ _ _ (@ps_ret _ _ _ _ (@pe_cmpR _ _ _ _ _ _ _ _ op_le (@pe_callTy _ _ _ _ _ _ _ _ _ call_intT rfl b_int bo_int (@pa_cons _ _ _ _ _ (pv 0) pa_nil (by rfl)) (by decide) (by decide) (by rfl) (by rfl)) (pv 1) (nomark _))))))),?_⟩
 rw [st_is_number]
 have hl:=str_len z
 generalize hcs:z.cps.toList=cs at *
 have fin:∀ b H',Same H H'→nOk g cs=b→Q (.bl b) H':=fun b H' sm e=>by
  have q1:=q H' sm
  rw [e] at q1
  exact q1
 have hgl:(Str.ofString (toString (g:Int))).length≤10:=PySem.W.KT.len_num (by omega) (by omega)
 walk_at "sv"
 rw [lit_nil]
 refine BrO.dec (fun c=>?_) (fun c=>?_)
 ·walk_at "sv"
  refine fin false H (Same.refl _) ?_
  rw [str_eq_iff,hcs] at c
  rw [show cs=[] from c]
  rfl
 have ne:cs≠[]:=fun e=>c (by rw [str_eq_iff,hcs,e])
 have ne':cs.isEmpty=false:=by
  cases cs with
  | nil=>exact absurd rfl ne
  | cons _ _=>rfl
 walk_at "sv"
 refine lenS_go (by omega) ?_
 walk_at "sv"
 refine strI_go (log_small (by omega) (by omega)) ?_
 walk_at "sv"
 refine lenS_go (Nat.le_trans hgl (by decide)) ?_
 walk_at "sv"
 refine BrS.dec (fun c2=>?_) (fun c2=>?_)
 ·walk_at "sv"
  refine fin false H (Same.refl _) ?_
  unfold nOk
  rw [decide_eq_false (show ¬ cs.length≤(Str.ofString (toString (g:Int))).length by omega),Bool.and_false]
  rfl
 have h3:cs.length≤(Str.ofString (toString (g:Int))).length:=by omega
 walk_at "sv"
 refine IsR.go ?_
 refine CmpR.mapS inFig itc (by rw [signsV_length]; show z.length≤1000; omega) (fun _ _=>trivial) (fun x H' Q' hx sm q'=>?_) (fun D H1 hD s1 hl1=>?_)
 ·unfold signsV at hx
  obtain ⟨c',_,rfl⟩:=List.mem_map.mp hx
  walk_at "sv"
  exact q' _ (Same.refl _)
 rw [map_inFig,hcs] at hl1
 walk_at "sv"
 refine all_go (SqL.of hl1) ?_
 have ea:(cs.map isFig).all id=cs.all isFig:=by rw [List.all_map]; rfl
 rw [ea]
 cases hall:cs.all isFig with
 | false =>
  walk_at "sv"
  refine fin false _ s1 ?_
  unfold nOk
  rw [hall,Bool.and_false]
  rfl
 | true =>
  walk_at "sv"
  have dg:=all_isFig hall
  obtain ⟨c0,cs',e0⟩:∃ c0 cs',cs=c0::cs':=by
   cases cs with
   | nil=>exact absurd rfl ne
   | cons a b=>exact ⟨a,b,rfl⟩
  refine ⟨z,0,c0,rfl,rfl,Nat.le_trans hz (by decide),?_,?_⟩
  ·rw [hcs,e0]
   exact atI_nat (j:=0) rfl
  rw [lit_0]
  walk_at "sv"
  have hn:PySem.intText? z=some ((NumText.digitsVal cs:Nat):Int):=by
   rw [← hcs] at dg ne ⊢
   exact intText_digits dg ne (by omega)
  refine BrA.dec (fun c4=>?_) (fun c4=>?_)
  ·have e48:c0=48:=by
    have:=congrArg (fun x=>x.cps.toList) c4
    exact (List.cons.inj this).1
   walk_at "sv"
   refine BrS.ndec (fun c5=>?_) (fun c5=>?_)
   ·walk_at "sv"
    refine fin false _ s1 ?_
    have n48:cs≠[48]:=fun e=>c5 (by rw [str_eq_iff,hcs,e])
    unfold nOk
    rw [e0,e48] at n48 ⊢
    rw [decide_eq_false n48]
    simp
   ·walk_at "sv"
    refine intT_go (by omega) hn ?_
    walk_at "sv"
    have e:cs=[48]:=by
     rw [str_eq_iff,hcs] at c5
     exact c5
    refine fin _ _ s1 ?_
    unfold nOk
    rw [e] at h3 ⊢
    rw [decide_eq_true h3]
    simp [isFig,NumText.digitsVal]
  ·have n48:c0≠48:=fun e=>c4 (by rw [e])
   walk_at "sv"
   refine intT_go (by omega) hn ?_
   walk_at "sv"
   refine fin _ _ s1 ?_
   unfold nOk
   rw [ne',hall,e0,List.headD_cons,decide_eq_false n48,← e0,decide_eq_true h3]
   simp
theorem ok_whole (F:Fun K "_law_whole" "_law_whole" s__law_whole f fd)(b_isinstance:mg "isinstance"=none)(b_int:mg "int"=none)(b_bool:mg "bool"=none):FnOk P w K mg base CX0 1 f fd ["_law_found"] spWhole:=by
 refine F.ok sc__law_whole (fun vs H Q E h=>?_) (fun cdv A outer s H vs Q E hr h=>?_)
 ·obtain ⟨i,rfl,_⟩:=h
  rfl
 obtain ⟨i,rfl,q⟩:=h
 refine ⟨_,(@pss_one _ _ _ (@ps_ret _ _ _ _ (@pe_and _ _ _ _ _ _ _ (@pe_callB _ _ _ _ _ _ _ _ _ call_isi rfl b_isinstance bo_isinstance (@pa_cons _ _ _ _ _ (pv 0) (@pa_cons _ _ _ _ _ (@pe_bltn _ _ (.ty "int") (.type "int") _ rfl b_int bo_int rfl (by decide) (by decide)) pa_nil (by rfl)) (by rfl)) (by decide) (by decide) (by rfl) (by rfl)) (@pe_one _ _ _ _ _ (@pe_not _ _ _ _ (@pe_callB _ _ _ _ _ _ _ _ _ call_isi rfl b_isinstance bo_isinstance (@pa_cons _ _ _ _ _ (pv 0) (@pa_cons _ _ _ _ _ (@pe_bltn _ _ (.ty "bool") (.type "bool") _ rfl b_bool bo_bool rfl (by decide) (by decide)) pa_nil (by rfl)) (by rfl)) (by decide) (by decide) (by rfl) (by rfl))))))),?_⟩
 rw [st__law_whole]
 walk_at "sv"
 refine isi_int ?_
 walk_at "sv"
 refine isi_int_bool ?_
 walk_at "sv"
 exact q
theorem ok_cell (F:Fun K "_law_cell_at" "_law_cell_at" s__law_cell_at f fd)(b_len:mg "len"=none):FnOk P w K mg base CX0 1 f fd ["_law_script","_law_k"] (spCell K):=by
 refine F.ok sc__law_cell_at (fun vs H Q E h=>?_) (fun cdv A outer s H vs Q E hr h=>?_)
 ·obtain ⟨a,ns,k,rfl,_⟩:=h
  rfl
 obtain ⟨a,ns,k,rfl,hS,h0,q⟩:=h
 obtain ⟨n,rfl⟩:=Int.eq_ofNat_of_zero_le h0
 refine ⟨_,(@pss_cons _ _ _ _ _ (@ps_if _ _ _ _ _ _ _ _ (@pt_cmpR _ _ _ _ _ _ _ _ op_lt (pv 1) (@pe_callB _ _ _ _ _ _ _ _ _ call_lenR rfl b_len bo_len (@pa_cons _ _ _ _ _ (pv 0) pa_nil (by rfl)) (by decide) (by decide) (by rfl) (by rfl)) (nomark _)) (@pss_one _ _ _ (@ps_ret _ _ _ _ (@pe_ix _ _ _ _ _ _ _ ix_list (pv 0) (pv 1) (fun _ _=>rfl)))) pss_nil) (@pss_one _ _ _ (@ps_ret _ _ _ _ pe_int))),?_⟩
 rw [st__law_cell_at]
 walk_at "sv"
 refine LenR.lst hS ?_
 walk_at "sv"
 rw [List.length_map]
 refine BrS.dec (fun c=>?_) (fun c=>?_)
 ·walk_at "sv"
  refine ixL_go hS (v:=.int (cell ns n)) ?_ q
  have hn:n<ns.length:=by omega
  rw [List.getElem?_map,List.getElem?_eq_getElem hn]
  unfold cell
  rw [Int.toNat_natCast,List.getD_eq_getElem?_getD,List.getElem?_eq_getElem hn]
  rfl
 ·walk_at "sv"
  have hn:ns.length≤n:=by omega
  have e:cell ns n=0:=by
   unfold cell
   rw [Int.toNat_natCast,List.getD_eq_getElem?_getD,List.getElem?_eq_none hn]
   rfl
  rw [e] at q
  exact q
def addrOf (ws:List Str):Int:=ws.foldl (fun a x=>a * 256+((NumText.digitsVal x.cps.toList:Nat):Int)) 0
def partV:V→V
 | .str y=>.bl (pOk y.cps.toList)
 | _=>.non
theorem pOk_parts {cs:List Nat}(h:pOk cs=true):cs≠[]∧cs.length≤3∧NumText.AllDigits cs∧NumText.digitsVal cs<256:=by
 unfold pOk at h
 rw [Bool.and_eq_true,Bool.and_eq_true,Bool.and_eq_true,Bool.and_eq_true,decide_eq_true_eq,decide_eq_true_eq] at h
 obtain ⟨⟨⟨⟨h1,h2⟩,h3⟩,_⟩,h5⟩:=h
 refine ⟨fun e=>?_,h2,all_isFig h3,h5⟩
 rw [e] at h1
 cases h1
def gd (ws:List Str):Bool:=decide (ws.length=4) && (ws.map fun x=>pOk x.cps.toList).all id
def spRead (C:Addr):Sp:=fun vs H Q E=>∃ z:Str,vs=[.str z]∧z.length≤1000∧(∀ c∈z.cps.toList,c<16 ^ 8)∧(gd (Txt.split z ⟨#[46]⟩)=true→∀ H',Same H H'→Q (.int (addrOf (Txt.split z ⟨#[46]⟩))) H')∧(gd (Txt.split z ⟨#[46]⟩)=false→∀ H',Same H H'→E (.ref C) none H')
theorem ok_read {C:Addr}(F:Fun K "read_address" "read_address" s_read_address f fd)(g_is_number:Fn P w K mg base "is_number" 1 ["word","greatest"] spIsNum)(O_NoAddress:ExcC K mg "NoAddress" C)(c_COUNT:∃ u,mg "PART_COUNT"=some u∧RelV (.int 4) u)(c_SIZE:∃ u,mg "PART_SIZE"=some u∧RelV (.int 256) u)
  (b_len:mg "len"=none) (b_all:mg "all"=none) (b_int:mg "int"=none):FnOk P w K mg base (CXe P w) 2 f fd ["text"] (spRead C):=by
 refine fun_okX F sc_read_address (fun vs H Q E h=>?_) (fun cdv A outer s H vs Q E hr h=>?_)
 ·obtain ⟨z,rfl,_⟩:=h
  rfl
 obtain ⟨z,rfl,hz,hcp,qg,qb⟩:=h
 obtain ⟨_,m_PART_COUNT,r_PART_COUNT⟩:=c_COUNT
 obtain ⟨_,m_PART_SIZE,r_PART_SIZE⟩:=c_SIZE
 refine ⟨_,(@pss_cons _ _ _ _ _ (@ps_set _ _ (1) _ _ _ _ sc_read_address.nd rfl (Or.inl rfl) (@pe_bm _ _ _ _ _ _ _ _ _ _ _ _ PySem.F.plainAttrs_str PySem.F.slot_str_split PySem.F.type_str_split mt_split (pv 0) (@pa_cons _ _ _ _ _ pe_str pa_nil (by rfl)) (by rfl) (by rfl) (by rfl) (by rfl) (by rfl)) (by rfl) (by first | exact .inl rfl | exact .inr rfl | assumption)) (@pss_cons _ _ _ _ _ (@ps_if _ _ _ _ _ _ _ _ (@PW.pt _ _ _ (@pw_or _ _ _ _ _ _ _ (@pt_cmpR _ _ _ _ _ _ _ _ op_ne (@pe_callB _ _ _ _ _ _ _ _ _ call_lenR rfl b_len bo_len (@pa_cons _ _ _ _ _ (pv 1) pa_nil (by rfl)) (by decide) (by decide) (by rfl) (by rfl)) (@pe_glob _ _ _ _ _ rfl m_PART_COUNT r_PART_COUNT (by decide)) (nomark _)) (@pw_or1 _ _ _ _ (@pt_not _ _ _ _ (@pt_val _ _ _ (@pe_callB _ _ _ _ _ _ _ _ _ (call_all rfl) rfl b_all bo_all (@pa_cons _ _ _ _ _ (@pe_comp _ _ (["word"]) ([]) _ _ _ _ _ _ _ _ _ rfl (COk.of (out:=defScope s_read_address) (N:=["text","words","address","word"]) rfl rfl (by decide +kernel)) (@pi_list _ _ _ _ (pv 1)) (fun _ _ _=>(@pg_name _ _ (0) _ (show List.Nodup (["word"]:List Str) by decide +kernel) rfl (Or.inl rfl) (by first | exact .inl rfl | exact .inr rfl | assumption))) (fun _ _ _=>pifs_nil) (fun _ _ _=>(@pe_fn _ _ _ _ _ _ _ _ _ _ _ g_is_number hr (by decide) rfl (@pa_cons _ _ _ _ _ (pv 0) (@pa_cons _ _ _ _ _ (@pe_op _ _ _ _ _ _ _ _ op_sub (@pe_glob _ _ _ _ _ rfl m_PART_SIZE r_PART_SIZE (by decide)) pe_int) pa_nil (by rfl)) (by rfl)) (by decide) (by rfl) (by rfl))) (by intro _; rfl)) pa_nil (by rfl)) (by decide) (by decide) (by rfl) (by rfl)) (by intro _; rfl)))))) (@pss_one _ _ _ (@ps_raise _ _ _ _ _ _ _ _ _ _ xeOut_cx O_NoAddress rfl rfl (@pa_cons _ _ _ _ _ (@pe_fstr _ _ _ _ _ _ (@pj_cons _ _ _ _ _ pe_str (@pj_cons _ _ _ _ _ (@pe_rep _ _ _ _ (pv 0)) pj_nil (by rfl)) (by rfl))) pa_nil (by rfl)) (by decide) (by rfl) (by rfl))) pss_nil) (@pss_cons _ _ _ _ _ (@ps_set _ _ (2) _ _ _ _ sc_read_address.nd rfl (Or.inl rfl) pe_int (by rfl) (by first | exact .inl rfl | exact .inr rfl | assumption)) (@pss_cons _ _ _ _ _ (@PS.nox _ _ _ (@ps_for _ _ _ _ _ _ _ _ PassesOwn.never rfl (@pi_list _ _ _ _ (pv 1)) (@pg_name _ _ (3) _ sc_read_address.nd rfl (Or.inl rfl) (by first | exact .inl rfl | exact .inr rfl | assumption)) (@pss_one _ _ _ (@ps_set _ _ (2) _ _ _ _ sc_read_address.nd rfl (Or.inl rfl) (@pe_op _ _ _ _ _ _ _ _ op_add (@pe_op _ _ _ _ _ _ _ _ op_mul (pv 2) (@pe_glob _ _ _ _ _ rfl m_PART_SIZE r_PART_SIZE (by decide))) (@pe_callTy _ _ _ _ _ _ _ _ _ call_intT rfl b_int bo_int (@pa_cons _ _ _ _ _ (pv 3) pa_nil (by rfl)) (by decide) (by decide) (by rfl) (by rfl))) (by rfl) (by first | exact .inl rfl | exact .inr rfl | assumption))) (by intro _; rfl))) (@pss_one _ _ _ (@ps_ret _ _ _ _ (pv 2))))))),?_⟩
 rw [st_read_address]
 walk_at "sv"
 rw [lit_dot]
 refine split_ rfl (by omega) fun p hp=>?_
 have hlw:∀ x∈Txt.split z ⟨#[46]⟩,x.length≤1000:=fun x hx=>Nat.le_trans (PyProof.Rows.part_short hx) hz
 generalize Txt.split z ⟨#[46]⟩=ws at *
 have s1:=same_new hp (.lst (ws.map V.str))
 have hrep:(reprText z).length≤10002:=by
  have:=StrLaws.reprText_len z hcp
  omega
 have hlit:(Str.empty++("not written as an address: ":Str)).length=27:=by decide +kernel
 have rais:∀ H1,Same H H1→gd ws=false→JnR [tRep (tVar 0)] Str.empty [some (V.str z),some (V.ref p),none,none] (fun x H1=>RaR C E [x] H1) (V.str "not written as an address: ") H1:=fun H1 sm g=>by
  refine JnR.go (by rw [hlit]; decide) ?_
  walk_at "sv"
  refine RepR.go (by omega) ?_
  refine JnR.go (by rw [Str.length_append,hlit]; omega) ?_
  walk_at "sv"
  exact RaR.go (by simp) (qb g _ sm)
 walk_at "sv"
 refine LenR.lst (SqL.of upd_same) ?_
 rw [List.length_map]
 walk_at "sv"
 refine BrO.ndec (fun c=>?_) (fun c=>?_)
 ·have g:gd ws=false:=by
   unfold gd
   rw [decide_eq_false (show ¬ ws.length=4 by omega)]
   rfl
  walk_at "sv"
  exact rais _ s1 g
 have h4:ws.length=4:=by omega
 walk_at "sv"
 refine IlR.go (SqL.of upd_same) ?_
 refine CmpR.mapS partV itl (by rw [List.length_map]; omega) (fun H' sm=>sm.seq (SqL.of upd_same)) (fun x H' Q' hx sm q'=>?_) (fun D H1 hD s2 hl1=>?_)
 ·obtain ⟨y,hy,rfl⟩:=List.mem_map.mp hx
  walk_at "sv"
  exact ⟨y,255,rfl,by decide,Nat.le_trans (hlw y hy) (by decide),fun H2 sm2=>by rw [nOk_part]; exact q' H2 sm2⟩
 have eb:(ws.map V.str).map partV=(ws.map fun x=>pOk x.cps.toList).map V.bl:=by
  rw [List.map_map,List.map_map]
  rfl
 rw [eb] at hl1
 walk_at "sv"
 refine all_go (SqL.of hl1) ?_
 cases ea:(ws.map fun x=>pOk x.cps.toList).all id with
 | false =>
  walk_at "sv"
  have g:gd ws=false:=by unfold gd; rw [ea,Bool.and_false]
  exact rais _ (s1.trans s2) g
 | true =>
  have g:gd ws=true:=by unfold gd; rw [ea,decide_eq_true h4]; rfl
  have hok:∀ x∈ws,pOk x.cps.toList=true:=fun x hx=>List.all_eq_true.mp ea _ (List.mem_map.mpr ⟨x,hx,rfl⟩)
  walk_at "sv"
  have hw1:H1 p=some (.lst (ws.map V.str)):=s2 _ _ upd_same
  refine IlR.go (SqL.of hw1) ?_
  refine ForR.items itl (fun i σ H'=>H'=H1∧∃ y,σ=[some (.str z),some (.ref p),some (.int (addrOf (ws.take i))),y]) ⟨rfl,none,rfl⟩ (fun i σ H' pv=>by rw [pv.1]; exact SqL.of hw1) (fun i x σ H' hx pv=>?_) (fun σ H' pv=>?_)
  ·obtain ⟨rfl,y,rfl⟩:=pv
   rw [List.getElem?_map] at hx
   cases hw:ws[i]? with
   | none=>rw [hw] at hx; cases hx
   | some x' =>
    rw [hw] at hx
    obtain rfl:x=.str x':=(Option.some.inj hx).symm
    have ho:=pOk_parts (hok x' (List.mem_of_getElem? hw))
    walk_at "sv"
    refine ⟨.inr ⟨by decide,by decide⟩,?_⟩
    refine intT_go (by rw [str_len]; omega) (intText_digits ho.2.2.1 ho.1 (by rw [str_len]; omega)) ?_
    walk_at "sv"
    refine ⟨some (.str x'),?_⟩
    rw [List.take_add_one,hw]
    unfold addrOf
    rw [List.foldl_append]
    rfl
  ·obtain ⟨rfl,y,rfl⟩:=pv
   walk_at "sv"
   rw [List.length_map,List.take_length]
   exact qg g _ (s1.trans s2)
def lowOf (a b:Int):Int:=a / SvM.sz b * SvM.sz b
def spBeg:Sp:=fun vs H Q _=>∃ a b:Int,vs=[.int a,.int b]∧0≤a∧0≤b∧b≤32∧∀ p,H p=none→Q (.ref p) (upd H p (.tup [.int (lowOf a b),.int (lowOf a b+SvM.sz b - 1)]))
theorem ok_beginning (F:Fun K "beginning" "beginning" s_beginning f fd)(hG:∃ u,mg "GREATEST_ADDRESS"=some u∧RelV (.int 4294967295) u):FnOk P w K mg base CX0 1 f fd ["address","bits"] spBeg:=by
 refine F.ok sc_beginning (fun vs H Q E h=>?_) (fun cdv A outer s H vs Q E hr h=>?_)
 ·obtain ⟨a,b,rfl,_⟩:=h
  rfl
 obtain ⟨a,b,rfl,ha,hb0,hb1,q⟩:=h
 obtain ⟨uG,m_GREATEST_ADDRESS,r_GREATEST_ADDRESS⟩:=hG
 refine ⟨_,(@pss_cons _ _ _ _ _ (@ps_set _ _ (2) _ _ _ _ sc_beginning.nd rfl (Or.inl rfl) (@pe_op _ _ _ _ _ _ _ _ op_shr (@pe_glob _ _ _ _ _ rfl m_GREATEST_ADDRESS r_GREATEST_ADDRESS (by decide)) (pv 1)) (by rfl) (by first | exact .inl rfl | exact .inr rfl | assumption)) (@pss_cons _ _ _ _ _ (@ps_set _ _ (3) _ _ _ _ sc_beginning.nd rfl (Or.inl rfl) (@pe_op _ _ _ _ _ _ _ _ op_or (pv 0) (pv 2)) (by rfl) (by first | exact .inl rfl | exact .inr rfl | assumption)) (@pss_one _ _ _ (@ps_ret _ _ _ _ (@pe_tup _ _ _ _ _ (@pa_cons _ _ _ _ _ (@pe_op _ _ _ _ _ _ _ _ op_sub (pv 3) (pv 2)) (@pa_cons _ _ _ _ _ (pv 3) pa_nil (by rfl)) (by rfl))))))),?_⟩
 rw [st_beginning]
 walk_at "sv"
 refine ⟨hb0,?_⟩
 rw [SvM.free_bits hb0 hb1,SvM.or_mask ha]
 have e:a / SvM.sz b * SvM.sz b+SvM.sz b - 1 - (SvM.sz b - 1)=lowOf a b:=by unfold lowOf; omega
 rw [e]
 exact TupR.go (by simp) q
--CUT--
section
variable {C_NoRow C_NoAddress C_SieveError:Addr}
theorem num_len60 {n:Int}(h0:0≤n)(h1:n<10 ^ 60):(Str.ofString (toString n)).length≤61:=by
 have a:=int_text_length_le10 (a:=n) (k:=60) (by decide) (by omega)
 have b:(Str.ofString (toString n)).length=(toString n).length:=by
  rw [str_len,Str.ofString_eq_toList]
  simp [String.length_toList]
 rw [b]
 exact a
theorem FmtR.num {n:Int}{H:Hp}{Q:VK}(h0:0≤n)(h1:n<10 ^ 60)(q:Q (.str (Str.ofString (toString n))) H):FmtR (.int n) H Q:=.inr ⟨n,rfl,log_small h0 (by omega),q⟩
def spXRow (C:Addr):Sp:=fun vs H Q _=>∃ (a:Addr) (n:Int),vs=[.ref a,.int n]∧H a=some (exN a C none)∧0≤n∧n<10 ^ 60∧∀ d,H d=none→Q .non (upd (upd H d (.xd [("row",.int n)])) a (exN a C (some d)))
theorem ok_NoRow_init {N:Addr}(F:Fun K "__init__" "NoRow.__init__" s_NoRow___init__ f fd)(m_SieveError:mg "SieveError"=some (.ref C_SieveError))(xb_SieveError:ExcB K C_SieveError)(k:ExcK K C_NoRow N)(xs:ExcS K C_NoRow)(na:NoAttr K C_NoRow "row"):FnOk P w K mg base CX0 1 f fd ["self","row"] (spXRow C_NoRow):=by
 refine F.ok sc_NoRow___init__ (fun vs H Q E h=>?_) (fun cdv A outer s H vs Q E hr h=>?_)
 ·obtain ⟨_,_,rfl,_⟩:=h
  rfl
 obtain ⟨a,n,rfl,ha,n0,n1,q⟩:=h
 refine ⟨_,(@pss_cons _ _ _ _ _ (@ps_expr _ _ _ _ (@pe_xinit _ _ _ _ _ _ _ _ _ (@pe_glob _ _ (.ref C_SieveError) _ _ rfl m_SieveError rfl (by decide)) xb_SieveError (@pa_cons _ _ _ _ _ (pv 0) (@pa_cons _ _ _ _ _ (@pe_fstr _ _ _ _ _ _ (@pj_cons _ _ _ _ _ pe_str (@pj_cons _ _ _ _ _ (@pe_fmt _ _ _ _ (pv 1)) (@pj_cons _ _ _ _ _ pe_str pj_nil (by rfl)) (by rfl)) (by rfl))) pa_nil (by rfl)) (by rfl)) (by rfl) (by rfl) (by rfl)) (by rfl)) (@pss_one _ _ _ (@ps_fldX _ _ _ _ _ _ _ _ (pv 0) (pv 1) rfl))),?_⟩
 rw [st_NoRow___init__]
 walk_at "sv"
 have e1:(Str.empty++("row ":Str)).length=4:=by decide
 have e2:(" is none of what may stand there":Str).length=32:=by decide
 have nl:=num_len60 n0 n1
 refine JnR.go (by rw [e1]; decide) ?_
 walk_at "sv"
 refine FmtR.num n0 n1 ?_
 refine JnR.go (by rw [Str.length_append,e1]; omega) ?_
 walk_at "sv"
 refine JnR.go (by rw [Str.length_append,Str.length_append,e1,e2]; omega) ?_
 walk_at "sv"
 refine ⟨a,C_NoRow,N,none,_,rfl,ha,k,?_⟩
 refine ⟨a,C_NoRow,rfl,ha,xs,na,q⟩
theorem ok_NoRow_initH {N:Addr}(F:Fun K "__init__" "NoRow.__init__" s_NoRow___init__ f fd)(m_SieveError:mg "SieveError"=some (.ref C_SieveError))(xb_SieveError:ExcB K C_SieveError)(k:ExcK K C_NoRow N)(xs:ExcS K C_NoRow)(na:NoAttr K C_NoRow "row"):FnH P w K mg base 1 f fd ["self","row"] (spXRow C_NoRow):=by
 refine fun_okH F sc_NoRow___init__ (fun vs H Q E h=>?_) (fun cdv A outer s H vs Q E h=>?_)
 ·obtain ⟨_,_,rfl,_⟩:=h
  rfl
 obtain ⟨a,n,rfl,ha,n0,n1,q⟩:=h
 refine ⟨_,(@pss_cons _ _ _ _ _ (@ps_expr _ _ _ _ (@pe_xinit _ _ _ _ _ _ _ _ _ (@pe_glob _ _ (.ref C_SieveError) _ _ rfl m_SieveError rfl (by decide)) xb_SieveError (@pa_cons _ _ _ _ _ (pv 0) (@pa_cons _ _ _ _ _ (@pe_fstr _ _ _ _ _ _ (@pj_cons _ _ _ _ _ pe_str (@pj_cons _ _ _ _ _ (@pe_fmt _ _ _ _ (pv 1)) (@pj_cons _ _ _ _ _ pe_str pj_nil (by rfl)) (by rfl)) (by rfl))) pa_nil (by rfl)) (by rfl)) (by rfl) (by rfl) (by rfl)) (by rfl)) (@pss_one _ _ _ (@ps_fldX _ _ _ _ _ _ _ _ (pv 0) (pv 1) rfl))),?_⟩
 rw [st_NoRow___init__]
 walk_at "sv"
 have e1:(Str.empty++("row ":Str)).length=4:=by decide
 have e2:(" is none of what may stand there":Str).length=32:=by decide
 have nl:=num_len60 n0 n1
 refine JnR.go (by rw [e1]; decide) ?_
 walk_at "sv"
 refine FmtR.num n0 n1 ?_
 refine JnR.go (by rw [Str.length_append,e1]; omega) ?_
 walk_at "sv"
 refine JnR.go (by rw [Str.length_append,Str.length_append,e1,e2]; omega) ?_
 walk_at "sv"
 refine ⟨a,C_NoRow,N,none,_,rfl,ha,k,?_⟩
 refine ⟨a,C_NoRow,rfl,ha,xs,na,q⟩
def NoR (C:Addr)(H:Hp)(E:XK):Prop:=∀ d H',Same H H'→H' d=some (.xd [("row",.int 1)])→E (.ref C) (some d) H'
theorem NoR.on {C:Addr}{H H1:Hp}{E:XK}(q:NoR C H E)(s:Same H H1):NoR C H1 E:=fun d H' s' h=>q d H' (s.trans s') h
theorem raiseRow {E:XK}{C:Addr}{H:Hp}(q:NoR C H E):RaiseI C (spXRow C) E [.int 1] H:=by
 refine ⟨show 1≤sizeLine by decide,fun a na=>⟨a,1,rfl,upd_same,by decide,by decide,fun d nd'=>?_⟩⟩
 have nda:d≠a:=fun e=>by
  rw [e,upd_same] at nd'
  cases nd'
 have nd0:H d=none:=by
  rw [upd_ne nda] at nd'
  exact nd'
 refine ⟨rfl,some d,upd_same,fun d' e=>?_,?_⟩
 ·cases e
  exact ⟨nda,_,by rw [upd_ne nda,upd_same]⟩
 ·refine q d _ (fun x o' ex=>?_) ?_
  ·have n1:x≠a:=ne_of_none ex na
   have n2:x≠d:=ne_of_none ex nd0
   unfold del
   rw [if_neg n1,upd_ne n1,upd_ne n2,upd_ne n1]
   exact ex
  ·unfold del
   rw [if_neg nda,upd_ne nda,upd_same]
def numV (z:Str):Int:=((NumText.digitsVal z.cps.toList:Nat):Int)
def spRdNum (C:Addr):Sp:=fun vs H Q E=>∃ (z:Str) (g:Nat),vs=[.str z,.int g]∧g<10 ^ 10∧z.length≤1000∧(nOk g z.cps.toList=true→∀ H',Same H H'→Q (.int (numV z)) H')∧(nOk g z.cps.toList=false→NoR C H E)
theorem ok_rdnum (F:Fun K "read_number" "read_number" s_read_number f fd)(g_is_number:Fn P w K mg base "is_number" 1 ["word","greatest"] spIsNum)(X_NoRow:XcI P w K mg base "NoRow" C_NoRow 1 ["self","row"] (spXRow C_NoRow))(c_ALONE:∃ u,mg "ALONE"=some u∧RelV (.int 1) u)(b_int:mg "int"=none) :
  FnOk P w K mg base (CXe P w) 3 f fd ["word","greatest"] (spRdNum C_NoRow):=by
 obtain ⟨N,fI,fdI,O_NoRow,G_NoRow,B_NoRow⟩:=X_NoRow.ex
 obtain ⟨_,m_ALONE,r_ALONE⟩:=c_ALONE
 refine fun_okX F sc_read_number (fun vs H Q E h=>?_) (fun cdv A outer s H vs Q E hr h=>?_)
 ·obtain ⟨_,_,rfl,_⟩:=h
  rfl
 obtain ⟨z,g,rfl,hg,hz,qg,qb⟩:=h
 refine ⟨_,(@pss_cons _ _ _ _ _ (@ps_if _ _ _ _ _ _ _ _ (@pt_not _ _ _ _ (@pt_val _ _ _ (@pe_fn _ _ _ _ _ _ _ _ _ _ _ g_is_number hr (by decide) rfl (@pa_cons _ _ _ _ _ (pv 0) (@pa_cons _ _ _ _ _ (pv 1) pa_nil (by rfl)) (by rfl)) (by decide) (by rfl) (by rfl)) (by intro _; rfl))) (@pss_one _ _ _ (@ps_raiseI _ _ _ _ _ _ _ _ _ _ _ _ _ _ _ _ xeOut_cx O_NoRow G_NoRow (hr.mono (by decide)) B_NoRow rfl rfl (@pa_cons _ _ _ _ _ (@pe_glob _ _ _ _ _ rfl m_ALONE r_ALONE (by decide)) pa_nil (by rfl)) (by decide) (by rfl) (by rfl))) pss_nil) (@pss_one _ _ _ (@ps_ret _ _ _ _ (@pe_callTy _ _ _ _ _ _ _ _ _ call_intT rfl b_int bo_int (@pa_cons _ _ _ _ _ (pv 0) pa_nil (by rfl)) (by decide) (by decide) (by rfl) (by rfl))))),?_⟩
 rw [st_read_number]
 walk_at "sv"
 refine ⟨z,g,rfl,hg,by omega,fun H1 s1=>?_⟩
 cases e:nOk g z.cps.toList with
 | false =>
  walk_at "sv"
  exact raiseRow ((qb e).on s1)
 | true =>
  obtain ⟨h1,h2,h3,h4⟩:=nOk_parts e
  have sl:=str_len z
  have gl:(Str.ofString (toString (g:Int))).length≤10:=PySem.W.KT.len_num (by omega) (by omega)
  walk_at "sv"
  refine intT_go (by omega) (intText_digits h3 h1 (by omega)) ?_
  walk_at "sv"
  exact qg e _ s1
def spRdPl (C:Addr):Sp:=fun vs H Q E=>∃ z:Str,vs=[.str z]∧z.length≤1000∧(∀ c∈z.cps.toList,c<16 ^ 8)∧(gd (Txt.split z ⟨#[46]⟩)=true→∀ H',Same H H'→Q (.int (addrOf (Txt.split z ⟨#[46]⟩))) H')∧(gd (Txt.split z ⟨#[46]⟩)=false→NoR C H E)
theorem ok_rdpl (F:Fun K "read_place" "read_place" s_read_place f fd)(g_read_address:FnX P w K mg base "read_address" 2 ["text"] (spRead C_NoAddress))(XH_NoRow:XcH P w K mg base "NoRow" C_NoRow 1 ["self","row"] (spXRow C_NoRow))(m_NoAddress:mg "NoAddress"=some (.ref C_NoAddress))(c_ALONE:∃ u,mg "ALONE"=some u∧RelV (.int 1) u)
  (f_k:PySem.W.kitCls K (.ref C_NoAddress) (.ref C_NoAddress)=some true) (hb_NoAddress:PySem.W.mroIn K C_NoAddress (.type "BaseException")=some true):FnOk P w K mg base (CXe P w) 3 f fd ["word"] (spRdPl C_NoRow):=by
 obtain ⟨N,fI,fdI,OH_NoRow,GH_NoRow,BH_NoRow⟩:=XH_NoRow.ex
 obtain ⟨_,m_ALONE,r_ALONE⟩:=c_ALONE
 refine fun_okX F sc_read_place (fun vs H Q E h=>?_) (fun cdv A outer s H vs Q E hr h=>?_)
 ·obtain ⟨_,rfl,_⟩:=h
  rfl
 obtain ⟨z,rfl,hz,hc,qg,qb⟩:=h
 let R1:RX:=fun cls dd σ' H'=>cls=.ref C_NoAddress∧gd (Txt.split z ⟨#[46]⟩)=false∧Same H H'∧σ'=[some (.str z)]
 have hm1:∀ cls dd σ H,R1 cls dd σ H→∃ C',cls=.ref C'∧PySem.W.kitCls K (.ref C') (.ref C_NoAddress)=some true:=fun cls dd σ H r=>⟨_,r.1,f_k⟩
 refine ⟨_,(@pss_one _ _ _ (@ps_tryF _ _ _ _ _ _ _ _ _ _ _ _ _ _ _ _ _ _ _ _ _ _ _ _ _ (R1) xeOut_cx rfl m_NoAddress hm1 hb_NoAddress OH_NoRow GH_NoRow (hr.mono (by decide)) BH_NoRow rfl (fun _=>(@pss_one _ _ _ (@ps_ret _ _ _ _ (@pe_fnT _ _ _ _ _ _ _ _ _ _ _ _ _ g_read_address ⟨rfl,rfl,rfl⟩ hr (by decide) rfl (@pa_cons _ _ _ _ _ (pv 0) pa_nil (by rfl)) (by decide) (by rfl) (by rfl))))) (fun _ _=>(@pa_cons _ _ _ _ _ (@pe_glob _ _ _ _ _ rfl m_ALONE r_ALONE (by decide)) pa_nil (by rfl))) (by decide) (by decide) (by rfl) (by rfl))),?_⟩
 rw [st_read_place]
 walk_at "sv"
 refine ⟨?_,fun cls dd σ' H' r=>?_⟩
 ·walk_at "sv"
  exact ⟨z,rfl,hz,hc,fun g H' s'=>qg g H' s',fun g H' s'=>⟨rfl,g,s',rfl⟩⟩
 ·obtain ⟨rfl,g,s',rfl⟩:=r
  walk_at "sv"
  exact raiseRow ((qb g).on s')
end
def allBox:List (Int×Int):=[(0,3),(0,255),(0,4294967295),(0,65535),(0,4294967295),(0,65535)]
def spEvery:Sp:=fun vs H Q _=>vs=[]∧∀ t H',Same H H'→IsBox H' t allBox→Q (.ref t) H'
theorem ok_every (F:Fun K "every" "every" s_every f fd)(c_ADDRESS:∃ u,mg "GREATEST_ADDRESS"=some u∧RelV (.int 4294967295) u)(c_DOOR:∃ u,mg "GREATEST_DOOR"=some u∧RelV (.int 65535) u)(c_TURN:∃ u,mg "GREATEST_TURN"=some u∧RelV (.int 3) u)(c_KIND:∃ u,mg "GREATEST_KIND"=some u∧RelV (.int 255) u):FnOk P w K mg base CX0 1 f fd [] spEvery:=by
 refine F.ok sc_every (fun vs H Q E h=>?_) (fun cdv A outer s H vs Q E hr h=>?_)
 ·obtain ⟨rfl,_⟩:=h
  rfl
 obtain ⟨rfl,q⟩:=h
 obtain ⟨_,m_GREATEST_ADDRESS,r_GREATEST_ADDRESS⟩:=c_ADDRESS
 obtain ⟨_,m_GREATEST_DOOR,r_GREATEST_DOOR⟩:=c_DOOR
 obtain ⟨_,m_GREATEST_TURN,r_GREATEST_TURN⟩:=c_TURN
 obtain ⟨_,m_GREATEST_KIND,r_GREATEST_KIND⟩:=c_KIND
 refine ⟨_,(@pss_cons _ _ _ _ _ (@ps_set _ _ (0) _ _ _ _ sc_every.nd rfl (Or.inl rfl) (@pe_tup _ _ _ _ _ (@pa_cons _ _ _ _ _ pe_int (@pa_cons _ _ _ _ _ (@pe_glob _ _ _ _ _ rfl m_GREATEST_ADDRESS r_GREATEST_ADDRESS (by decide)) pa_nil (by rfl)) (by rfl))) (by rfl) (by first | exact .inl rfl | exact .inr rfl | assumption)) (@pss_cons _ _ _ _ _ (@ps_set _ _ (1) _ _ _ _ sc_every.nd rfl (Or.inl rfl) (@pe_tup _ _ _ _ _ (@pa_cons _ _ _ _ _ pe_int (@pa_cons _ _ _ _ _ (@pe_glob _ _ _ _ _ rfl m_GREATEST_DOOR r_GREATEST_DOOR (by decide)) pa_nil (by rfl)) (by rfl))) (by rfl) (by first | exact .inl rfl | exact .inr rfl | assumption)) (@pss_one _ _ _ (@ps_ret _ _ _ _ (@pe_tup _ _ _ _ _ (@pa_cons _ _ _ _ _ (@pe_tup _ _ _ _ _ (@pa_cons _ _ _ _ _ pe_int (@pa_cons _ _ _ _ _ (@pe_glob _ _ _ _ _ rfl m_GREATEST_TURN r_GREATEST_TURN (by decide)) pa_nil (by rfl)) (by rfl))) (@pa_cons _ _ _ _ _ (@pe_tup _ _ _ _ _ (@pa_cons _ _ _ _ _ pe_int (@pa_cons _ _ _ _ _ (@pe_glob _ _ _ _ _ rfl m_GREATEST_KIND r_GREATEST_KIND (by decide)) pa_nil (by rfl)) (by rfl))) (@pa_cons _ _ _ _ _ (pv 0) (@pa_cons _ _ _ _ _ (pv 1) (@pa_cons _ _ _ _ _ (pv 0) (@pa_cons _ _ _ _ _ (pv 1) pa_nil (by rfl)) (by rfl)) (by rfl)) (by rfl)) (by rfl)) (by rfl))))))),?_⟩
 rw [st_every]
 walk_at "sv"
 refine TupR.go (by simp) fun a na=>?_
 have s1:=same_new na (.tup [.int 0,.int 4294967295])
 walk_at "sv"
 refine TupR.go (by simp) fun d nd=>?_
 have s2:=same_new nd (.tup [.int 0,.int 65535])
 walk_at "sv"
 refine TupR.go (by simp) fun b nb=>?_
 have s3:=same_new nb (.tup [.int 0,.int 3])
 walk_at "sv"
 refine TupR.go (by simp) fun c nc=>?_
 have s4:=same_new nc (.tup [.int 0,.int 255])
 walk_at "sv"
 refine TupR.go (by simp) fun t nt=>?_
 have s5:=same_new nt (.tup [.ref b,.ref c,.ref a,.ref d,.ref a,.ref d])
 have ha:=s5 _ _ (s4 _ _ (s3 _ _ (s2 _ _ (upd_same (H:=H) (a:=a) (o:=.tup [.int 0,.int 4294967295])))))
 have hd:=s5 _ _ (s4 _ _ (s3 _ _ (upd_same (H:=upd H a (.tup [.int 0,.int 4294967295])) (a:=d) (o:=.tup [.int 0,.int 65535]))))
 refine q t _ ((((s1.trans s2).trans s3).trans s4).trans s5) ⟨_,upd_same,.cons (s5 _ _ (s4 _ _ upd_same)) (.cons (s5 _ _ upd_same) (.cons ha (.cons hd (.cons ha (.cons hd .nil)))))⟩
--CUT--
def calmSp (sp:Sp):Sp:=fun vs H Q _=>sp vs H Q fun _ _ _=>False
theorem calm_ok {k:Nat}{ps:List Str}{sp:Sp}(F:FnOk P w K mg base (CXe P w) k f fd ps sp):FnOk P w K mg base CX0 k f fd ps (calmSp sp) :=
 ⟨fun vs H Q _ h=>F.len vs H Q _ h,fun A outer s H args us vs Q E hr e0 hb hv h=>codeAny_mono (F.run A outer s H args us vs Q _ hr e0 hb hv h) fun r s' hq=>by
  cases r with
  | ok fl=>cases fl <;> exact hq
  | error e =>
   obtain ⟨_,_,_,_,_,_,z⟩:=hq
   exact z.elim⟩
def twoW (ws:List Str)(a b:Str):Prop:=(ws=[a]∧b=a)∨ws=[a,b]
theorem lit_minus:("-":Str)=⟨#[45]⟩:=by decide +kernel
def gV (g:Str→Int):V→V
 | .str x=>.int (g x)
 | v=>v
def rdSpX (g:Str→Int)(ok:Str→Prop)(C:Addr):Sp:=fun vs H Q E=>∃ x,vs=[.str x]∧x.length≤900∧(∀ c∈x.cps.toList,c<16 ^ 8)∧(ok x→∀ H',Same H H'→Q (.int (g x)) H')∧(¬ ok x→NoR C H E)
def EndsOk (g:Str→Int)(ok:Str→Prop)(ws:List Str)(lo hi:Int):Prop:=∃ a b:Str,twoW ws a b∧ok a∧ok b∧g a=lo∧g b=hi∧lo≤hi
def okV (ok:Str→Prop):V→Prop
 | .str x=>ok x
 | _=>True
theorem split_ne (z y:Str):Txt.split z y≠[]:=fun h=>by
 unfold Txt.split at h
 split at h
 ·cases h
 ·split at h
  ·cases h
  ·have:=congrArg List.length h
   rw [PyProof.Rows.len_partsBetween] at this
   cases this
theorem sub_chars {x:Str}{i j c:Nat}(h:c∈(Builtin.Str.strSub x i j).cps.toList):c∈x.cps.toList:=by
 have e:(Builtin.Str.strSub x i j).cps=x.cps.extract i j:=rfl
 rw [e,Array.toList_extract,List.extract_eq_drop_take] at h
 exact List.mem_of_mem_drop (List.mem_of_mem_take h)
theorem partsFrom_chars (x:Str)(w:Nat):∀ (cuts:List Nat) (a:Nat),∀ p∈StrLaws.partsFrom x w a cuts,∀ c∈p.cps.toList,c∈x.cps.toList
 | [],a,p,hp,c,hc=>by
  rw [List.mem_singleton.mp hp] at hc
  exact sub_chars hc
 | d::r,a,p,hp,c,hc=>by
  rcases List.mem_cons.mp hp with rfl | hp'
  ·exact sub_chars hc
  ·exact partsFrom_chars x w r _ p hp' c hc
theorem split_chars {x y a:Str}(h:a∈Txt.split x y):∀ c∈a.cps.toList,c∈x.cps.toList:=by
 unfold Txt.split at h
 split at h
 ·rw [List.mem_singleton.mp h]; exact fun _ q=>q
 ·split at h
  ·rw [List.mem_singleton.mp h]; exact fun _ q=>q
  ·rw [StrLaws.partsBetween_eq] at h
   exact partsFrom_chars x _ _ _ a h
def spREndsX (P:Program)(w:World)(K:PySem.W.Frag)(mg:Str→Option Value)(base:Heap)(C:Addr):Sp:=fun vs H Q E=>∃ (z:Str) (h:Addr) (g:Str→Int) (ok:Str→Prop),vs=[.str z,.ref h]∧z.length≤900∧(∀ c∈z.cps.toList,c<16 ^ 8)∧(∀ H',Same H H'→CalAt K H' h∧RunX P w K mg base 4 h (rdSpX g ok C) H') ∧
 (∀ lo hi,EndsOk g ok (Txt.split z ⟨#[45]⟩) lo hi→∀ t H',Same H H'→H' t=some (.tup [.int lo,.int hi])→Q (.ref t) H')∧((¬ ∃ lo hi,EndsOk g ok (Txt.split z ⟨#[45]⟩) lo hi)→NoR C H E)
section
variable {C_NoRow:Addr}
theorem ok_rends (F:Fun K "read_ends" "read_ends" s_read_ends f fd)(X_NoRow:XcI P w K mg base "NoRow" C_NoRow 1 ["self","row"] (spXRow C_NoRow))(c_ALONE:∃ u,mg "ALONE"=some u∧RelV (.int 1) u)(b_len:mg "len"=none):FnOk P w K mg base (CXe P w) 5 f fd ["word","read_end"] (spREndsX P w K mg base C_NoRow):=by
 obtain ⟨_,m_ALONE,r_ALONE⟩:=c_ALONE
 obtain ⟨N_NoRow,i_NoRow,fd_NoRow,O_NoRow,G_NoRow,B_NoRow⟩:=X_NoRow.ex
 refine fun_okU F sc_read_ends (fun vs H Q E h=>?_) (fun cdv A outer s H vs Q E hr h=>?_)
 ·obtain ⟨_,_,_,_,rfl,_⟩:=h
  rfl
 obtain ⟨z,h,g,ok,rfl,hz,zc,hv,q,qe⟩:=h
 refine ⟨_,(@pss_cons _ _ _ _ _ (@ps_setCompU _ _ _ (["end"]) ([1]) _ _ _ _ _ _ _ _ _ (2) _ _ _ (xeU_up ⟨rfl,rfl,rfl⟩ rfl) rfl (COk.of (out:=defScope s_read_ends) (N:=["word","read_end","ends"]) rfl rfl (by decide +kernel)) sc_read_ends.nd rfl (Or.inl rfl) (@pi_list _ _ _ _ (@pe_bm _ _ _ _ _ _ _ _ _ _ _ _ PySem.F.plainAttrs_str PySem.F.slot_str_split PySem.F.type_str_split mt_split (pv 0) (@pa_cons _ _ _ _ _ pe_str pa_nil (by rfl)) (by rfl) (by rfl) (by rfl) (by rfl) (by rfl))) (fun _ _ _=>(@pg_name _ _ (0) _ (show List.Nodup (["end","read_end"]:List Str) by decide +kernel) rfl (Or.inl rfl) (by first | exact .inl rfl | exact .inr rfl | assumption))) (fun _ _ _=>pifs_nil) (fun _ _ _=>(pe_callVX (P:=P) (w:=w) (K:=K) (mg:=mg) (base:=base) rfl rfl rfl rfl rfl passC (k:=4) hr (by decide) (pv 1) (@pa_cons _ _ _ _ _ (pv 0) pa_nil (by rfl)))) (by rfl) (by first | exact .inl rfl | exact .inr rfl | assumption) (by intro _; rfl)) (@pss_cons _ _ _ _ _ (@ps_if _ _ _ _ _ _ _ _ (@PW.pt _ _ _ (@pw_or _ _ _ _ _ _ _ (@pt_cmpR _ _ _ _ _ _ _ _ op_gt (@pe_callB _ _ _ _ _ _ _ _ _ call_lenR rfl b_len bo_len (@pa_cons _ _ _ _ _ (pv 2) pa_nil (by rfl)) (by decide) (by decide) (by rfl) (by rfl)) pe_int (nomark _)) (@pw_or1 _ _ _ _ (@pt_cmpR _ _ _ _ _ _ _ _ op_gt (@pe_ix _ _ _ _ _ _ _ ix_list (pv 2) pe_int (fun _ _=>rfl)) (@pe_ix _ _ _ _ _ _ _ ix_list (pv 2) (@pe_un _ _ _ _ _ _ un_neg pe_int) (fun _ _=>rfl)) (nomark _))))) (@pss_one _ _ _ (@ps_raiseIU _ _ _ _ _ _ _ _ _ _ _ _ _ _ _ _ (xeU_up ⟨rfl,rfl,rfl⟩ rfl) O_NoRow G_NoRow (hr.mono (by decide)) B_NoRow rfl rfl (@pa_cons _ _ _ _ _ (@pe_glob _ _ _ _ _ rfl m_ALONE r_ALONE (by decide)) pa_nil (by rfl)) (by decide) (by rfl) (by rfl))) pss_nil) (@pss_one _ _ _ (@ps_ret _ _ _ _ (@pe_tup _ _ _ _ _ (@pa_cons _ _ _ _ _ (@pe_ix _ _ _ _ _ _ _ ix_list (pv 2) pe_int (fun _ _=>rfl)) (@pa_cons _ _ _ _ _ (@pe_ix _ _ _ _ _ _ _ ix_list (pv 2) (@pe_un _ _ _ _ _ _ un_neg pe_int) (fun _ _=>rfl)) pa_nil (by rfl)) (by rfl))))))),?_⟩
 rw [st_read_ends]
 walk_at "sv"
 rw [lit_minus]
 refine split_ rfl (by omega) fun p hp=>?_
 have s1:=same_new hp (.lst ((Txt.split z ⟨#[45]⟩).map V.str))
 have h1:upd H p (.lst ((Txt.split z ⟨#[45]⟩).map V.str)) p=some (.lst ((Txt.split z ⟨#[45]⟩).map V.str)):=upd_same
 generalize upd H p (.lst ((Txt.split z ⟨#[45]⟩).map V.str))=H1 at *
 have wl:=split_le z ⟨#[45]⟩
 have ne:=split_ne z ⟨#[45]⟩
 have wo:∀ x∈Txt.split z ⟨#[45]⟩,x.length≤900∧∀ c∈x.cps.toList,c<16 ^ 8:=fun x hx=>⟨Nat.le_trans (PyProof.Rows.part_short hx) hz,fun c hc=>zc c (split_chars hx c hc)⟩
 generalize Txt.split z ⟨#[45]⟩=ws at *
 refine IlR.go (SqL.of h1) ?_
 refine CmpR.mapO (gV g) (okV ok) itl (by rw [List.length_map]; omega) (fun H' sm=>sm.seq (SqL.of h1)) (fun v H' Q' hx sm q'=>?_) (fun D H2 hD al s2 hl2=>?_)
 ·obtain ⟨x,hxw,rfl⟩:=List.mem_map.mp hx
  have hv':=hv _ (s1.trans sm)
  refine ⟨h,rfl,hv'.1,?_⟩
  walk_at "sv"
  refine ⟨fun o e=>e,rdSpX g ok C_NoRow,hv'.2,x,rfl,(wo x hxw).1,(wo x hxw).2,fun o H2 s2=>q' o H2 s2,fun no=>(qe ?_).on (s1.trans sm)⟩
  rintro ⟨lo,hi,a,b,tw,oa,ob,_⟩
  rcases tw with ⟨rfl,rfl⟩ | rfl
  ·rw [List.mem_singleton.mp hxw] at no
   exact no oa
  ·simp only [List.mem_cons,List.not_mem_nil,or_false] at hxw
   rcases hxw with rfl | rfl
   ·exact no oa
   ·exact no ob
 ·have s02:=s1.trans s2
  walk_at "sv"
  refine LenR.lst (SqL.of hl2) ?_
  walk_at "sv"
  rw [List.length_map,List.length_map]
  by_cases c2:ws.length > 2
  ·rw [decide_eq_true (show ((ws.length:Nat):Int) > 2 by omega)]
   walk_at "sv"
   refine raiseRow ((qe ?_).on s02)
   rintro ⟨lo,hi,a,b,tw,_⟩
   rcases tw with ⟨rfl,rfl⟩ | rfl
   ·simp at c2
   ·simp at c2
  rw [decide_eq_false (show ¬ ((ws.length:Nat):Int) > 2 by omega)]
  walk_at "sv"
  obtain ⟨a,b,tw⟩:∃ a b,twoW ws a b:=by
   match ws,ne,c2 with
   | [a],_,_=>exact ⟨a,a,.inl ⟨rfl,rfl⟩⟩
   | [a,b],_,_=>exact ⟨a,b,.inr rfl⟩
   | _::_::_::_,_,c2=>simp at c2
  have ok2:ok a∧ok b:=by
   rcases tw with ⟨rfl,rfl⟩ | rfl
   ·exact ⟨al (.str b) (by simp),al (.str b) (by simp)⟩
   ·exact ⟨al (.str a) (by simp),al (.str b) (by simp)⟩
  obtain ⟨e0,ys,el⟩:(((ws.map V.str).map (gV g))[0]?=some (.int (g a)))∧∃ ys,(ws.map V.str).map (gV g)=ys++[.int (g b)]:=by
   rcases tw with ⟨rfl,rfl⟩ | rfl
   ·exact ⟨rfl,[],rfl⟩
   ·exact ⟨rfl,[.int (g a)],rfl⟩
  have hl2':=hl2
  rw [el] at hl2'
  refine ixL_go (i:=0) (SqL.of hl2) e0 ?_
  walk_at "sv"
  refine ixLast_go (SqL.of hl2') ?_
  walk_at "sv"
  by_cases c3:g a > g b
  ·rw [decide_eq_true c3]
   walk_at "sv"
   refine raiseRow ((qe ?_).on s02)
   rintro ⟨lo,hi,a',b',tw',_,_,rfl,rfl,le⟩
   have:a'=a∧b'=b:=by
    rcases tw with ⟨rfl,rfl⟩ | rfl
    ·rcases tw' with ⟨e,rfl⟩ | e
     ·cases e
      exact ⟨rfl,rfl⟩
     ·cases e
    ·rcases tw' with ⟨e,rfl⟩ | e
     ·cases e
     ·cases e
      exact ⟨rfl,rfl⟩
   rw [this.1,this.2] at le
   omega
  rw [decide_eq_false c3]
  walk_at "sv"
  refine ixL_go (i:=0) (SqL.of hl2) e0 ?_
  walk_at "sv"
  refine ixLast_go (SqL.of hl2') ?_
  refine TupR.go (by simp) fun t nt=>?_
  exact q _ _ ⟨a,b,tw,ok2.1,ok2.2,rfl,rfl,by omega⟩ t _ (s02.trans (same_new nt _)) upd_same
end
def lamQ:Str:=(envOfC "read_numbers" (defScope s_read_numbers) 0 0 .none).qual++"<lambda>"
abbrev lamA:Arguments:={ posonlyargs:=[],args:=[{ arg:="end",annotation:=none,pos:=⟨80,34,80,37⟩ }],vararg:=none,kwonlyargs:=[],kw_defaults:=[],kwarg:=none,defaults:=[] }
abbrev lamB:Expr:=.Call (.Name "read_number" ⟨80,39,80,50⟩) [.Name "end" ⟨80,51,80,54⟩,.Name "greatest" ⟨80,56,80,64⟩] [] ⟨80,39,80,65⟩
abbrev lamS:Scope:={ kind:=.function,names:=[("end",.local),("greatest",.free),("read_number",.globalImplicit)],isGenerator:=false,isCoroutine:=false,more:=[] }
theorem lamS_ok:LamSc "end" "greatest" lamS:=⟨rfl,rfl,rfl,by decide +kernel,by decide +kernel,by decide +kernel,fun z h=>by
 have h:(([("end",.local),("greatest",.free),("read_number",.globalImplicit)]:List (Str×NameKind)).lookup z)=some .free:=h
 rw [List.lookup_cons] at h
 split at h
 ·cases h
 ·rw [List.lookup_cons] at h
  split at h
  ·exact eq_of_beq ‹_›
  ·rw [List.lookup_cons] at h
   split at h
   ·cases h
   ·cases h⟩
section
variable {C_NoRow:Addr}
theorem lam_num {h c' cc:Addr}{o oc:Obj}{u0:Value}{g:Nat}{H:Hp}(L:LamObj lamQ lamA lamB lamS [("greatest",cc)] c' o)(hf:H h=some (lamO h o))(hc:H c'=some (codO c' lamQ))(hce:H cc=some (celO cc oc))(hoc:oc.data=.cell (some u0))(r0:RelV (.int (g:Int)) u0)(hg:g<10 ^ 10)(g_read_number:FnX P w K mg base "read_number" 3 ["word","greatest"] (spRdNum C_NoRow)):CalAt K H h∧RunX P w K mg base 4 h (rdSpX numV (fun x=>nOk g x.cps.toList=true) C_NoRow) H:=by
 refine ⟨.inr ⟨o,?_⟩,lam_runF (CX:=CXe P w) (k:=3) (x:="end") L lamS_ok hf hc hce hoc r0 (fun vs Q E h=>?_) (fun pm ctv u=>rfl) (fun A outer s v Q E ho nf hr h=>?_)⟩
 ·obtain ⟨pm,ctv,rfl⟩:=L
  exact ⟨_,hf,rfl⟩
 ·obtain ⟨n,rfl,_⟩:=h
  rfl
 ·obtain ⟨x,e,xl,_,q,qe⟩:=h
  cases e
  refine ⟨_,pe_fnX g_read_number (xeF hce ho hoc nf) hr (by decide) rfl (pa_cons (pv 0) (pa_cons (pv 1) pa_nil)),?_⟩
  walk_at "sv"
  have up:∀ {H':Hp},Same (del H cc) H'→Same H (upd H' cc (celO cc oc)):=fun s' b u e=>by
   by_cases eb:b=cc
   ·rw [eb,hce] at e
    rw [eb,upd_same]
    exact e
   ·rw [upd_ne eb]
    exact s' b u ((del_ne eb).trans e)
  refine ⟨x,g,rfl,hg,by omega,fun xo H' s'=>q xo _ (up s'),fun z d H' s' hd n=>qe (fun xo=>by rw [xo] at z; cases z) d _ (up s') ?_⟩
  exact (upd_ne (ne_of_none hd n)).trans hd
end
def SameB (T:Addr)(H H':Hp):Prop:=∀ a o,a≠T→H a=some o→H' a=some o
def TabOk (T:Addr)(H:Hp):Prop:=∃ ps,H T=some (tabO T ps)∧(ps=#[]∨∃ c',ps=#[rawInt 80,rawInt 27,.ref c']∧H c'=some (codO c' lamQ))
def RdsN (g:Nat)(z:Str)(lo hi:Int):Prop:=z.length≤1000∧∃ a b:Str,twoW (Txt.split z ⟨#[45]⟩) a b∧nOk g a.cps.toList=true∧nOk g b.cps.toList=true∧numV a=lo∧numV b=hi∧lo≤hi
def NoRT (C T:Addr)(H:Hp)(E:XK):Prop:=∀ d H',SameB T H H'→TabOk T H'→H' d=some (.xd [("row",.int 1)])→E (.ref C) (some d) H'
def spRNs (C T:Addr):Sp:=fun vs H Q E=>∃ (z:Str) (g:Nat),vs=[.str z,.int (g:Int)]∧g<10 ^ 10∧z.length≤900∧(∀ c∈z.cps.toList,c<16 ^ 8)∧TabOk T H∧(∀ lo hi,RdsN g z lo hi→∀ t H',SameB T H H'→TabOk T H'→H' t=some (.tup [.int lo,.int hi])→Q (.ref t) H')∧((¬ ∃ lo hi,RdsN g z lo hi)→NoRT C T H E)
section
variable {C_NoRow:Addr}
theorem ok_rnums {c T:Addr}(F:Fun K "read_numbers" "read_numbers" s_read_numbers f fd)(hc:fd.code=.ref c)(hT:∀ h,K.In h→PySem.W.CodeHd h c T)(hB:BltAt mg base)(g_read_ends:FnX P w K mg base "read_ends" 5 ["word","read_end"] (spREndsX P w K mg base C_NoRow))(g_read_number:FnX P w K mg base "read_number" 3 ["word","greatest"] (spRdNum C_NoRow)) :
  FnOk P w K mg base (CXe P w) 6 f fd ["word","greatest"] (spRNs C_NoRow T):=by
 refine fun_okCX F hc sc_read_numbers (fun vs H Q E h=>?_) (fun A outer s H vs Q E hr h=>?_)
 ·obtain ⟨_,_,rfl,_⟩:=h
  rfl
 obtain ⟨z,g,rfl,hg,hz,zc,⟨ps,hps,tab⟩,q,qe⟩:=h
 obtain ⟨cc,hcc⟩:∃ cc,(envOfC "read_numbers" (defScope s_read_numbers) s.heap.objs.size f (.ref c)).cells.lookup ("greatest":Str)=some cc:=cell_has (by decide +kernel)
 have hcl:closureFor lamS (envOfC "read_numbers" (defScope s_read_numbers) s.heap.objs.size f (.ref c))=pure [(("greatest":Str),cc)]:=by
  rw [closure_eq (fun x hx e=>?_)]
  ·show pure [(("greatest":Str),((envOfC "read_numbers" (defScope s_read_numbers) s.heap.objs.size f (.ref c)).cells.lookup ("greatest":Str)).getD 0)]=_
   rw [hcc]
   rfl
  ·simp only [List.mem_cons,List.not_mem_nil,or_false] at hx
   rcases hx with rfl | rfl | rfl
   ·cases e
   ·exact ⟨cc,hcc⟩
   ·cases e
 have hkc:(defScope s_read_numbers).names.lookup ("greatest":Str)=some .cell:=by decide +kernel
 refine ⟨_,(@pss_one _ _ _ (@ps_ret _ _ _ _ (pe_fnCX (i:=1) g_read_ends (pass_on xeOut_cx) hr (by decide) rfl hcc rfl rfl hkc (.inr (.inl hkc)) (@pa_cons _ _ _ _ _ (pv 0) (@pa_cons _ _ _ _ _ (@pe_lam _ _ _ _ _ _ _ _ rfl hT hB hcl (by rfl)) pa_nil (by rfl)) (by rfl))))),?_⟩
 rw [st_read_numbers]
 walk_at "sv"
 have key:∀ (h c':Addr) (o:Obj) (H1:Hp),LamObj lamQ lamA lamB lamS [("greatest",cc)] c' o→H1 h=some (lamO h o)→H1 c'=some (codO c' lamQ)→SameB T H H1→TabOk T H1→∀ (c2:Addr) (oc:Obj),(envOfC "read_numbers" (defScope s_read_numbers) s.heap.objs.size f (.ref c)).cells.lookup ("greatest":Str)=some c2→H1 c2=none→(∀ v,([some (V.str z),some (V.int (g:Int))]:L2.St)[1]?=some (some v)→∃ u,RelV v u∧oc.data=.cell (some u))→spREndsX P w K mg base C_NoRow [.str z,.ref h] (upd H1 c2 (celO c2 oc)) (fun v H2=>H2 c2=some (celO c2 oc)∧Q v (del H2 c2)) (fun cls dd H2=>H2 c2=some (celO c2 oc)∧E cls dd (del H2 c2)):=fun h c' o H1 L hf hc' sb tk c2 oc e2 n2 hoc=>by
  rw [hcc] at e2
  cases e2
  obtain ⟨u0,r0,ho⟩:=hoc _ rfl
  have s1:Same H1 (upd H1 cc (celO cc oc)):=same_new n2 _
  have sd:∀ {H2:Hp},Same (upd H1 cc (celO cc oc)) H2→Same H1 (del H2 cc):=fun s2 x u e=>(del_ne (ne_of_none e n2)).trans (s2 _ _ (s1 _ _ e))
  have tk2:∀ {H2:Hp},Same (upd H1 cc (celO cc oc)) H2→TabOk T (del H2 cc):=fun s2=>by
   obtain ⟨ps,e,r⟩:=tk
   refine ⟨ps,sd s2 _ _ e,?_⟩
   rcases r with r | ⟨c3,r,e3⟩
   ·exact .inl r
   ·exact .inr ⟨c3,r,sd s2 _ _ e3⟩
  have at_:∀ {H2:Hp} {t:Addr} {u:HO},Same (upd H1 cc (celO cc oc)) H2→H2 t=some u→(∀ φ,u≠.ext φ)→del H2 cc t=some u:=fun s2 ht n=>(del_ne fun e=>by
   rw [e,s2 _ _ upd_same] at ht
   exact n _ (Option.some.inj ht).symm).trans ht
  refine ⟨z,h,numV,fun x=>nOk g x.cps.toList=true,rfl,hz,zc,fun H2 s2=>lam_num L (s2 _ _ (s1 _ _ hf)) (s2 _ _ (s1 _ _ hc')) (s2 _ _ upd_same) ho r0 hg g_read_number,fun lo hi ⟨a,b,tw,na,nb,ea,eb,le⟩ t H2 s2 ht=>⟨s2 _ _ upd_same,?_⟩,fun no d H2 s2 hd=>⟨s2 _ _ upd_same,?_⟩⟩
  ·exact q lo hi ⟨by omega,a,b,tw,na,nb,ea,eb,le⟩ t _ (fun x u hx e=>sd s2 _ _ (sb x u hx e)) (tk2 s2) (at_ s2 ht fun _ z=>by cases z)
  ·refine qe (fun ⟨lo,hi,_,a,b,tw,na,nb,ea,eb,le⟩=>no ⟨lo,hi,a,b,tw,na,nb,ea,eb,le⟩) d _ (fun x u hx e=>sd s2 _ _ (sb x u hx e)) (tk2 s2) (at_ s2 hd fun _ z=>by cases z)
 unfold tCallCX
 walk_at "sv"
 rcases tab with rfl | ⟨c',rfl,hc'⟩
 ·refine ⟨#[],hps,trivial,.inl ⟨rfl,fun h c' o nh nc ne L=>?_⟩⟩
  have ncT:c'≠T:=fun z=>by rw [z,hps] at nc; cases nc
  have nhT:h≠T:=fun z=>by rw [z,hps] at nh; cases nh
  refine key h c' o _ L upd_same ((upd_ne (Ne.symm ne)).trans upd_same) (fun a u ha e=>?_) ⟨_,(upd_ne (Ne.symm nhT)).trans ((upd_ne (Ne.symm ncT)).trans upd_same),.inr ⟨c',rfl,(upd_ne (Ne.symm ne)).trans upd_same⟩⟩
  rw [upd_ne (ne_of_none e nh),upd_ne (ne_of_none e nc),upd_ne ha]
  exact e
 ·refine ⟨_,hps,trivial,.inr ⟨c',rfl,fun h o nh L=>?_⟩⟩
  have s1:=same_new nh (lamO h o)
  exact key h c' o _ L upd_same (s1 _ _ hc') (fun a u _ e=>s1 _ _ e) ⟨_,s1 _ _ hps,.inr ⟨c',rfl,s1 _ _ hc'⟩⟩
end
--CUT--
theorem part_no {x:Str}{c:Nat}(h:c∉x.cps.toList):Txt.partition x ⟨#[c]⟩=(x,Str.empty,Str.empty):=by
 have e:(Builtin.Str.occurrences x ⟨#[c]⟩ 0 x.length 1).isEmpty=true:=by
  have:=StrLaws.found_one x c
  rw [decide_eq_false h] at this
  simpa using this
 unfold Txt.partition
 cases o:Builtin.Str.occurrences x ⟨#[c]⟩ 0 x.length 1 with
 | nil=>rfl
 | cons i r =>
  rw [o] at e
  cases e
theorem drop_until {c:Nat}:∀ {a b:List Nat},c∉a→(a++c::b).dropWhile (· != c)=c::b
 | [],b,_=>by simp
 | z::a,b,h=>by
  rw [List.mem_cons,not_or] at h
  rw [List.cons_append,List.dropWhile_cons]
  rw [if_pos (by simpa using Ne.symm h.1),drop_until h.2]
theorem part_at {x a b:Str}{c:Nat}(l:x.cps.toList=a.cps.toList++c::b.cps.toList)(h:c∉a.cps.toList):Txt.partition x ⟨#[c]⟩=(a,⟨#[c]⟩,b):=by
 have e:(Builtin.Str.occurrences x ⟨#[c]⟩ 0 x.length 1).isEmpty=false:=by
  have:=StrLaws.found_one x c
  rw [l,decide_eq_true (show c∈a.cps.toList++c::b.cps.toList by simp)] at this
  simpa using this
 have f:=from_first_some (x:=x) (y:=⟨#[c]⟩) (z:=⟨#[c]⟩) rfl rfl e
 rw [l,drop_until h] at f
 have sum:=StrLaws.partition_sum x ⟨#[c]⟩
 have p2:(Txt.partition x ⟨#[c]⟩).2.1=⟨#[c]⟩:=by
  unfold Txt.partition
  cases o:Builtin.Str.occurrences x ⟨#[c]⟩ 0 x.length 1 with
  | nil =>
   rw [o] at e
   cases e
  | cons i r=>rfl
 generalize Txt.partition x ⟨#[c]⟩=p at *
 obtain ⟨q1,q2,q3⟩:=p
 have p2:q2=⟨#[c]⟩:=p2
 have sum:q1++q2++q3=x:=sum
 have f':(⟨#[c]⟩++q3:Str)=⟨(c::b.cps.toList).toArray⟩:=eq_of_beq f
 subst p2
 have p3:q3=b:=by
  refine str_ext ?_
  have:=congrArg (fun z:Str=>z.cps.toList) f'
  simp only [app_list] at this
  have this:c::q3.cps.toList=c::b.cps.toList:=this
  exact (List.cons.inj this).2
 subst p3
 have p1:q1=a:=by
  refine str_ext ?_
  have:=congrArg (fun z:Str=>z.cps.toList) sum
  simp only [app_list] at this
  rw [l,List.append_assoc] at this
  have this:q1.cps.toList++c::q3.cps.toList=a.cps.toList++c::q3.cps.toList:=this
  exact List.append_cancel_right this
 subst p1
 rfl
theorem lit_hash:("#":Str)=⟨#[35]⟩:=by decide +kernel
theorem lit_blank:(" ":Str)=⟨#[32]⟩:=by decide +kernel
def neV:V→Bool
 | .str x=>!decide (x=⟨#[]⟩)
 | _=>true
def wordsT (z:Str):List Str:=(Txt.split (Txt.partition z ⟨#[35]⟩).1 ⟨#[32]⟩).filter fun x=>!decide (x=⟨#[]⟩)
def spWordsOf:Sp:=fun vs H Q _=>∃ z:Str,vs=[.str z]∧z.length≤900∧∀ p H',Same H H'→H' p=some (.lst ((wordsT z).map V.str))→Q (.ref p) H'
theorem ok_words (F:Fun K "words_of" "words_of" s_words_of f fd):FnOk P w K mg base CX0 1 f fd ["row"] spWordsOf:=by
 refine F.ok sc_words_of (fun vs H Q E h=>?_) (fun cdv A outer s H vs Q E hr h=>?_)
 ·obtain ⟨_,rfl,_⟩:=h
  rfl
 obtain ⟨z,rfl,hz,q⟩:=h
 refine ⟨_,(@pss_one _ _ _ (@ps_ret _ _ _ _ (@pe_comp _ _ (["word"]) ([]) _ _ _ _ _ _ _ _ _ rfl (COk.of (out:=defScope s_words_of) (N:=["row"]) rfl rfl (by decide +kernel)) (@pi_list _ _ _ _ (@pe_bm _ _ _ _ _ _ _ _ _ _ _ _ PySem.F.plainAttrs_str PySem.F.slot_str_split PySem.F.type_str_split mt_split (@pe_ix _ _ _ _ _ _ _ ix_tup (@pe_bm _ _ _ _ _ _ _ _ _ _ _ _ PySem.F.plainAttrs_str PySem.F.slot_str_partition PySem.F.type_str_partition mt_part (pv 0) (@pa_cons _ _ _ _ _ pe_str pa_nil (by rfl)) (by rfl) (by rfl) (by rfl) (by rfl) (by rfl)) pe_int (fun _ _=>rfl)) (@pa_cons _ _ _ _ _ pe_str pa_nil (by rfl)) (by rfl) (by rfl) (by rfl) (by rfl) (by rfl))) (fun _ _ _=>(@pg_name _ _ (0) _ (show List.Nodup (["word"]:List Str) by decide +kernel) rfl (Or.inl rfl) (by first | exact .inl rfl | exact .inr rfl | assumption))) (fun _ _ _=>(@pifs_one _ _ _ (@pt_cmpR _ _ _ _ _ _ _ _ op_ne (pv 0) pe_str (nomark _)))) (fun _ _ _=>(pv 0)) (by intro _; rfl)))),?_⟩
 rw [st_words_of]
 walk_at "sv"
 rw [lit_hash]
 refine partT_ rfl (by omega) fun p np=>?_
 have s1:=same_new np (.tup [.str (Txt.partition z ⟨#[35]⟩).1,.str (Txt.partition z ⟨#[35]⟩).2.1,.str (Txt.partition z ⟨#[35]⟩).2.2])
 have hp:upd H p (.tup [.str (Txt.partition z ⟨#[35]⟩).1,.str (Txt.partition z ⟨#[35]⟩).2.1,.str (Txt.partition z ⟨#[35]⟩).2.2]) p=some (.tup [.str (Txt.partition z ⟨#[35]⟩).1,.str (Txt.partition z ⟨#[35]⟩).2.1,.str (Txt.partition z ⟨#[35]⟩).2.2]):=upd_same
 generalize upd H p (.tup [.str (Txt.partition z ⟨#[35]⟩).1,.str (Txt.partition z ⟨#[35]⟩).2.1,.str (Txt.partition z ⟨#[35]⟩).2.2])=H1 at *
 have pl:(Txt.partition z ⟨#[35]⟩).1.length≤900:=by
  have:=congrArg Str.length (StrLaws.partition_sum z ⟨#[35]⟩)
  rw [Str.length_append,Str.length_append] at this
  omega
 unfold wordsT at q
 generalize (Txt.partition z ⟨#[35]⟩).1=y at *
 walk_at "sv"
 refine ixT_go (i:=0) (SqT.of hp) rfl ?_
 walk_at "sv"
 rw [lit_blank]
 refine split_ rfl (by omega) fun p2 np2=>?_
 have s2:=same_new np2 (.lst ((Txt.split y ⟨#[32]⟩).map V.str))
 have h2:upd H1 p2 (.lst ((Txt.split y ⟨#[32]⟩).map V.str)) p2=some (.lst ((Txt.split y ⟨#[32]⟩).map V.str)):=upd_same
 generalize upd H1 p2 (.lst ((Txt.split y ⟨#[32]⟩).map V.str))=H2 at *
 have sl:=split_le y ⟨#[32]⟩
 refine IlR.go (SqL.of h2) ?_
 refine CmpR.filt neV id itl (by rw [List.length_map]; omega) (fun H' s=>s.seq (SqL.of h2)) (fun v H' Q' hv s3 kk=>?_) (fun v H' Q' hv hp s3 kk=>?_) fun D H3 nD s3 hD=>?_
 ·obtain ⟨x,hx,rfl⟩:=List.mem_map.mp hv
  walk_at "sv"
  rw [lit_nil]
  exact kk H' (Same.refl _)
 ·walk_at "sv"
  exact kk H' (Same.refl _)
 ·rw [List.map_id] at hD
  refine q D H3 ((s1.trans s2).trans s3) ?_
  rw [hD,List.filter_map]
  rfl
def letsT:Str:="abcdefghijklmnopqrstuvwxyz"
theorem lets_list:letsT.cps.toList=[97,98,99,100,101,102,103,104,105,106,107,108,109,110,111,112,113,114,115,116,117,118,119,120,121,122]:=by decide +kernel
def isLet (c:Nat):Bool:=decide (97≤c) && decide (c≤122)
theorem in_lets (c:Nat):(!(Builtin.Str.occurrences letsT ⟨#[c]⟩ 0 letsT.length 1).isEmpty)=isLet c:=by
 rw [StrLaws.found_one,lets_list,Bool.eq_iff_iff]
 unfold isLet
 rw [Bool.and_eq_true,decide_eq_true_eq,decide_eq_true_eq,decide_eq_true_eq]
 simp only [List.mem_cons,List.not_mem_nil,or_false]
 omega
def inLet:V→V
 | .str y=>.bl (!(Builtin.Str.occurrences letsT y 0 letsT.length 1).isEmpty)
 | _=>.non
theorem map_inLet (z:Str):(signsV z).map inLet=(z.cps.toList.map isLet).map V.bl:=by
 unfold signsV
 rw [List.map_map,List.map_map]
 refine List.map_congr_left fun c _=>?_
 show V.bl _=V.bl _
 rw [in_lets]
def nmOk (z:Str):Bool:=decide (1≤z.length) && (decide (z.length≤12) && (z.cps.toList.map isLet).all id)
def spIsName:Sp:=fun vs H Q _=>∃ z:Str,vs=[.str z]∧z.length≤1000∧∀ H',Same H H'→Q (.bl (nmOk z)) H'
theorem ok_is_name (F:Fun K "is_name" "is_name" s_is_name f fd)(c_L:∃ u,mg "LETTERS"=some u∧RelV (.str letsT) u)(c_M:∃ u,mg "MOST_LETTERS"=some u∧RelV (.int 12) u)(b_len:mg "len"=none)(b_all:mg "all"=none):FnOk P w K mg base CX0 1 f fd ["word"] spIsName:=by
 refine F.ok sc_is_name (fun vs H Q E h=>?_) (fun cdv A outer s H vs Q E hr h=>?_)
 ·obtain ⟨_,rfl,_⟩:=h
  rfl
 obtain ⟨z,rfl,hz,q⟩:=h
 obtain ⟨_,m_LETTERS,r_LETTERS⟩:=c_L
 obtain ⟨_,m_MOST_LETTERS,r_MOST_LETTERS⟩:=c_M
 refine ⟨_,(@pss_one _ _ _ (@ps_ret _ _ _ _ (@pe_and _ _ _ _ _ _ _ (@pe_cmpR _ _ _ _ _ _ _ _ op_le pe_int (@pe_callB _ _ _ _ _ _ _ _ _ call_lenS rfl b_len bo_len (@pa_cons _ _ _ _ _ (pv 0) pa_nil (by rfl)) (by decide) (by decide) (by rfl) (by rfl)) (nomark _)) (@pe_and _ _ _ _ _ _ _ (@pe_cmpR _ _ _ _ _ _ _ _ op_le (@pe_callB _ _ _ _ _ _ _ _ _ call_lenS rfl b_len bo_len (@pa_cons _ _ _ _ _ (pv 0) pa_nil (by rfl)) (by decide) (by decide) (by rfl) (by rfl)) (@pe_glob _ _ _ _ _ rfl m_MOST_LETTERS r_MOST_LETTERS (by decide)) (nomark _)) (@pe_one _ _ _ _ _ (@pe_callB _ _ _ _ _ _ _ _ _ (call_all rfl) rfl b_all bo_all (@pa_cons _ _ _ _ _ (@pe_comp _ _ (["sign"]) ([]) _ _ _ _ _ _ _ _ _ rfl (COk.of (out:=defScope s_is_name) (N:=["word"]) rfl rfl (by decide +kernel)) (@pi_str _ _ _ _ (pv 0)) (fun _ _ _=>(@pg_name _ _ (0) _ (show List.Nodup (["sign"]:List Str) by decide +kernel) rfl (Or.inl rfl) (by first | exact .inl rfl | exact .inr rfl | assumption))) (fun _ _ _=>pifs_nil) (fun _ _ _=>(@pe_cmpR _ _ _ _ _ _ _ _ op_inS (pv 0) (@pe_glob _ _ _ _ _ rfl m_LETTERS r_LETTERS (by decide)) (by with_unfolding_all rfl))) (by intro _; rfl)) pa_nil (by rfl)) (by decide) (by decide) (by rfl) (by rfl))))))),?_⟩
 rw [st_is_name]
 walk_at "sv"
 have k0:∀ b,nmOk z=b→∀ H',Same H H'→Q (.bl b) H':=fun b e H' s'=>e▸q H' s'
 unfold nmOk at k0
 refine lenS_go (by omega) ?_
 walk_at "sv"
 by_cases c1:1≤z.length
 ·rw [decide_eq_true (show (1:Int)≤(z.length:Int) by omega)]
  rw [decide_eq_true c1,Bool.true_and] at k0
  walk_at "sv"
  refine lenS_go (by omega) ?_
  walk_at "sv"
  by_cases c2:z.length≤12
  ·rw [decide_eq_true (show (z.length:Int)≤12 by omega)]
   rw [decide_eq_true c2,Bool.true_and] at k0
   walk_at "sv"
   refine IsR.go ?_
   refine CmpR.mapS inLet itc (by rw [signsV_length]; show z.length≤1000; omega) (fun _ _=>trivial) (fun x H' Q' hx sm q'=>?_) (fun D H1 hD s1 hl1=>?_)
   ·unfold signsV at hx
    obtain ⟨c',_,rfl⟩:=List.mem_map.mp hx
    walk_at "sv"
    exact q' _ (Same.refl _)
   rw [map_inLet] at hl1
   refine all_go (SqL.of hl1) ?_
   exact k0 _ rfl H1 s1
  ·rw [decide_eq_false (show ¬ (z.length:Int)≤12 by omega)]
   rw [decide_eq_false c2,Bool.false_and] at k0
   walk_at "sv"
   exact k0 _ rfl H (Same.refl _)
 ·rw [decide_eq_false (show ¬ (1:Int)≤(z.length:Int) by omega)]
  rw [decide_eq_false c1,Bool.false_and] at k0
  walk_at "sv"
  exact k0 _ rfl H (Same.refl _)
theorem look_no {ps:List (Str×V)}{z:Str}(h:z∉ps.map (·.1)):ps.lookup z=none:=by
 induction ps with
 | nil=>rfl
 | cons p r ih =>
  rw [List.map_cons,List.mem_cons,not_or] at h
  obtain ⟨a,b⟩:=p
  rw [List.lookup_cons,beq_eq_false_iff_ne.mpr h.1]
  exact ih h.2
theorem look_at {ps:List (Str×V)}{z:Str}{v:V}(nd:(ps.map (·.1)).Nodup)(h:(z,v)∈ps):ps.lookup z=some v:=by
 induction ps with
 | nil=>cases h
 | cons p r ih =>
  obtain ⟨a,b⟩:=p
  rw [List.map_cons,List.nodup_cons] at nd
  rw [List.lookup_cons]
  rcases List.mem_cons.mp h with e | h
  ·cases e
   rw [beq_self_eq_true]
  ·rw [beq_eq_false_iff_ne.mpr fun e=>nd.1 (List.mem_map.mpr ⟨(z,v),h,e⟩)]
   exact ih nd.2 h
theorem inRT_go {neg:Bool}{p:Addr}{z:Str}{zs:List Str}{H:Hp}{Q:VK}(h:SqT K H p (zs.map V.str))(q:Q (.bl (if neg then !decide (z∈zs) else decide (z∈zs))) H):InR K neg (.str z) (.ref p) H Q :=
 ⟨p,_,rfl,.inr h,rfl,all_str zs,by rw [inV_str]; exact q⟩
def flatP (ps:List (Str×Str)):List Str:=ps.flatMap fun p=>[p.1,p.2]
theorem flatP_len (ps:List (Str×Str)):(flatP ps).length=2 * ps.length:=by
 induction ps with
 | nil=>rfl
 | cons p r ih =>
  show (p.1::p.2::flatP r).length=_
  rw [List.length_cons,List.length_cons,List.length_cons,ih]
  omega
theorem flatP_at:∀ {ps:List (Str×Str)} {i:Nat} {p:Str×Str},ps[i]?=some p→(flatP ps)[2 * i]?=some p.1∧(flatP ps)[2 * i+1]?=some p.2
 | q::ps,0,p,e=>by
  have e:some q=some p:=e
  cases e
  exact ⟨rfl,rfl⟩
 | q::ps,i+1,p,e=>by
  have ih:=flatP_at (ps:=ps) (i:=i) e
  exact ⟨ih.1,ih.2⟩
def pvs (ps:List (Str×Str)):List (Str×V):=ps.map fun p=>(p.1,.str p.2)
theorem pvs_keys (ps:List (Str×Str)):(pvs ps).map (·.1)=ps.map (·.1):=by
 unfold pvs
 rw [List.map_map]
 rfl
def aOk (x:Str):Bool:=gd (Txt.split x ⟨#[46]⟩)
def aV (x:Str):Int:=addrOf (Txt.split x ⟨#[46]⟩)
def nT (g:Nat)(x:Str):Bool:=nOk g x.cps.toList
theorem lit_slash:("/":Str)=⟨#[47]⟩:=by decide +kernel
theorem addrOf_nn (ws:List Str):0≤addrOf ws:=by
 unfold addrOf
 have:∀ (ws:List Str) (a:Int),0≤a→0≤ws.foldl (fun a x=>a * 256+((NumText.digitsVal x.cps.toList:Nat):Int)) a:=fun ws=>by
  induction ws with
  | nil=>exact fun a h=>h
  | cons x r ih=>exact fun a h=>ih _ (show (0:Int)≤a * 256+((NumText.digitsVal x.cps.toList:Nat):Int) by omega)
 exact this ws 0 (Int.le_refl 0)
def RdsA (z:Str)(lo hi:Int):Prop:=(47∉z.cps.toList∧EndsOk aV (fun x=>aOk x=true) (Txt.split z ⟨#[45]⟩) lo hi) ∨
 ∃ a b:Str,z.cps.toList=a.cps.toList++47::b.cps.toList∧47∉a.cps.toList∧aOk a=true∧nOk 32 b.cps.toList=true∧lowOf (aV a) (numV b)=lo∧lo+SvM.sz (numV b) - 1=hi
theorem first_one {c:Nat}:∀ {a b a' b':List Nat},a++c::b=a'++c::b'→c∉a→c∉a'→a=a'∧b=b'
 | [],b,[],b',e,_,_=>⟨rfl,(List.cons.inj e).2⟩
 | [],b,z::a',b',e,_,h=>absurd (List.mem_cons.mpr (.inl (List.cons.inj e).1)) h
 | z::a,b,[],b',e,h,_=>absurd (List.mem_cons.mpr (.inl (List.cons.inj e).1.symm)) h
 | z::a,b,z'::a',b',e,h,h'=>by
  obtain ⟨e1,e2⟩:=List.cons.inj e
  obtain ⟨r1,r2⟩:=first_one e2 (fun m=>h (List.mem_cons_of_mem _ m)) fun m=>h' (List.mem_cons_of_mem _ m)
  exact ⟨by rw [e1,r1],r2⟩
theorem str_eq {a b:Str}(h:a.cps.toList=b.cps.toList):a=b:=by
 obtain ⟨a⟩:=a
 obtain ⟨b⟩:=b
 exact congrArg Str.mk (Array.toList_inj.mp h)
def spRAs (C:Addr):Sp:=fun vs H Q E=>∃ z:Str,vs=[.str z]∧z.length≤900∧(∀ c∈z.cps.toList,c<16 ^ 8)∧(∀ lo hi,RdsA z lo hi→∀ t H',Same H H'→H' t=some (.tup [.int lo,.int hi])→Q (.ref t) H')∧((¬ ∃ lo hi,RdsA z lo hi)→NoR C H E)
section
variable {C_NoRow:Addr}
theorem ok_raddrs (F:Fun K "read_addresses" "read_addresses" s_read_addresses f fd)(g_read_ends:FnX P w K mg base "read_ends" 5 ["word","read_end"] (spREndsX P w K mg base C_NoRow))(g_read_place:FnX P w K mg base "read_place" 3 ["word"] (spRdPl C_NoRow))(g_read_number:FnX P w K mg base "read_number" 3 ["word","greatest"] (spRdNum C_NoRow))(g_beginning:Fn P w K mg base "beginning" 1 ["address","bits"] spBeg)(c_BITS:∃ u,mg "ADDRESS_BITS"=some u∧RelV (.int 32) u) :
  FnOk P w K mg base (CXe P w) 6 f fd ["word"] (spRAs C_NoRow):=by
 refine fun_okX F sc_read_addresses (fun vs H Q E h=>?_) (fun cdv A outer s H vs Q E hr h=>?_)
 ·obtain ⟨_,rfl,_⟩:=h
  rfl
 obtain ⟨z,rfl,hz,zc,q,qe⟩:=h
 obtain ⟨_,m_ADDRESS_BITS,r_ADDRESS_BITS⟩:=c_BITS
 obtain ⟨v_read_place,m_read_place,hv⟩:=FnX.val g_read_place
 have r_read_place:RelV (.ref v_read_place) (.ref v_read_place):=rfl
 refine ⟨_,(@pss_cons _ _ _ _ _ (@ps_if _ _ _ _ _ _ _ _ (@pt_cmpR _ _ _ _ _ _ _ _ op_notin_str pe_str (pv 0) (by with_unfolding_all rfl)) (@pss_one _ _ _ (@ps_ret _ _ _ _ (@pe_fnX _ _ _ _ _ _ _ _ _ _ _ _ g_read_ends xeOut_cx hr (by decide) rfl (@pa_cons _ _ _ _ _ (pv 0) (@pa_cons _ _ _ _ _ (@pe_glob _ _ _ _ _ rfl m_read_place r_read_place (by decide)) pa_nil (by rfl)) (by rfl)) (by decide) (by rfl) (by rfl)))) pss_nil) (@pss_cons _ _ _ _ _ (@ps_set _ _ (1) _ _ _ _ sc_read_addresses.nd rfl (Or.inl rfl) (@pe_bm _ _ _ _ _ _ _ _ _ _ _ _ PySem.F.plainAttrs_str PySem.F.slot_str_partition PySem.F.type_str_partition mt_part (pv 0) (@pa_cons _ _ _ _ _ pe_str pa_nil (by rfl)) (by rfl) (by rfl) (by rfl) (by rfl) (by rfl)) (by rfl) (by first | exact .inl rfl | exact .inr rfl | assumption)) (@pss_one _ _ _ (@ps_ret _ _ _ _ (@pe_fn _ _ _ _ _ _ _ _ _ _ _ g_beginning hr (by decide) rfl (@pa_cons _ _ _ _ _ (@pe_fnX _ _ _ _ _ _ _ _ _ _ _ _ g_read_place xeOut_cx hr (by decide) rfl (@pa_cons _ _ _ _ _ (@pe_ix _ _ _ _ _ _ _ ix_tup (pv 1) pe_int (fun _ _=>rfl)) pa_nil (by rfl)) (by decide) (by rfl) (by rfl)) (@pa_cons _ _ _ _ _ (@pe_fnX _ _ _ _ _ _ _ _ _ _ _ _ g_read_number xeOut_cx hr (by decide) rfl (@pa_cons _ _ _ _ _ (@pe_ix _ _ _ _ _ _ _ ix_tup (pv 1) pe_int (fun _ _=>rfl)) (@pa_cons _ _ _ _ _ (@pe_glob _ _ _ _ _ rfl m_ADDRESS_BITS r_ADDRESS_BITS (by decide)) pa_nil (by rfl)) (by rfl)) (by decide) (by rfl) (by rfl)) pa_nil (by rfl)) (by rfl)) (by decide) (by rfl) (by rfl)))))),?_⟩
 rw [st_read_addresses]
 walk_at "sv"
 rw [lit_slash]
 refine ⟨_,_,rfl,rfl,?_⟩
 have em:(!!(Builtin.Str.occurrences z ⟨#[47]⟩ 0 z.length 1).isEmpty)=decide (47∉z.cps.toList):=by
  rw [StrLaws.found_one]
  by_cases h:47∈z.cps.toList
  ·rw [decide_eq_true h,decide_eq_false (fun n=>n h)]
   rfl
  ·rw [decide_eq_false h,decide_eq_true h]
   rfl
 rw [em]
 by_cases no:47∈z.cps.toList
 ·rw [decide_eq_false (fun n=>n no)]
  walk_at "sv"
  refine partT_ rfl (by omega) fun p np=>?_
  obtain ⟨a,b,l,na⟩:∃ a b:Str,z.cps.toList=a.cps.toList++47::b.cps.toList∧47∉a.cps.toList:=by
   obtain ⟨as,bs,e,n⟩:=List.eq_append_cons_of_mem no
   exact ⟨⟨as.toArray⟩,⟨bs.toArray⟩,e,n⟩
  rw [part_at l na]
  have s1:=same_new np (.tup [.str a,.str ⟨#[47]⟩,.str b])
  have hp:upd H p (.tup [.str a,.str ⟨#[47]⟩,.str b]) p=some (.tup [.str a,.str ⟨#[47]⟩,.str b]):=upd_same
  generalize upd H p (.tup [.str a,.str ⟨#[47]⟩,.str b])=H1 at *
  have zl:z.length=a.length+(1+b.length):=by
   have e:=congrArg List.length l
   rw [List.length_append,List.length_cons] at e
   rw [str_len,str_len,str_len]
   omega
  have ac:∀ c∈a.cps.toList,c<16 ^ 8:=fun c hc=>zc c (by rw [l]; exact List.mem_append_left _ hc)
  have un:∀ lo hi,RdsA z lo hi→aOk a=true∧nOk 32 b.cps.toList=true:=fun lo hi r=>by
   rcases r with ⟨n,_⟩ | ⟨a',b',l',na',oa,nb,_⟩
   ·exact absurd no n
   ·obtain ⟨e1,e2⟩:=first_one (l.symm.trans l') na na'
    rw [str_eq e1,str_eq e2]
    exact ⟨oa,nb⟩
  walk_at "sv"
  refine ixT_go (i:=0) (SqT.of hp) rfl ?_
  refine ⟨a,rfl,by omega,ac,fun oa H2 s2=>?_,fun no2=>(qe fun ⟨lo,hi,r⟩=>?_).on s1⟩
  rotate_left
  ·have:=(un lo hi r).1
   rw [show aOk a=false from no2] at this
   cases this
  walk_at "sv"
  refine ixT_go (i:=2) (SqT.of (s2 _ _ hp)) rfl ?_
  refine ⟨b,32,rfl,by decide,by omega,fun nb H3 s3=>?_,fun no2=>(qe fun ⟨lo,hi,r⟩=>?_).on (s1.trans s2)⟩
  rotate_left
  ·have:=(un lo hi r).2
   rw [no2] at this
   cases this
  have n4:=(nOk_parts nb).2.2.2
  refine ⟨aV a,numV b,rfl,addrOf_nn _,by unfold numV; omega,by unfold numV; omega,fun t nt=>?_⟩
  exact q _ _ (.inr ⟨a,b,l,na,oa,nb,rfl,rfl⟩) t _ ((s1.trans (s2.trans s3)).trans (same_new nt _)) upd_same
 ·rw [decide_eq_true no]
  walk_at "sv"
  refine ⟨z,v_read_place,aV,fun x=>aOk x=true,rfl,hz,zc,fun H' s'=>⟨(hv H').1,((hv H').2.up (by decide)).imp fun vs Q E h=>?_⟩,fun lo hi e t H' s' ht=>q lo hi (.inl ⟨no,e⟩) t H' s' ht,fun ne=>qe fun ⟨lo,hi,r⟩=>?_⟩
  ·obtain ⟨x,rfl,x1,x2,q,qe⟩:=h
   exact ⟨x,rfl,by omega,x2,q,fun z=>qe fun xo=>by rw [show gd (Txt.split x ⟨#[46]⟩)=true from xo] at z; cases z⟩
  ·rcases r with ⟨_,e⟩ | ⟨a,b,l,_⟩
   ·exact ne ⟨lo,hi,e⟩
   ·exact no (by rw [l]; simp)
end
def PairsOk (pws ws:List Str)(ps:List (Str×Str)):Prop:=ws=flatP ps∧(∀ p∈ps,p.1∈pws)∧(ps.map (·.1)).Nodup
theorem flatP_inj:∀ {ps qs:List (Str×Str)},flatP ps=flatP qs→ps=qs
 | [],[],_=>rfl
 | [],q::qs,e=>by cases e
 | p::ps,[],e=>by cases e
 | (a,b)::ps,(c,d)::qs,e=>by
  have e:a::b::flatP ps=c::d::flatP qs:=e
  obtain ⟨e1,e⟩:=List.cons.inj e
  obtain ⟨e2,e⟩:=List.cons.inj e
  rw [e1,e2,flatP_inj e]
theorem flatP_of:∀ (n:Nat) (ws:List Str),ws.length=2 * n→∃ ps,ws=flatP ps∧ps.length=n
 | 0,ws,h=>⟨[],List.eq_nil_of_length_eq_zero (by omega),rfl⟩
 | n+1,a::b::ws,h=>by
  obtain ⟨ps,e,l⟩:=flatP_of n ws (by simp at h; omega)
  exact ⟨(a,b)::ps,by rw [e]; rfl,by rw [List.length_cons,l]⟩
 | n+1,[a],h=>by simp at h; omega
 | n+1,[],h=>by simp at h
def spPV (K:PySem.W.Frag)(C:Addr):Sp:=fun vs H Q E=>∃ (l pw:Addr) (ws pws:List Str),vs=[.ref l,.ref pw]∧SqL K H l (ws.map V.str)∧SqT K H pw (pws.map V.str)∧ws.length≤200∧(∀ ps,PairsOk pws ws ps→∀ d H',H d=none→Same H H'→H' d=some (.dK (Dk (pvs ps)))→Q (.ref d) H')∧((¬ ∃ ps,PairsOk pws ws ps)→NoR C H E)
section
variable {C_NoRow:Addr}
theorem ok_pv (F:Fun K "pair_values" "pair_values" s_pair_values f fd)(X_NoRow:XcI P w K mg base "NoRow" C_NoRow 1 ["self","row"] (spXRow C_NoRow))(c_ALONE:∃ u,mg "ALONE"=some u∧RelV (.int 1) u)(b_len:mg "len"=none)(b_range:mg "range"=none):FnOk P w K mg base (CXe P w) 3 f fd ["words","pair_words"] (spPV K C_NoRow):=by
 obtain ⟨_,m_ALONE,r_ALONE⟩:=c_ALONE
 obtain ⟨N_NoRow,i_NoRow,fd_NoRow,O_NoRow,G_NoRow,B_NoRow⟩:=X_NoRow.ex
 refine fun_okU F sc_pair_values (fun vs H Q E h=>?_) (fun cdv A outer s H vs Q E hr h=>?_)
 ·obtain ⟨_,_,_,_,rfl,_⟩:=h
  rfl
 obtain ⟨l,pw,ws,pws,rfl,hl,hpw,few,q,qe⟩:=h
 refine ⟨_,(@pss_cons _ _ _ _ _ (@ps_if _ _ _ _ _ _ _ _ (@pt_cmpR _ _ _ _ _ _ _ _ op_eq (@pe_op _ _ _ _ _ _ _ _ op_mod (@pe_callB _ _ _ _ _ _ _ _ _ call_lenR rfl b_len bo_len (@pa_cons _ _ _ _ _ (pv 0) pa_nil (by rfl)) (by decide) (by decide) (by rfl) (by rfl)) pe_int) pe_int (nomark _)) (@pss_one _ _ _ (@ps_raiseIU _ _ _ _ _ _ _ _ _ _ _ _ _ _ _ _ (xeU_up ⟨rfl,rfl,rfl⟩ rfl) O_NoRow G_NoRow (hr.mono (by decide)) B_NoRow rfl rfl (@pa_cons _ _ _ _ _ (@pe_glob _ _ _ _ _ rfl m_ALONE r_ALONE (by decide)) pa_nil (by rfl)) (by decide) (by rfl) (by rfl))) pss_nil) (@pss_cons _ _ _ _ _ (@ps_set _ _ (2) _ _ _ _ sc_pair_values.nd rfl (Or.inl rfl) pe_dnewK (by rfl) (by first | exact .inl rfl | exact .inr rfl | assumption)) (@pss_cons _ _ _ _ _ (@ps_for _ _ _ _ _ _ _ _ (pass_up ⟨rfl,rfl,rfl⟩ rfl) rfl (@pi_range3 _ _ _ _ _ _ _ _ rfl b_range (@pa_cons _ _ _ _ _ pe_int (@pa_cons _ _ _ _ _ (@pe_callB _ _ _ _ _ _ _ _ _ call_lenR rfl b_len bo_len (@pa_cons _ _ _ _ _ (pv 0) pa_nil (by rfl)) (by decide) (by decide) (by rfl) (by rfl)) (@pa_cons _ _ _ _ _ pe_int pa_nil (by rfl)) (by rfl)) (by rfl)) (by rfl) (by rfl)) (@pg_name _ _ (3) _ sc_pair_values.nd rfl (Or.inl rfl) (by first | exact .inl rfl | exact .inr rfl | assumption)) (@pss_cons _ _ _ _ _ (@ps_set _ _ (4) _ _ _ _ sc_pair_values.nd rfl (Or.inl rfl) (@pe_ix _ _ _ _ _ _ _ ix_list (pv 0) (pv 3) (fun _ _=>rfl)) (by rfl) (by first | exact .inl rfl | exact .inr rfl | assumption)) (@pss_cons _ _ _ _ _ (@ps_if _ _ _ _ _ _ _ _ (@PW.pt _ _ _ (@pw_or _ _ _ _ _ _ _ (@pt_cmpR _ _ _ _ _ _ _ _ (op_notinL (K:=K) rfl) (pv 4) (pv 1) (by with_unfolding_all rfl)) (@pw_or1 _ _ _ _ (@pt_cmp _ _ _ _ _ _ (@pc_din _ _ _ _ _ (hu_of hr) (pv 4) (pv 2)) (by with_unfolding_all rfl))))) (@pss_one _ _ _ (@ps_raiseIU _ _ _ _ _ _ _ _ _ _ _ _ _ _ _ _ (xeU_up ⟨rfl,rfl,rfl⟩ rfl) O_NoRow G_NoRow (hr.mono (by decide)) B_NoRow rfl rfl (@pa_cons _ _ _ _ _ (@pe_glob _ _ _ _ _ rfl m_ALONE r_ALONE (by decide)) pa_nil (by rfl)) (by decide) (by rfl) (by rfl))) pss_nil) (@pss_one _ _ _ (@ps_dput _ _ _ _ _ _ _ _ _ (hu_of hr) (pv 2) (pv 4) (@pe_ix _ _ _ _ _ _ _ ix_list (pv 0) (@pe_op _ _ _ _ _ _ _ _ op_add (pv 3) pe_int) (fun _ _=>rfl)) rfl)))) (by intro _; rfl)) (@pss_one _ _ _ (@ps_ret _ _ _ _ (pv 2)))))),?_⟩
 rw [st_pair_values]
 walk_at "sv"
 refine LenR.lst hl ?_
 rw [List.length_map]
 walk_at "sv"
 refine ⟨by decide,?_⟩
 by_cases odd:ws.length % 2=1
 ·rw [decide_eq_true (show ((ws.length:Nat):Int) % 2=1 by omega)]
  walk_at "sv"
  refine raiseRow (qe ?_)
  rintro ⟨ps,e,_⟩
  rw [e,flatP_len] at odd
  omega
 rw [decide_eq_false (show ¬ ((ws.length:Nat):Int) % 2=1 by omega)]
 walk_at "sv"
 obtain ⟨ps,rfl,pl⟩:=flatP_of (ws.length / 2) ws (by omega)
 have fl:=flatP_len ps
 intro d nd0
 have s1:=same_new nd0 (.dK [])
 have hd1:upd H d (.dK []) d=some (.dK (Dk (pvs (ps.take 0)))):=upd_same
 generalize upd H d (.dK [])=H1 at *
 walk_at "sv"
 refine LenR.lst (s1.seq hl) ?_
 rw [List.length_map,fl]
 refine Rng3R.go (by omega) (by omega) ?_
 have ev:evens ((2 * ps.length:Nat):Int)=ps.length:=by
  unfold evens
  omega
 rw [ev]
 have frd:∀ {H':Hp},(∀ a o,a≠d→H1 a=some o→H' a=some o)→Same H H':=fun k a o e=>k a o (ne_of_none e nd0) (s1 a o e)
 refine ForR.step (fun i σ H'=>(∀ a o,a≠d→H1 a=some o→H' a=some o)∧H' d=some (.dK (Dk (pvs (ps.take i))))∧(∀ p∈ps.take i,p.1∈pws)∧((ps.take i).map (·.1)).Nodup∧∃ y1 y2,σ=[some (.ref l),some (.ref pw),some (.ref d),y1,y2]) ⟨fun a o _ e=>e,hd1,fun _ z=>by simp at z,by simp,_,_,rfl⟩ (fun i σ H2 hi pv=>?_) (fun σ H2 pv=>?_)
 ·obtain ⟨kp,hd2,ins,ndp,y1,y2,rfl⟩:=pv
  obtain ⟨p,ep⟩:∃ p,ps[i]?=some p:=⟨ps[i],List.getElem?_eq_getElem hi⟩
  obtain ⟨e1,e2⟩:=flatP_at ep
  have s2:=frd kp
  rw [show (0:Int)+(i:Int) * 2=((2 * i:Nat):Int) by omega]
  walk_at "sv"
  refine ixL_go (i:=2 * i) (s2.seq hl) (by rw [List.getElem?_map,e1]; rfl) ?_
  walk_at "sv"
  refine inRT_go (s2.seqT hpw) ?_
  rw [if_pos rfl]
  by_cases c1:p.1∈pws
  rotate_left
  ·rw [decide_eq_false c1]
   walk_at "sv"
   refine raiseRow ((qe ?_).on s2)
   rintro ⟨qs,e,ins',_⟩
   rw [← flatP_inj e] at ins'
   exact c1 (ins' p (List.mem_of_getElem? ep))
  rw [decide_eq_true c1]
  walk_at "sv"
  by_cases c2:p.1∈(ps.take i).map (·.1)
  ·refine dinR_go (.inl hd2) ?_
   obtain ⟨v,lk⟩:∃ v,(pvs (ps.take i)).lookup p.1=some v:=by
    obtain ⟨r,hr',er⟩:=List.mem_map.mp c2
    exact ⟨.str r.2,look_at (by rw [pvs_keys]; exact ndp) (by rw [← er]; exact List.mem_map.mpr ⟨r,hr',rfl⟩)⟩
   rw [lk,Option.isSome_some]
   walk_at "sv"
   refine raiseRow ((qe ?_).on s2)
   rintro ⟨qs,e,_,nd'⟩
   rw [← flatP_inj e,← List.take_append_drop i ps,List.map_append,← List.getElem_cons_drop hi,List.map_cons] at nd'
   have ee:ps[i]=p:=by
    rw [List.getElem?_eq_getElem hi] at ep
    exact Option.some.inj ep
   rw [ee] at nd'
   exact (List.nodup_append.mp nd').2.2 _ c2 _ List.mem_cons_self rfl
  have new:p.1∉(pvs (ps.take i)).map (·.1):=by
   rw [pvs_keys]
   exact c2
  refine dinR_go (.inl hd2) ?_
  rw [look_no new]
  walk_at "sv"
  rw [Option.isSome_none]
  walk_at "sv"
  rw [show ((2 * i:Nat):Int)+1=((2 * i+1:Nat):Int) from rfl]
  refine ixL_go (i:=2 * i+1) (s2.seq hl) (by rw [List.getElem?_map,e2]; rfl) ?_
  refine dputR_go hd2 (look_no new) (by unfold pvs; rw [List.length_map,List.length_take]; omega) ?_
  have et:ps.take (i+1)=ps.take i++[p]:=by rw [List.take_add_one,ep,Option.toList_some]
  refine ⟨fun a o n e=>by rw [upd_ne n]; exact kp a o n e,?_,?_,?_,_,_,rfl⟩
  ·rw [upd_same,et]
   unfold pvs
   rw [List.map_append]
   rfl
  ·intro r hr'
   rw [et] at hr'
   rcases List.mem_append.mp hr' with z | z
   ·exact ins r z
   ·rw [List.mem_singleton.mp z]
    exact c1
  ·rw [et,List.map_append]
   refine List.nodup_append.mpr ⟨ndp,by simp,fun a ha b hb e=>?_⟩
   rw [List.map_singleton,List.mem_singleton] at hb
   rw [e,hb] at ha
   exact c2 ha
 ·obtain ⟨kp,hd2,ins,ndp,y1,y2,rfl⟩:=pv
  rw [List.take_length] at hd2 ins ndp
  walk_at "sv"
  exact q ps ⟨rfl,ins,ndp⟩ d H2 nd0 (frd kp) hd2
end
--CUT--
def dl (H:Hp)(l:Addr):Hp:=fun b=>if b=l then none else H b
theorem dl_some {H:Hp}{l a:Addr}{o:HO}(e:dl H l a=some o):a≠l∧H a=some o:=by
 unfold dl at e
 split at e
 ·cases e
 ·exact ⟨‹_›,e⟩
theorem dl_of {H:Hp}{l a:Addr}{o:HO}(n:a≠l)(e:H a=some o):dl H l a=some o:=(if_neg n).trans e
theorem dl_upd {H:Hp}{l:Addr}{o:HO}:dl (upd H l o) l=dl H l:=by
 funext b
 unfold dl
 split
 ·rfl
 ·exact upd_ne ‹_›
theorem TabOk.same {T:Addr}{H H':Hp}(h:TabOk T H)(s:Same H H'):TabOk T H':=by
 obtain ⟨ps,e,r⟩:=h
 refine ⟨ps,s _ _ e,?_⟩
 rcases r with r | ⟨c,r,e2⟩
 ·exact .inl r
 ·exact .inr ⟨c,r,s _ _ e2⟩
theorem TabOk.put {T l:Addr}{H:Hp}{xs ys:List V}(h:TabOk T H)(hl:H l=some (.lst xs)):TabOk T (upd H l (.lst ys)):=by
 have ne:∀ a φ,H a=some (.ext φ)→a≠l:=fun a φ e z=>by
  rw [z,hl] at e
  cases e
 obtain ⟨ps,e,r⟩:=h
 refine ⟨ps,(upd_ne (ne _ _ e)).trans e,?_⟩
 rcases r with r | ⟨c,r,e2⟩
 ·exact .inl r
 ·exact .inr ⟨c,r,(upd_ne (ne _ _ e2)).trans e2⟩
theorem SameB.trans {T:Addr}{H H' H'':Hp}(a:SameB T H H')(b:SameB T H' H''):SameB T H H'':=fun x o n e=>b x o n (a x o n e)
theorem Same.sb {T:Addr}{H H':Hp}(s:Same H H'):SameB T H H':=fun x o _ e=>s x o e
theorem SameB.cut {T l:Addr}{H H':Hp}(s:SameB T H H'):SameB T (dl H l) (dl H' l):=fun x o n e=>by
 obtain ⟨h1,h2⟩:=dl_some e
 exact dl_of h1 (s x o n h2)
theorem NoRT.on {C T:Addr}{H H1:Hp}{E:XK}(q:NoRT C T H E)(s:SameB T H H1):NoRT C T H1 E:=fun d H' s' tk h=>q d H' (s.trans s') tk h
theorem NoRT.nor {C T:Addr}{H:Hp}{E:XK}(q:NoRT C T H E)(tk:TabOk T H):NoR C H E:=fun d H' s' h=>q d H' (Same.sb s') (tk.same s') h
theorem SameB.seqL {T l:Addr}{H H':Hp}{xs:List V}(s:SameB T H H')(tk:TabOk T H)(h:SqL K H l xs):SqL K H' l xs:=by
 obtain ⟨qs,e2,_⟩:=tk
 have ne:∀ u,H l=some u→(∀ φ,u≠.ext φ)→l≠T:=fun u e n z=>by
  rw [z,e2] at e
  exact n _ (Option.some.inj e).symm
 rcases h with (h | ⟨o,h⟩) | h
 ·exact .inl (.inl (s _ _ (ne _ h fun _ z=>by cases z) h))
 ·exact .inl (.inr ⟨o,s _ _ (ne _ h fun _ z=>by cases z) h⟩)
 ·exact .inr h
theorem SameB.tup {T a:Addr}{H H':Hp}{xs:List V}(s:SameB T H H')(tk:TabOk T H)(h:H a=some (.tup xs)):H' a=some (.tup xs):=s a _ (fun z=>by
 obtain ⟨qs,e2,_⟩:=tk
 rw [z,e2] at h
 cases h) h
theorem SameB.seqT {T a:Addr}{H H':Hp}{xs:List V}(s:SameB T H H')(tk:TabOk T H)(h:SqT K H a xs):SqT K H' a xs:=by
 obtain ⟨qs,e2,_⟩:=tk
 have ne:∀ u,H a=some u→(∀ φ,u≠.ext φ)→a≠T:=fun u e n z=>by
  rw [z,e2] at e
  exact n _ (Option.some.inj e).symm
 rcases h with (h | ⟨o,h⟩) | h
 ·exact .inl (.inl (s _ _ (ne _ h fun _ z=>by cases z) h))
 ·exact .inl (.inr ⟨o,s _ _ (ne _ h fun _ z=>by cases z) h⟩)
 ·exact .inr h
def adrWs:List Str:=["from","to"]
def StrW (wd:Str)(top:Int×Int)(z:Str)(b:Int×Int):Prop:=if wd∈adrWs then RdsA z b.1 b.2 else RdsN top.2.toNat z b.1 b.2
theorem strW_a {wd z:Str}{top b:Int×Int}(c:wd∈adrWs):StrW wd top z b=RdsA z b.1 b.2:=if_pos c
theorem strW_n {wd z:Str}{top b:Int×Int}(c:wd∉adrWs):StrW wd top z b=RdsN top.2.toNat z b.1 b.2:=if_neg c
def At1 (ps:List (Str×Str))(wd:Str)(top b:Int×Int):Prop:=(wd∉ps.map (·.1)∧b=top)∨∃ z,(wd,z)∈ps∧StrW wd top z b
def BoxG (pws:List Str)(tops:List (Int×Int))(ps:List (Str×Str))(bs:List (Int×Int)):Prop:=bs.length=pws.length∧∀ (i:Nat) (wd:Str) (top b:Int×Int),pws[i]?=some wd→tops[i]?=some top→bs[i]?=some b→At1 ps wd top b
theorem key_one {ps:List (Str×Str)}{k a b:Str}(nd:(ps.map (·.1)).Nodup)(h1:(k,a)∈ps)(h2:(k,b)∈ps):a=b:=by
 have e1:=look_at (ps:=pvs ps) (by rw [pvs_keys]; exact nd) (List.mem_map.mpr ⟨(k,a),h1,rfl⟩)
 have e2:=look_at (ps:=pvs ps) (by rw [pvs_keys]; exact nd) (List.mem_map.mpr ⟨(k,b),h2,rfl⟩)
 have e1:(pvs ps).lookup k=some (.str a):=e1
 have e2:(pvs ps).lookup k=some (.str b):=e2
 rw [e1] at e2
 cases e2
 rfl
def spRPairs (K:PySem.W.Frag)(C T:Addr):Sp:=fun vs H Q E=>∃ (l pw bx:Addr) (ws pws:List Str) (tops:List (Int×Int)),vs=[.ref l,.ref pw,.ref bx]∧SqL K H l (ws.map V.str)∧SqT K H pw (pws.map V.str)∧IsBox H bx tops∧tops.length=pws.length∧pws.length≤6∧(∀ t∈tops,0≤t.2∧t.2<10 ^ 10)∧ws.length≤200∧(∀ x∈ws,x.length≤900∧∀ c∈x.cps.toList,c<16 ^ 8)∧TabOk T H ∧
 (∀ ps bs,PairsOk pws ws ps→BoxG pws tops ps bs→∀ t H',SameB T H H'→TabOk T H'→IsBox H' t bs→Q (.ref t) H')∧((¬ ∃ ps bs,PairsOk pws ws ps∧BoxG pws tops ps bs)→NoRT C T H E)
section
variable {C_NoRow:Addr}
theorem ok_rpairs {T:Addr}(F:Fun K "read_pairs" "read_pairs" s_read_pairs f fd)(g_pair_values:FnX P w K mg base "pair_values" 3 ["words","pair_words"] (spPV K C_NoRow))(g_read_addresses:FnX P w K mg base "read_addresses" 6 ["word"] (spRAs C_NoRow))(g_read_numbers:FnX P w K mg base "read_numbers" 6 ["word","greatest"] (spRNs C_NoRow T))(c_ADR:∃ a,mg "ADDRESS_WORDS"=some (.ref a)∧∀ H,SqT K H a (adrWs.map V.str))(b_zip:mg "zip"=none)(b_tuple:mg "tuple"=none):FnOk P w K mg base (CXe P w) 7 f fd ["words","pair_words","whole_box"] (spRPairs K C_NoRow T):=by
 refine fun_okU F sc_read_pairs (fun vs H Q E h=>?_) (fun cdv A outer s H vs Q E hr h=>?_)
 ·obtain ⟨_,_,_,_,_,_,rfl,_⟩:=h
  rfl
 obtain ⟨l,pw,bx,ws,pws,tops,rfl,hl,hpw,hbx,tl,p6,tb,few,wok,tab,q,qe⟩:=h
 obtain ⟨aaw,m_ADDRESS_WORDS,haw⟩:=c_ADR
 have r_ADDRESS_WORDS:RelV (.ref aaw) (.ref aaw):=rfl
 refine ⟨_,(@pss_cons _ _ _ _ _ (@ps_set _ _ (3) _ _ _ _ sc_read_pairs.nd rfl (Or.inl rfl) (pe_fnU g_pair_values (xeU_up ⟨rfl,rfl,rfl⟩ rfl) hr (by decide) rfl (@pa_cons _ _ _ _ _ (pv 0) (@pa_cons _ _ _ _ _ (pv 1) pa_nil (by rfl)) (by rfl))) (by rfl) (by first | exact .inl rfl | exact .inr rfl | assumption)) (@pss_cons _ _ _ _ _ (@ps_set _ _ (4) _ _ _ _ sc_read_pairs.nd rfl (Or.inl rfl) (@pe_lst _ _ _ _ pa_nil) (by rfl) (by first | exact .inl rfl | exact .inr rfl | assumption)) (@pss_cons _ _ _ _ _ (@ps_for _ _ _ _ _ _ _ _ (pass_up ⟨rfl,rfl,rfl⟩ rfl) rfl (@pi_zip _ _ _ _ _ _ _ _ _ rfl b_zip (@pa_cons _ _ _ _ _ (pv 1) (@pa_cons _ _ _ _ _ (pv 2) pa_nil (by rfl)) (by rfl)) (by rfl) (by rfl)) (@pg_tup _ _ _ _ _ _ rfl (@pgs_cons _ _ _ _ _ (@pg_name _ _ (5) _ sc_read_pairs.nd rfl (Or.inl rfl) (by first | exact .inl rfl | exact .inr rfl | assumption)) (@pgs_cons _ _ _ _ _ (@pg_name _ _ (6) _ sc_read_pairs.nd rfl (Or.inl rfl) (by first | exact .inl rfl | exact .inr rfl | assumption)) pgs_nil (by rfl)) (by rfl)) (by rfl) (by rfl)) (@pss_one _ _ _ (@ps_if _ _ _ _ _ _ _ _ (@pt_cmp _ _ _ _ _ _ (@pc_dnotin _ _ _ _ _ (hu_of hr) (pv 5) (pv 3)) (by with_unfolding_all rfl)) (@pss_one _ _ _ (@ps_expr _ _ _ _ (@pe_bm _ _ _ _ _ _ _ _ _ _ _ _ PySem.F.plainAttrs_list PySem.F.slot_list_append PySem.F.type_list_append mt_append (pv 4) (@pa_cons _ _ _ _ _ (pv 6) pa_nil (by rfl)) (by rfl) (by rfl) (by rfl) (by rfl) (by rfl)) (by rfl))) (@pss_one _ _ _ (@ps_if _ _ _ _ _ _ _ _ (@pt_cmpR _ _ _ _ _ _ _ _ (op_inL (K:=K) rfl) (pv 5) (@pe_glob _ _ _ _ _ rfl m_ADDRESS_WORDS r_ADDRESS_WORDS (by decide)) (by with_unfolding_all rfl)) (@pss_one _ _ _ (@ps_expr _ _ _ _ (@pe_bm _ _ _ _ _ _ _ _ _ _ _ _ PySem.F.plainAttrs_list PySem.F.slot_list_append PySem.F.type_list_append mt_append (pv 4) (@pa_cons _ _ _ _ _ (pe_fnU g_read_addresses (xeU_up ⟨rfl,rfl,rfl⟩ rfl) hr (by decide) rfl (@pa_cons _ _ _ _ _ (@pe_dget _ _ _ _ _ _ (hu_of hr) (pv 3) (pv 5) (fun _ _=>rfl)) pa_nil (by rfl))) pa_nil (by rfl)) (by rfl) (by rfl) (by rfl) (by rfl) (by rfl)) (by rfl))) (@pss_one _ _ _ (@ps_expr _ _ _ _ (@pe_bm _ _ _ _ _ _ _ _ _ _ _ _ PySem.F.plainAttrs_list PySem.F.slot_list_append PySem.F.type_list_append mt_append (pv 4) (@pa_cons _ _ _ _ _ (pe_fnU g_read_numbers (xeU_up ⟨rfl,rfl,rfl⟩ rfl) hr (by decide) rfl (@pa_cons _ _ _ _ _ (@pe_dget _ _ _ _ _ _ (hu_of hr) (pv 3) (pv 5) (fun _ _=>rfl)) (@pa_cons _ _ _ _ _ (@pe_ix _ _ _ _ _ _ _ ix_tup (pv 6) pe_int (fun _ _=>rfl)) pa_nil (by rfl)) (by rfl))) pa_nil (by rfl)) (by rfl) (by rfl) (by rfl) (by rfl) (by rfl)) (by rfl))))))) (by intro _; rfl)) (@pss_one _ _ _ (@ps_ret _ _ _ _ (@pe_callTy _ _ _ _ _ _ _ _ _ call_tupleR rfl b_tuple bo_tuple (@pa_cons _ _ _ _ _ (pv 4) pa_nil (by rfl)) (by decide) (by decide) (by rfl) (by rfl))))))),?_⟩
 rw [st_read_pairs]
 walk_at "sv"
 refine ⟨l,pw,ws,pws,rfl,hl,hpw,few,fun ps pok d H1 nd1 s1 hd1=>?_,fun no=>(qe fun ⟨ps,bs,r,_⟩=>no ⟨ps,r⟩).nor tab⟩
 obtain ⟨rfl,ins,nd⟩:=pok
 walk_at "sv"
 refine LstR.go (by simp) fun o no=>?_
 have s2:=same_new no (.lst [])
 have ho2:upd H1 o (.lst []) o=some (.lst []):=upd_same
 generalize upd H1 o (.lst [])=H2 at *
 have s02:=s1.trans s2
 obtain ⟨us,hus,stu⟩:=hbx.same s02
 have lu:us.length=pws.length:=by rw [stu.len]; exact tl
 refine ZipR.go (s02.seqT hpw) (SqT.of hus) ?_
 have noT:o≠T:=fun z=>by
  obtain ⟨qs,e,_⟩:=tab
  rw [z,s1 _ _ e] at no
  cases no
 have ndT:d≠T:=fun z=>by
  obtain ⟨qs,e,_⟩:=tab
  rw [z,e] at nd1
  cases nd1
 have ndo:d≠o:=ne_of_none hd1 no
 have hd2:=s2 _ _ hd1
 have tab2:=tab.same s02
 have back:∀ {H':Hp},SameB T (dl H2 o) (dl H' o)→SameB T H H':=fun sb a u ha e=>(dl_some (sb a u ha (dl_of (ne_of_none (s1 _ _ e) no) (s02 _ _ e)))).2
 have tup2:∀ {a:Addr} {xs:List V} {H':Hp},SameB T (dl H2 o) (dl H' o)→H2 a=some (.tup xs)→H' a=some (.tup xs):=fun {a xs H'} sb e=>(dl_some (sb _ _ (fun z=>by
  obtain ⟨qs,e2,_⟩:=tab2
  rw [z,e2] at e
  cases e) (dl_of (fun z=>by rw [z,ho2] at e; cases e) e))).2
 refine ForR.pairs (itz (xs:=pws.map V.str) (ys:=us)) (fun i σ H'=>SameB T (dl H2 o) (dl H' o)∧TabOk T H'∧∃ (bs:List (Int×Int)) (xs:List V) (y1 y2:Option V),H' o=some (.lst xs)∧Strs H' xs bs∧bs.length=i∧(∀ (j:Nat) (wd:Str) (top b:Int×Int),pws[j]?=some wd→tops[j]?=some top→bs[j]?=some b→At1 ps wd top b)∧σ=[some (.ref l),some (.ref pw),some (.ref bx),some (.ref d),some (.ref o),y1,y2]) ⟨fun a u _ e=>e,tab2,[],[],_,_,ho2,.nil,rfl,fun j wd top b _ _ z=>by simp at z,rfl⟩ (fun i σ H' pv=>⟨(back pv.1).seqT tab hpw,SqT.of (tup2 pv.1 hus)⟩) (fun i y tt σ H3 hy pv nt=>?_) (fun σ H3 pv=>?_)
 ·obtain ⟨sb,tk,bs,xs,y1,y2,ho3,st3,bl,al,rfl⟩:=pv
  obtain ⟨e1,e2⟩:=List.getElem?_zip_eq_some.mp hy
  obtain ⟨x,w⟩:=y
  have e1:(pws.map V.str)[i]?=some x:=e1
  have e2:us[i]?=some w:=e2
  rw [List.getElem?_map] at e1
  obtain ⟨wd,ew,rfl⟩:=Option.map_eq_some_iff.mp e1
  obtain ⟨za,lo2,hi2,rfl,eb2,hza⟩:=stu.at e2
  have li:i<pws.length:=(List.getElem?_eq_some_iff.mp ew).1
  have sT:=same_new nt (.tup [.str wd,.ref za])
  have hza':=sT _ _ (tup2 sb hza)
  have hd3:=sT _ _ (dl_some (sb _ _ ndT (dl_of ndo hd2))).2
  have ho3':=sT _ _ ho3
  have tk':=tk.same sT
  have xl:xs.length=i:=by
   rw [st3.len,bl]
  have toH:SameB T H (upd H3 tt (.tup [.str wd,.ref za])):=(back sb).trans (Same.sb sT)
  have fin:∀ (H5:Hp) (t:Addr) (b:Int×Int) (z:L2.St),At1 ps wd (lo2,hi2) b→SameB T (upd H3 tt (.tup [.str wd,.ref za])) H5→TabOk T H5→H5 t=some (.tup [.int b.1,.int b.2])→z=[some (.ref l),some (.ref pw),some (.ref bx),some (.ref d),some (.ref o),some (.str wd),some (.ref za)]→rAppend (.ref o) [.ref t] H5 (fun _ H6=>SameB T (dl H2 o) (dl H6 o)∧TabOk T H6∧∃ (bs:List (Int×Int)) (xs:List V) (y1 y2:Option V),H6 o=some (.lst xs)∧Strs H6 xs bs∧bs.length=i+1∧(∀ (j:Nat) (wd:Str) (top b:Int×Int),pws[j]?=some wd→tops[j]?=some top→bs[j]?=some b→At1 ps wd top b)∧z=[some (.ref l),some (.ref pw),some (.ref bx),some (.ref d),some (.ref o),y1,y2]):=fun H5 t b z a1 sb5 tk5 ht ez=>by
   have ho5:=sb5 o _ noT ho3'
   refine app_go ho5 (by omega) ?_
   have tpu:∀ a ys,H5 a=some (.tup ys)→upd H5 o (.lst (xs++[.ref t])) a=some (.tup ys):=fun a ys e=>(upd_ne fun z=>by
    rw [z,ho5] at e
    cases e).trans e
   refine ⟨?_,tk5.put ho5,bs++[b],xs++[.ref t],_,_,upd_same,?_,?_,?_,ez⟩
   ·rw [dl_upd]
    exact sb.trans ((Same.sb sT).trans sb5).cut
   ·exact (st3.mono fun a ys e=>tpu a ys (sb5.tup tk' (sT _ _ e))).snoc (tpu _ _ ht)
   ·rw [List.length_append,bl]
    rfl
   ·intro j wd' top b' f1 f2 f3
    by_cases cj:j<i
    ·rw [List.getElem?_append_left (by omega)] at f3
     exact al j wd' top b' f1 f2 f3
    ·have hj:=(List.getElem?_eq_some_iff.mp f3).1
     rw [List.length_append,bl] at hj
     simp at hj
     obtain rfl:j=i:=by omega
     rw [List.getElem?_append_right (by omega),bl,Nat.sub_self] at f3
     rw [ew] at f1
     rw [eb2] at f2
     cases f1
     cases f2
     cases f3
     exact a1
  have out:∀ {z:Str},(wd,z)∈ps→(∀ b,¬ StrW wd (lo2,hi2) z b)→NoRT C_NoRow T (upd H3 tt (.tup [.str wd,.ref za])) E:=fun {z} hz nw=>(qe (by
   rintro ⟨ps',bs',⟨e,_,_⟩,bl',al'⟩
   rw [← flatP_inj e] at al'
   obtain ⟨b,eb⟩:∃ b,bs'[i]?=some b:=⟨bs'[i]'(by omega),List.getElem?_eq_getElem _⟩
   rcases al' i wd (lo2,hi2) b ew eb2 eb with ⟨n,_⟩ | ⟨z',hz',sw⟩
   ·exact n (List.mem_map.mpr ⟨_,hz,rfl⟩)
   ·rw [key_one nd hz' hz] at sw
    exact nw b sw)).on toH
  walk_at "sv"
  refine dinR_go (.inl hd3) ?_
  rw [if_pos rfl]
  by_cases nw:wd∉ps.map (·.1)
  ·rw [look_no (show wd∉(pvs ps).map (·.1) by rw [pvs_keys]; exact nw),Option.isSome_none]
   walk_at "sv"
   refine ⟨ty_lst ho3',?_⟩
   exact fin _ za (lo2,hi2) _ (.inl ⟨nw,rfl⟩) (fun _ _ _ e=>e) tk' hza' rfl
  ·obtain ⟨p,hp,ep⟩:=List.mem_map.mp (Classical.not_not.mp nw)
   obtain ⟨wd',z⟩:=p
   obtain rfl:wd'=wd:=ep
   have zin:z∈flatP ps:=List.mem_flatMap.mpr ⟨_,hp,by simp⟩
   obtain ⟨zl,zc⟩:=wok z zin
   have lk:(pvs ps).lookup wd'=some (.str z):=look_at (by rw [pvs_keys]; exact nd) (List.mem_map.mpr ⟨(wd',z),hp,rfl⟩)
   rw [lk,Option.isSome_some]
   walk_at "sv"
   refine inRT_go (zs:=adrWs) (haw _) ?_
   rw [if_neg Bool.false_ne_true]
   walk_at "sv"
   refine BrS.dec (fun c=>?_) fun c=>?_
   ·walk_at "sv"
    refine ⟨ty_lst ho3',?_⟩
    refine dgetR_go (.inl hd3) lk ?_
    refine ⟨z,rfl,zl,zc,fun lo hi rd t H5 s5 ht=>?_,fun no=>(out hp fun b rd=>no ⟨_,_,Eq.mp (strW_a c) rd⟩).nor tk'⟩
    exact fin H5 t (lo,hi) _ (.inr ⟨z,hp,Eq.mpr (strW_a c) rd⟩) (Same.sb s5) (tk'.same s5) ht rfl
   ·walk_at "sv"
    refine ⟨ty_lst ho3',?_⟩
    refine dgetR_go (.inl hd3) lk ?_
    walk_at "sv"
    refine ixT_go (i:=1) (SqT.of hza') rfl ?_
    obtain ⟨t0,t1⟩:=tb _ (List.mem_of_getElem? eb2)
    have t0:0≤hi2:=t0
    have t1:hi2<10 ^ 10:=t1
    have nr:(¬ ∃ lo hi,RdsN hi2.toNat z lo hi)→NoRT C_NoRow T (upd H3 tt (.tup [.str wd',.ref za])) E:=fun no=>out hp fun b sw=>no ⟨b.1,b.2,by
     rw [strW_n c] at sw
     exact sw⟩
    have yr:∀ lo hi,RdsN hi2.toNat z lo hi→At1 ps wd' (lo2,hi2) (lo,hi):=fun lo hi rd=>.inr ⟨z,hp,by
     rw [strW_n c]
     exact rd⟩
    have g1:hi2.toNat<10 ^ 10:=by omega
    have eg:hi2=((hi2.toNat:Nat):Int):=(Int.toNat_of_nonneg t0).symm
    revert eg g1 nr yr
    generalize hi2.toNat=gg
    intro nr yr g1 eg
    refine ⟨z,gg,?_,g1,zl,zc,tk',fun lo hi rd t H5 sb5 tk5 ht=>?_,nr⟩
    ·rw [eg]
    ·exact fin H5 t (lo,hi) _ (yr lo hi rd) sb5 tk5 ht rfl
 ·obtain ⟨sb,tk,bs,xs,y1,y2,ho3,st3,bl,al,rfl⟩:=pv
  rw [List.length_zip,lu,List.length_map,Nat.min_self] at bl
  walk_at "sv"
  refine TupOf.lst (SqL.of ho3) fun t nt=>?_
  have sT:=same_new nt (.tup xs)
  exact q ps bs ⟨rfl,ins,nd⟩ ⟨bl,al⟩ t _ ((back sb).trans (Same.sb sT)) (tk.same sT) ⟨xs,upd_same,st3.same sT⟩
end
--CUT--
theorem twoW_uni {ws:List Str}{a b a' b':Str}(h:twoW ws a b)(h':twoW ws a' b'):a=a'∧b=b':=by
 rcases h with ⟨rfl,rfl⟩ | rfl
 ·rcases h' with ⟨e,rfl⟩ | e
  ·cases e
   exact ⟨rfl,rfl⟩
  ·cases e
 ·rcases h' with ⟨e,rfl⟩ | e
  ·cases e
  ·cases e
   exact ⟨rfl,rfl⟩
theorem rdsN_uni {g:Nat}{z:Str}{lo hi lo' hi':Int}(h:RdsN g z lo hi)(h':RdsN g z lo' hi'):lo=lo'∧hi=hi':=by
 obtain ⟨_,a,b,tw,_,_,rfl,rfl,_⟩:=h
 obtain ⟨_,a',b',tw',_,_,rfl,rfl,_⟩:=h'
 obtain ⟨rfl,rfl⟩:=twoW_uni tw tw'
 exact ⟨rfl,rfl⟩
theorem rdsA_uni {z:Str}{lo hi lo' hi':Int}(h:RdsA z lo hi)(h':RdsA z lo' hi'):lo=lo'∧hi=hi':=by
 rcases h with ⟨n,a,b,tw,_,_,rfl,rfl,_⟩ | ⟨a,b,l,na,_,_,rfl,rfl⟩
 ·rcases h' with ⟨_,a',b',tw',_,_,rfl,rfl,_⟩ | ⟨a',b',l',_⟩
  ·obtain ⟨rfl,rfl⟩:=twoW_uni tw tw'
   exact ⟨rfl,rfl⟩
  ·exact absurd (by rw [l']; simp) n
 ·rcases h' with ⟨n,_⟩ | ⟨a',b',l',na',_,_,rfl,rfl⟩
  ·exact absurd (by rw [l]; simp) n
  ·obtain ⟨e1,e2⟩:=first_one (l.symm.trans l') na na'
   rw [str_eq e1,str_eq e2]
   exact ⟨rfl,rfl⟩
theorem at1_uni {ps:List (Str×Str)}{wd:Str}{top b b':Int×Int}(nd:(ps.map (·.1)).Nodup)(h:At1 ps wd top b)(h':At1 ps wd top b'):b=b':=by
 rcases h with ⟨n,rfl⟩ | ⟨z,hz,sw⟩
 ·rcases h' with ⟨_,rfl⟩ | ⟨z',hz',_⟩
  ·rfl
  ·exact absurd (List.mem_map.mpr ⟨_,hz',rfl⟩) n
 ·rcases h' with ⟨n,_⟩ | ⟨z',hz',sw'⟩
  ·exact absurd (List.mem_map.mpr ⟨_,hz,rfl⟩) n
  ·rw [key_one nd hz' hz] at sw'
   by_cases c:wd∈adrWs
   ·rw [strW_a c] at sw sw'
    obtain ⟨e1,e2⟩:=rdsA_uni sw sw'
    exact Prod.ext e1 e2
   ·rw [strW_n c] at sw sw'
    obtain ⟨e1,e2⟩:=rdsN_uni sw sw'
    exact Prod.ext e1 e2
theorem boxG_uni {pws:List Str}{tops:List (Int×Int)}{ps:List (Str×Str)}{bs bs':List (Int×Int)}(tl:tops.length=pws.length)(nd:(ps.map (·.1)).Nodup)(h:BoxG pws tops ps bs)(h':BoxG pws tops ps bs'):bs=bs':=by
 refine List.ext_getElem (h.1.trans h'.1.symm) fun i h1 h2=>?_
 have l:i<pws.length:=h.1▸h1
 have lt:i<tops.length:=tl▸l
 exact at1_uni nd (h.2 i _ _ _ (List.getElem?_eq_getElem l) (List.getElem?_eq_getElem lt) (List.getElem?_eq_getElem h1)) (h'.2 i _ _ _ (List.getElem?_eq_getElem l) (List.getElem?_eq_getElem lt) (List.getElem?_eq_getElem h2))
def pairWs:List Str:=["turn","kind","from","fromdoor","to","todoor"]
def wsOk (ws:List Str):Prop:=ws.length≤200∧∀ x∈ws,x.length≤900∧∀ c∈x.cps.toList,c<16 ^ 8
def spRB (K:PySem.W.Frag)(C T:Addr):Sp:=fun vs H Q E=>∃ (l:Addr) (ws:List Str),vs=[.ref l]∧SqL K H l (ws.map V.str)∧wsOk ws∧TabOk T H ∧
 (∀ ps bs,PairsOk pairWs ws ps→BoxG pairWs allBox ps bs→∀ t H',SameB T H H'→TabOk T H'→IsBox H' t bs→Q (.ref t) H')∧((¬ ∃ ps bs,PairsOk pairWs ws ps∧BoxG pairWs allBox ps bs)→NoRT C T H E)
section
variable {C_NoRow:Addr}
theorem ok_rbox {T:Addr}(F:Fun K "read_box" "read_box" s_read_box f fd)(g_read_pairs:FnX P w K mg base "read_pairs" 7 ["words","pair_words","whole_box"] (spRPairs K C_NoRow T))(g_every:Fn P w K mg base "every" 1 [] spEvery)(c_PAIR:∃ a,mg "PAIR_WORDS"=some (.ref a)∧∀ H,SqT K H a (pairWs.map V.str)):FnOk P w K mg base (CXe P w) 8 f fd ["words"] (spRB K C_NoRow T):=by
 refine fun_okX F sc_read_box (fun vs H Q E h=>?_) (fun cdv A outer s H vs Q E hr h=>?_)
 ·obtain ⟨_,_,rfl,_⟩:=h
  rfl
 obtain ⟨l,ws,rfl,hl,wok,tab,q,qe⟩:=h
 obtain ⟨apw,m_PAIR_WORDS,hpw⟩:=c_PAIR
 have r_PAIR_WORDS:RelV (.ref apw) (.ref apw):=rfl
 refine ⟨_,(@pss_one _ _ _ (@ps_ret _ _ _ _ (@pe_fnX _ _ _ _ _ _ _ _ _ _ _ _ g_read_pairs xeOut_cx hr (by decide) rfl (@pa_cons _ _ _ _ _ (pv 0) (@pa_cons _ _ _ _ _ (@pe_glob _ _ _ _ _ rfl m_PAIR_WORDS r_PAIR_WORDS (by decide)) (@pa_cons _ _ _ _ _ (@pe_fn0 _ _ _ _ _ _ _ _ g_every hr (by decide) rfl (by decide)) pa_nil (by rfl)) (by rfl)) (by rfl)) (by decide) (by rfl) (by rfl)))),?_⟩
 rw [st_read_box]
 walk_at "sv"
 refine ⟨rfl,fun ev H1 s1 hev=>?_⟩
 exact ⟨l,apw,ev,ws,pairWs,allBox,rfl,s1.seq hl,hpw _,hev,rfl,by decide,by decide,wok.1,wok.2,tab.same s1,fun ps bs h1 h2 t H' sb tk ib=>q ps bs h1 h2 t H' ((Same.sb s1).trans sb) tk ib,fun no=>(qe no).on (Same.sb s1)⟩
def hdWs:Str ⊕ Str→List Str
 | .inl w=>[w]
 | .inr n=>["call",n]
def sing:List Str:=["pass","stop","back"]
def hdOk:Str ⊕ Str→Prop
 | .inl w=>w∈sing
 | .inr n=>nmOk n=true
def hdOut (p:Addr):Str ⊕ Str→List V
 | .inl w=>[.str w,.ref p]
 | .inr n=>[.str "call",.ref p,.str n]
def RuOk (ws:List Str)(h:Str ⊕ Str)(bs:List (Int×Int)):Prop:=∃ ps:List (Str×Str),ws=hdWs h++flatP ps∧hdOk h∧PairsOk pairWs (flatP ps) ps∧BoxG pairWs allBox ps bs
def spRWords (K:PySem.W.Frag)(C T:Addr):Sp:=fun vs H Q E=>∃ (l:Addr) (ws:List Str),vs=[.ref l]∧SqL K H l (ws.map V.str)∧wsOk ws∧TabOk T H∧(∀ h bs,RuOk ws h bs→∀ t p H',SameB T H H'→TabOk T H'→IsBox H' p bs→H' t=some (.tup (hdOut p h))→Q (.ref t) H')∧((¬ ∃ h bs,RuOk ws h bs)→NoRT C T H E)
theorem wsOk.tail {x:Str}{ws:List Str}(h:wsOk (x::ws)):wsOk ws:=⟨Nat.le_trans (Nat.le_succ _) h.1,fun y hy=>h.2 y (List.mem_cons_of_mem _ hy)⟩
theorem ok_rwords {T:Addr}(F:Fun K "read_words" "read_words" s_read_words f fd)(g_read_box:FnX P w K mg base "read_box" 8 ["words"] (spRB K C_NoRow T))(g_is_name:Fn P w K mg base "is_name" 1 ["word"] spIsName)(X_NoRow:XcI P w K mg base "NoRow" C_NoRow 1 ["self","row"] (spXRow C_NoRow))(c_ALONE:∃ u,mg "ALONE"=some u∧RelV (.int 1) u)(c_SING:∃ a,mg "SINGLE_HEADS"=some (.ref a)∧∀ H,SqT K H a (sing.map V.str))(b_len:mg "len"=none):FnOk P w K mg base (CXe P w) 9 f fd ["words"] (spRWords K C_NoRow T):=by
 obtain ⟨_,m_ALONE,r_ALONE⟩:=c_ALONE
 obtain ⟨N_NoRow,i_NoRow,fd_NoRow,O_NoRow,G_NoRow,B_NoRow⟩:=X_NoRow.ex
 obtain ⟨asg,m_SINGLE_HEADS,hsg⟩:=c_SING
 have r_SINGLE_HEADS:RelV (.ref asg) (.ref asg):=rfl
 refine fun_okX F sc_read_words (fun vs H Q E h=>?_) (fun cdv A outer s H vs Q E hr h=>?_)
 ·obtain ⟨_,_,rfl,_⟩:=h
  rfl
 obtain ⟨l,ws,rfl,hl,wok,tab,q,qe⟩:=h
 refine ⟨_,(@pss_cons _ _ _ _ _ (@ps_if _ _ _ _ _ _ _ _ (@PW.pt _ _ _ (@pw_and _ _ _ _ _ _ _ (@pt_cmpR _ _ _ _ _ _ _ _ op_gt (@pe_callB _ _ _ _ _ _ _ _ _ call_lenR rfl b_len bo_len (@pa_cons _ _ _ _ _ (pv 0) pa_nil (by rfl)) (by decide) (by decide) (by rfl) (by rfl)) pe_int (nomark _)) (@pw_and1 _ _ _ _ (@pt_cmpR _ _ _ _ _ _ _ _ (op_inL (K:=K) rfl) (@pe_ix _ _ _ _ _ _ _ ix_list (pv 0) pe_int (fun _ _=>rfl)) (@pe_glob _ _ _ _ _ rfl m_SINGLE_HEADS r_SINGLE_HEADS (by decide)) (by with_unfolding_all rfl))))) (@pss_one _ _ _ (@ps_ret _ _ _ _ (@pe_tup _ _ _ _ _ (@pa_cons _ _ _ _ _ (@pe_ix _ _ _ _ _ _ _ ix_list (pv 0) pe_int (fun _ _=>rfl)) (@pa_cons _ _ _ _ _ (@pe_fnX _ _ _ _ _ _ _ _ _ _ _ _ g_read_box xeOut_cx hr (by decide) rfl (@pa_cons _ _ _ _ _ (@pe_slice _ _ _ _ _ _ _ _ _ _ sl_list (pv 0) (@po_some _ _ _ pe_int) po_none) pa_nil (by rfl)) (by decide) (by rfl) (by rfl)) pa_nil (by rfl)) (by rfl))))) pss_nil) (@pss_cons _ _ _ _ _ (@ps_if _ _ _ _ _ _ _ _ (@PW.pt _ _ _ (@pw_and _ _ _ _ _ _ _ (@pt_cmpR _ _ _ _ _ _ _ _ op_gt (@pe_callB _ _ _ _ _ _ _ _ _ call_lenR rfl b_len bo_len (@pa_cons _ _ _ _ _ (pv 0) pa_nil (by rfl)) (by decide) (by decide) (by rfl) (by rfl)) pe_int (nomark _)) (@pw_and _ _ _ _ _ _ _ (@pt_cmpR _ _ _ _ _ _ _ _ op_eq (@pe_ix _ _ _ _ _ _ _ ix_list (pv 0) pe_int (fun _ _=>rfl)) pe_str (nomark _)) (@pw_and1 _ _ _ _ (@pt_val _ _ _ (@pe_fn _ _ _ _ _ _ _ _ _ _ _ g_is_name hr (by decide) rfl (@pa_cons _ _ _ _ _ (@pe_ix _ _ _ _ _ _ _ ix_list (pv 0) pe_int (fun _ _=>rfl)) pa_nil (by rfl)) (by decide) (by rfl) (by rfl)) (by intro _; rfl)))))) (@pss_one _ _ _ (@ps_ret _ _ _ _ (@pe_tup _ _ _ _ _ (@pa_cons _ _ _ _ _ pe_str (@pa_cons _ _ _ _ _ (@pe_fnX _ _ _ _ _ _ _ _ _ _ _ _ g_read_box xeOut_cx hr (by decide) rfl (@pa_cons _ _ _ _ _ (@pe_slice _ _ _ _ _ _ _ _ _ _ sl_list (pv 0) (@po_some _ _ _ pe_int) po_none) pa_nil (by rfl)) (by decide) (by rfl) (by rfl)) (@pa_cons _ _ _ _ _ (@pe_ix _ _ _ _ _ _ _ ix_list (pv 0) pe_int (fun _ _=>rfl)) pa_nil (by rfl)) (by rfl)) (by rfl))))) pss_nil) (@pss_one _ _ _ (@ps_raiseI _ _ _ _ _ _ _ _ _ _ _ _ _ _ _ _ xeOut_cx O_NoRow G_NoRow (hr.mono (by decide)) B_NoRow rfl rfl (@pa_cons _ _ _ _ _ (@pe_glob _ _ _ _ _ rfl m_ALONE r_ALONE (by decide)) pa_nil (by rfl)) (by decide) (by rfl) (by rfl))))),?_⟩
 rw [st_read_words]
 walk_at "sv"
 refine LenR.lst hl ?_
 walk_at "sv"
 rw [List.length_map]
 cases ws with
 | nil =>
  rw [decide_eq_false (show ¬ ((([]:List Str).length:Nat):Int) > 0 by decide)]
  walk_at "sv"
  refine LenR.lst hl ?_
  walk_at "sv"
  refine raiseRow ((qe ?_).nor tab)
  rintro ⟨h,bs,ps,e,_⟩
  cases h <;> cases e
 | cons w0 rest =>
  rw [decide_eq_true (show (((w0::rest).length:Nat):Int) > 0 by rw [List.length_cons]; omega)]
  walk_at "sv"
  refine ixL_go (i:=0) hl rfl ?_
  walk_at "sv"
  refine inRT_go (zs:=sing) (hsg _) ?_
  rw [if_neg Bool.false_ne_true]
  by_cases c0:w0∈sing
  ·rw [decide_eq_true c0]
   walk_at "sv"
   refine ixL_go (i:=0) hl rfl ?_
   walk_at "sv"
   refine PartR.go ?_
   refine slDropA_go (k:=1) hl fun l2 nl2=>?_
   have s2:=same_new nl2 (.lst (((w0::rest).map V.str).drop 1))
   refine ⟨l2,rest,rfl,SqL.of upd_same,wok.tail,tab.same s2,fun ps bs pk bg p H' sb tk ib=>?_,fun no=>(qe ?_).on (Same.sb s2)⟩
   ·refine TupR.go (by simp) fun t nt=>?_
    have sT:=same_new nt (.tup [.str w0,.ref p])
    exact q (.inl w0) bs ⟨ps,by rw [← pk.1]; rfl,c0,⟨rfl,pk.2⟩,bg⟩ t p _ (((Same.sb s2).trans sb).trans (Same.sb sT)) (tk.same sT) (ib.same sT) upd_same
   ·rintro ⟨h,bs,ps,e,hok,pk,bg⟩
    cases h with
    | inl w1 =>
     obtain ⟨_,e⟩:=List.cons.inj e
     have e:rest=flatP ps:=e
     exact no ⟨ps,bs,⟨e,pk.2⟩,bg⟩
    | inr n1 =>
     obtain ⟨e,_⟩:=List.cons.inj e
     rw [e] at c0
     exact absurd c0 (by decide +kernel)
  rw [decide_eq_false c0]
  walk_at "sv"
  refine LenR.lst hl ?_
  rw [List.length_map]
  walk_at "sv"
  have out:(∀ n ps',w0="call"→rest=n::ps'→nmOk n=true→False)→¬ ∃ h bs,RuOk (w0::rest) h bs:=by
   rintro hh ⟨h,bs,ps,e,hok,pk,bg⟩
   cases h with
   | inl w1 =>
    obtain ⟨e1,_⟩:=List.cons.inj e
    rw [e1] at c0
    exact c0 hok
   | inr n1 =>
    obtain ⟨e1,e⟩:=List.cons.inj e
    exact hh n1 (flatP ps) e1 e hok
  cases rest with
  | nil =>
   rw [decide_eq_false (show ¬ ((([w0]:List Str).length:Nat):Int) > 1 by simp)]
   walk_at "sv"
   exact raiseRow ((qe (out fun n ps' _ e _=>by cases e)).nor tab)
  | cons n0 rest =>
   rw [decide_eq_true (show (((w0::n0::rest).length:Nat):Int) > 1 by rw [List.length_cons,List.length_cons]; omega)]
   walk_at "sv"
   refine ixL_go (i:=0) hl rfl ?_
   walk_at "sv"
   by_cases c1:w0="call"
   rotate_left
   ·rw [decide_eq_false c1]
    walk_at "sv"
    exact raiseRow ((qe (out fun n ps' e _ _=>c1 e)).nor tab)
   rw [decide_eq_true c1]
   walk_at "sv"
   refine ixL_go (i:=1) hl rfl ?_
   have nl:=(wok.2 n0 (by simp)).1
   refine ⟨n0,rfl,by omega,fun H1 s1=>?_⟩
   cases c2:nmOk n0 with
   | false =>
    walk_at "sv"
    refine raiseRow ((qe (out fun n ps' _ e h=>?_)).nor tab |>.on s1)
    cases e
    rw [c2] at h
    cases h
   | true =>
    walk_at "sv"
    have hl1:=s1.seq hl
    refine PartR.go ?_
    refine slDropA_go (k:=2) hl1 fun l2 nl2=>?_
    have s2:=same_new nl2 (.lst (((w0::n0::rest).map V.str).drop 2))
    have tab2:=(tab.same s1).same s2
    have s12:=Same.sb (T:=T) (s1.trans s2)
    refine ⟨l2,rest,rfl,SqL.of upd_same,wok.tail.tail,tab2,fun ps bs pk bg p H' sb tk ib=>?_,fun no=>(qe ?_).on s12⟩
    ·walk_at "sv"
     refine ixL_go (i:=1) (sb.seqL tab2 (s2.seq hl1)) rfl ?_
     refine TupR.go (by simp) fun t nt=>?_
     have sT:=same_new nt (.tup [.str "call",.ref p,.str n0])
     exact q (.inr n0) bs ⟨ps,by rw [← pk.1,c1]; rfl,c2,⟨rfl,pk.2⟩,bg⟩ t p _ ((s12.trans sb).trans (Same.sb sT)) (tk.same sT) (ib.same sT) upd_same
    ·rintro ⟨h,bs,ps,e,hok,pk,bg⟩
     cases h with
     | inl w1 =>
      obtain ⟨e1,_⟩:=List.cons.inj e
      rw [e1] at c0
      exact c0 hok
     | inr n1 =>
      obtain ⟨_,e⟩:=List.cons.inj e
      obtain ⟨_,e⟩:=List.cons.inj e
      exact no ⟨ps,bs,⟨e,pk.2⟩,bg⟩
def spRRule (K:PySem.W.Frag)(C T:Addr):Sp:=fun vs H Q E=>∃ (z:Str) (ws:List Str),vs=[.str z]∧z.length≤900∧wordsT z=ws∧wsOk ws∧TabOk T H∧(∀ h bs,RuOk ws h bs→∀ t p H',SameB T H H'→TabOk T H'→IsBox H' p bs→H' t=some (.tup (hdOut p h))→Q (.ref t) H')∧((¬ ∃ h bs,RuOk ws h bs)→NoRT C T H E)
theorem ok_rrule {T:Addr}(F:Fun K "read_rule" "read_rule" s_read_rule f fd)(g_read_words:FnX P w K mg base "read_words" 9 ["words"] (spRWords K C_NoRow T))(g_words_of:Fn P w K mg base "words_of" 1 ["row"] spWordsOf):FnOk P w K mg base (CXe P w) 10 f fd ["row"] (spRRule K C_NoRow T):=by
 refine fun_okX F sc_read_rule (fun vs H Q E h=>?_) (fun cdv A outer s H vs Q E hr h=>?_)
 ·obtain ⟨_,_,rfl,_⟩:=h
  rfl
 obtain ⟨z,ws,rfl,hz,ew,wok,tab,q,qe⟩:=h
 refine ⟨_,(@pss_one _ _ _ (@ps_ret _ _ _ _ (@pe_fnX _ _ _ _ _ _ _ _ _ _ _ _ g_read_words xeOut_cx hr (by decide) rfl (@pa_cons _ _ _ _ _ (@pe_fn _ _ _ _ _ _ _ _ _ _ _ g_words_of hr (by decide) rfl (@pa_cons _ _ _ _ _ (pv 0) pa_nil (by rfl)) (by decide) (by rfl) (by rfl)) pa_nil (by rfl)) (by decide) (by rfl) (by rfl)))),?_⟩
 rw [st_read_rule]
 walk_at "sv"
 refine ⟨z,rfl,hz,fun p H1 s1 hp=>?_⟩
 rw [ew] at hp
 exact ⟨p,ws,rfl,SqL.of hp,wok,tab.same s1,fun h bs ru t p H' sb tk ib ht=>q h bs ru t p H' ((Same.sb s1).trans sb) tk ib ht,fun no=>(qe no).on (Same.sb s1)⟩
theorem ruOk_uni {ws:List Str}{h h':Str ⊕ Str}{bs bs':List (Int×Int)}(r:RuOk ws h bs)(r':RuOk ws h' bs'):h'=h∧bs'=bs:=by
 obtain ⟨ps,rfl,hk,pk,bg⟩:=r
 obtain ⟨ps',e,hk',pk',bg'⟩:=r'
 have hh:h'=h∧ps'=ps:=by
  cases h with
  | inl w =>
   cases h' with
   | inl w' =>
    obtain ⟨e1,e⟩:=List.cons.inj e
    exact ⟨by rw [e1],(flatP_inj e).symm⟩
   | inr n' =>
    obtain ⟨e1,_⟩:=List.cons.inj e
    have hk:w∈sing:=hk
    rw [e1] at hk
    exact absurd hk (by decide +kernel)
  | inr n =>
   cases h' with
   | inl w' =>
    obtain ⟨e1,_⟩:=List.cons.inj e
    have hk':w'∈sing:=hk'
    rw [← e1] at hk'
    exact absurd hk' (by decide +kernel)
   | inr n' =>
    obtain ⟨_,e⟩:=List.cons.inj e
    obtain ⟨e1,e⟩:=List.cons.inj e
    exact ⟨by rw [e1],(flatP_inj e).symm⟩
 obtain ⟨rfl,rfl⟩:=hh
 exact ⟨rfl,(boxG_uni rfl pk.2.2 bg bg').symm⟩
end
abbrev num (n:Int):Str:=Str.ofString (toString n)
theorem num_signs {n:Int}(h:0≤n):∀ c∈(num n).cps.toList,48≤c∧c≤57:=by
 obtain ⟨m,rfl⟩:=Int.eq_ofNat_of_zero_le h
 rw [PySem.W.KIN.signs_num]
 induction m using Nat.strongRecOn with
 | ind m ih =>
  intro c hc
  rw [Nat.toDigits_eq_if (by decide)] at hc
  split at hc
  ·rename_i lt
   obtain ⟨x,hx,rfl⟩:=List.mem_map.mp hc
   rw [List.mem_singleton.mp hx]
   have:∀ k,k<10→48≤(Nat.digitChar k).toNat∧(Nat.digitChar k).toNat≤57:=by decide
   exact this m lt
  ·rename_i ge
   rw [List.map_append,List.mem_append] at hc
   rcases hc with hc | hc
   ·exact ih (m / 10) (by omega) (by omega) c hc
   ·obtain ⟨x,hx,rfl⟩:=List.mem_map.mp hc
    rw [List.mem_singleton.mp hx]
    have:∀ k,k<10→48≤(Nat.digitChar k).toNat∧(Nat.digitChar k).toNat≤57:=by decide
    exact this (m % 10) (by omega)
theorem dig_head (m:Nat):((Nat.toDigits 10 m).map Char.toNat).headD 0=48→m=0:=by
 induction m using Nat.strongRecOn with
 | ind m ih =>
  intro h
  rw [Nat.toDigits_eq_if (by decide)] at h
  split at h
  ·rename_i lt
   have:∀ k,k<10→(Nat.digitChar k).toNat=48→k=0:=by decide
   exact this m lt h
  ·rename_i ge
   have ne:(Nat.toDigits 10 (m / 10)).map Char.toNat≠[]:=fun e=>by
    have:=congrArg List.length e
    rw [List.length_map,List.length_nil] at this
    have p:=Nat.length_toDigits_pos (b:=10) (n:=m / 10)
    omega
   obtain ⟨x,xs,ex⟩:=List.exists_cons_of_ne_nil ne
   rw [List.map_append,ex] at h
   have:=ih (m / 10) (by omega) (by rw [ex]; exact h)
   omega
theorem num_ne {n:Int}(h:0≤n):(num n).cps.toList≠[]:=by
 obtain ⟨m,rfl⟩:=Int.eq_ofNat_of_zero_le h
 rw [PySem.W.KIN.signs_num]
 intro e
 have:=congrArg List.length e
 rw [List.length_map] at this
 have p:=Nat.length_toDigits_pos (b:=10) (n:=m)
 simp at this
theorem num_val' {n:Int}(h:0≤n):((NumText.digitsVal (num n).cps.toList:Nat):Int)=n:=by
 obtain ⟨m,rfl⟩:=Int.eq_ofNat_of_zero_le h
 rw [PySem.W.KIN.signs_num,PySem.W.KIN.val_back]
theorem isFig_of {c:Nat}(h:48≤c∧c≤57):isFig c=true:=by
 unfold isFig
 rw [decide_eq_true h.1,decide_eq_true h.2]
 rfl
theorem nT_num {g k:Nat}{n:Int}(h0:0≤n)(h1:n≤g)(hl:(num g).length=k)(hk:g<10 ^ k)(k0:0<k):nT g (num n)=true:=by
 have v:=num_val' h0
 have sg:=num_signs h0
 have ne:=num_ne h0
 have hd:(num n).cps.toList.headD 0=48→(num n).cps.toList=[48]:=by
  obtain ⟨m,rfl⟩:=Int.eq_ofNat_of_zero_le h0
  rw [PySem.W.KIN.signs_num]
  intro h
  rw [dig_head m h]
  decide
 have le:(num n).cps.toList.length≤k:=by
  obtain ⟨m,rfl⟩:=Int.eq_ofNat_of_zero_le h0
  rw [PySem.W.KIN.signs_num,List.length_map,Nat.length_toDigits_le_iff (by decide) k0]
  omega
 unfold nT nOk
 rw [hl]
 generalize (num n).cps.toList=cs at *
 have e1:cs.isEmpty=false:=by
  cases cs with
  | nil=>exact absurd rfl ne
  | cons a b=>rfl
 have e3:cs.all isFig=true:=List.all_eq_true.mpr fun c hc=>isFig_of (sg c hc)
 rw [e1,decide_eq_true le,e3]
 have e5:decide (NumText.digitsVal cs≤g)=true:=decide_eq_true (by omega)
 rw [e5]
 by_cases z:cs.headD 0=48
 ·rw [hd z]
  decide
 ·rw [decide_eq_false z]
  rfl
theorem nT_sign {g:Nat}{x:Str}{c:Nat}(hc:c∈x.cps.toList)(h:isFig c=false):nT g x=false:=by
 unfold nT nOk
 have:x.cps.toList.all isFig=false:=by
  rw [List.all_eq_false]
  exact ⟨c,hc,by rw [h]; decide⟩
 rw [this]
 simp
theorem app_l {x y:Str}:(x++y:Str).cps.toList=x.cps.toList++y.cps.toList:=app_list x y
theorem nT_zero {g:Nat}{x:Str}(h:x.cps.toList≠[]):nT g (⟨#[48]⟩++x)=false:=by
 unfold nT nOk
 rw [app_l]
 obtain ⟨a,b,e⟩:=List.exists_cons_of_ne_nil h
 rw [e]
 simp
def dot (n:Int):Str:=Str.join ⟨#[46]⟩ [num (n / 16777216),num (n / 65536 % 256),num (n / 256 % 256),num (n % 256)]
theorem nofree {n:Int}(h:0≤n):46∉(num n).cps.toList:=fun z=>by
 have:=num_signs h 46 z
 omega
theorem dot_j (a b c d:Str):(Str.join ⟨#[46]⟩ [a,b,c,d]).cps.toList=a.cps.toList++46::b.cps.toList++46::c.cps.toList++46::d.cps.toList:=by
 show (a++⟨#[46]⟩++(b++⟨#[46]⟩++(c++⟨#[46]⟩++d)):Str).cps.toList=_
 simp only [app_list,List.append_assoc]
 rfl
theorem aOk_join {ws:List Str}(h:ws≠[])(hf:∀ x∈ws,46∉x.cps.toList):aOk (Str.join ⟨#[46]⟩ ws)=gd ws:=by
 unfold aOk
 rw [split_join h hf]
section
variable {n:Int}(h0:0≤n)(h1:n≤4294967295)
include h0 h1
theorem dot_parts:(0≤n / 16777216∧n / 16777216≤255)∧(0≤n / 65536 % 256∧n / 65536 % 256≤255)∧(0≤n / 256 % 256∧n / 256 % 256≤255)∧0≤n % 256∧n % 256≤255:=by omega
theorem dot_free:∀ x∈[num (n / 16777216),num (n / 65536 % 256),num (n / 256 % 256),num (n % 256)],46∉x.cps.toList:=fun x hx=>by
 obtain ⟨a,b,c,d⟩:=dot_parts h0 h1
 simp only [List.mem_cons,List.not_mem_nil,or_false] at hx
 rcases hx with rfl | rfl | rfl | rfl
 ·exact nofree a.1
 ·exact nofree b.1
 ·exact nofree c.1
 ·exact nofree d.1
theorem num255 {m:Int}(a:0≤m)(b:m≤255):pOk (num m).cps.toList=true:=by
 rw [← nOk_part]
 exact nT_num (g:=255) (k:=3) a b (by decide) (by decide) (by decide)
theorem dot_ok:aOk (dot n)=true:=by
 obtain ⟨a,b,c,d⟩:=dot_parts h0 h1
 unfold dot
 rw [aOk_join (by simp) (dot_free h0 h1)]
 unfold gd
 simp only [List.map_cons,List.map_nil,num255 h0 h1 a.1 a.2,num255 h0 h1 b.1 b.2,num255 h0 h1 c.1 c.2,num255 h0 h1 d.1 d.2]
 rfl
theorem dot_val:aV (dot n)=n:=by
 obtain ⟨a,b,c,d⟩:=dot_parts h0 h1
 unfold aV dot
 rw [split_join (by simp) (dot_free h0 h1)]
 unfold addrOf
 simp only [List.foldl_cons,List.foldl_nil]
 rw [num_val' a.1,num_val' b.1,num_val' c.1,num_val' d.1]
 omega
theorem dot_twice:aOk (dot n++⟨#[45]⟩++dot n)=false:=by
 obtain ⟨a,b,c,d⟩:=dot_parts h0 h1
 have e:dot n++⟨#[45]⟩++dot n=Str.join ⟨#[46]⟩ [num (n / 16777216),num (n / 65536 % 256),num (n / 256 % 256),num (n % 256)++⟨#[45]⟩++num (n / 16777216),num (n / 65536 % 256),num (n / 256 % 256),num (n % 256)]:=by
  apply str_ext
  unfold dot
  show _=(num (n / 16777216)++⟨#[46]⟩++(num (n / 65536 % 256)++⟨#[46]⟩++(num (n / 256 % 256)++⟨#[46]⟩++(num (n % 256)++⟨#[45]⟩++num (n / 16777216)++⟨#[46]⟩++(num (n / 65536 % 256)++⟨#[46]⟩++(num (n / 256 % 256)++⟨#[46]⟩++num (n % 256)))))):Str).cps.toList
  rw [app_list,app_list,dot_j]
  simp only [app_list,List.append_assoc,List.cons_append]
  rfl
 rw [e,aOk_join (by simp)]
 ·unfold gd
  rfl
 ·intro y hy
  simp only [List.mem_cons,List.not_mem_nil,or_false] at hy
  rcases hy with rfl | rfl | rfl | rfl | rfl | rfl | rfl
  ·exact nofree a.1
  ·exact nofree b.1
  ·exact nofree c.1
  ·rw [app_list,app_list,List.mem_append,List.mem_append]
   rintro ((z | z) | z)
   ·exact nofree d.1 z
   ·exact absurd z (by decide)
   ·exact nofree a.1 z
  ·exact nofree b.1
  ·exact nofree c.1
  ·exact nofree d.1
end
--CUT--
theorem num_len10 {n:Int}(h0:0≤n)(h1:n≤4294967296):(num n).length≤10:=PySem.W.KT.len_num h0 (by omega)
theorem num_no {n:Int}{c:Nat}(h:0≤n)(hc:c<48∨57<c):c∉(num n).cps.toList:=fun z=>by
 have:=num_signs h c z
 omega
theorem dot_signs {n:Int}(h0:0≤n)(h1:n≤4294967295):∀ c∈(dot n).cps.toList,c=46∨(48≤c∧c≤57):=fun c hc=>by
 obtain ⟨a,b,d,e⟩:=dot_parts h0 h1
 unfold dot at hc
 rw [dot_j] at hc
 simp only [List.mem_append,List.mem_cons] at hc
 rcases hc with ((hc | hc | hc) | hc | hc) | hc | hc
 ·exact .inr (num_signs a.1 c hc)
 ·exact .inl hc
 ·exact .inr (num_signs b.1 c hc)
 ·exact .inl hc
 ·exact .inr (num_signs d.1 c hc)
 ·exact .inl hc
 ·exact .inr (num_signs e.1 c hc)
theorem dot_len {n:Int}(h0:0≤n)(h1:n≤4294967295):(dot n).length≤43:=by
 obtain ⟨a,b,d,e⟩:=dot_parts h0 h1
 have l1:=num_len10 a.1 (by omega)
 have l2:=num_len10 b.1 (by omega)
 have l3:=num_len10 d.1 (by omega)
 have l4:=num_len10 e.1 (by omega)
 show (num (n / 16777216)++⟨#[46]⟩++(num (n / 65536 % 256)++⟨#[46]⟩++(num (n / 256 % 256)++⟨#[46]⟩++num (n % 256))):Str).length≤43
 have ee:(⟨#[46]⟩:Str).length=1:=rfl
 simp only [Str.length_append,ee]
 omega
theorem dot_no {n:Int}{c:Nat}(h0:0≤n)(h1:n≤4294967295)(hc:c=45∨c=47):c∉(dot n).cps.toList:=fun z=>by
 have:=dot_signs h0 h1 c z
 omega
def sgOk (z:Str):Prop:=z.cps.toList≠[]∧∀ c∈z.cps.toList,33≤c∧c≠35∧c<128
theorem sg_num {n:Int}(h:0≤n):sgOk (num n):=⟨num_ne h,fun c hc=>by
 have:=num_signs h c hc
 omega⟩
theorem sg_dot {n:Int}(h0:0≤n)(h1:n≤4294967295):sgOk (dot n):=⟨fun e=>by
 have:aOk (dot n)=true:=dot_ok h0 h1
 have e2:(dot n).cps.toList.length=0:=by rw [e]; rfl
 unfold dot at e2
 rw [dot_j] at e2
 simp at e2,fun c hc=>by
 have:=dot_signs h0 h1 c hc
 omega⟩
theorem sg_app {x y:Str}{c:Nat}(hx:sgOk x)(hy:sgOk y)(hc:33≤c∧c≠35∧c<128):sgOk (x++⟨#[c]⟩++y):=by
 have l:(x++⟨#[c]⟩++y:Str).cps.toList=x.cps.toList++c::y.cps.toList:=by
  rw [app_list,app_list,List.append_assoc]
  rfl
 refine ⟨by rw [l]; simp,fun d hd=>?_⟩
 rw [l] at hd
 rcases List.mem_append.mp hd with hd | hd
 ·exact hx.2 d hd
 ·rcases List.mem_cons.mp hd with rfl | hd
  ·exact hc
  ·exact hy.2 d hd
theorem one_split {x:Str}{c:Nat}(h:c∉x.cps.toList):Txt.split x ⟨#[c]⟩=[x]:=split_join (ws:=[x]) (by simp) fun w hw=>by
 rw [List.mem_singleton.mp hw]
 exact h
theorem two_split {x y:Str}{c:Nat}(h:c∉x.cps.toList)(h':c∉y.cps.toList):Txt.split (x++⟨#[c]⟩++y) ⟨#[c]⟩=[x,y]:=split_join (ws:=[x,y]) (by simp) fun w hw=>by
 simp only [List.mem_cons,List.not_mem_nil,or_false] at hw
 rcases hw with rfl | rfl
 ·exact h
 ·exact h'
def TopG (g:Nat):Prop:=g=3∨g=255∨g=65535∨g=32
theorem top_num {g:Nat}(t:TopG g){n:Int}(h0:0≤n)(h1:n≤g):nOk g (num n).cps.toList=true:=by
 rcases t with rfl | rfl | rfl | rfl
 ·exact nT_num (k:=1) h0 h1 (by decide +kernel) (by decide) (by decide)
 ·exact nT_num (k:=3) h0 h1 (by decide +kernel) (by decide) (by decide)
 ·exact nT_num (k:=5) h0 h1 (by decide +kernel) (by decide) (by decide)
 ·exact nT_num (k:=2) h0 h1 (by decide +kernel) (by decide) (by decide)
theorem top_le {g:Nat}(t:TopG g):g≤65535:=by
 rcases t with rfl | rfl | rfl | rfl <;> decide
theorem rdsN_two {g:Nat}(t:TopG g){lo hi:Int}(h0:0≤lo)(h1:lo≤hi)(h2:hi≤g):RdsN g (num lo++⟨#[45]⟩++num hi) lo hi:=by
 have:=top_le t
 have l1:=num_len10 h0 (by omega)
 have l2:=num_len10 (n:=hi) (by omega) (by omega)
 refine ⟨?_,num lo,num hi,.inr (two_split (num_no h0 (by decide)) (num_no (by omega) (by decide))),top_num t h0 (by omega),top_num t (by omega) h2,num_val' h0,num_val' (by omega),h1⟩
 rw [Str.length_append,Str.length_append,show (⟨#[45]⟩:Str).length=1 from rfl]
 omega
theorem app3_list {x y:Str}{c:Nat}:(x++⟨#[c]⟩++y:Str).cps.toList=x.cps.toList++c::y.cps.toList:=by
 rw [app_list,app_list,List.append_assoc]
 rfl
theorem rdsA_two {lo hi:Int}(h0:0≤lo)(h1:lo≤hi)(h2:hi≤4294967295):RdsA (dot lo++⟨#[45]⟩++dot hi) lo hi:=by
 refine .inl ⟨fun hc=>?_,dot lo,dot hi,.inr (two_split (dot_no h0 (by omega) (.inl rfl)) (dot_no (by omega) h2 (.inl rfl))),dot_ok h0 (by omega),dot_ok (by omega) h2,dot_val h0 (by omega),dot_val (by omega) h2,h1⟩
 rw [app3_list] at hc
 rcases List.mem_append.mp hc with hc | hc
 ·exact dot_no h0 (by omega) (.inr rfl) hc
 ·rcases List.mem_cons.mp hc with hc | hc
  ·cases hc
  ·exact dot_no (by omega) h2 (.inr rfl) hc
--CUT--
def badN (g:Nat)(z:Str):Prop:=∀ lo hi,¬ RdsN g z lo hi
def badA (z:Str):Prop:=∀ lo hi,¬ RdsA z lo hi
theorem two_mem {ws:List Str}{a b:Str}(h:twoW ws a b):ws.length≤2∧∀ x∈ws,x=a∨x=b:=by
 rcases h with ⟨rfl,rfl⟩ | rfl
 ·exact ⟨by simp,fun x hx=>.inl (List.mem_singleton.mp hx)⟩
 ·exact ⟨by simp,fun x hx=>by simpa using hx⟩
theorem badN_split {g:Nat}{z:Str}{ws:List Str}(e:Txt.split z ⟨#[45]⟩=ws)(h:(∃ x∈ws,nOk g x.cps.toList=false)∨2<ws.length):badN g z:=by
 rintro lo hi ⟨_,a,b,tw,na,nb,_⟩
 rw [e] at tw
 obtain ⟨l,m⟩:=two_mem tw
 rcases h with ⟨x,hx,n⟩ | h
 ·rcases m x hx with rfl | rfl
  ·rw [n] at na; cases na
  ·rw [n] at nb; cases nb
 ·omega
theorem badA_split {z:Str}{ws:List Str}(ns:47∉z.cps.toList)(e:Txt.split z ⟨#[45]⟩=ws)(h:(∃ x∈ws,aOk x=false)∨2<ws.length):badA z:=by
 rintro lo hi (⟨_,a,b,tw,na,nb,_⟩ | ⟨a,b,l,_⟩)
 ·rw [e] at tw
  obtain ⟨l,m⟩:=two_mem tw
  rcases h with ⟨x,hx,n⟩ | h
  ·rcases m x hx with rfl | rfl
   ·rw [n] at na; cases na
   ·rw [n] at nb; cases nb
  ·omega
 ·exact ns (by rw [l]; simp)
theorem badA_slash {z a b:Str}(l:z.cps.toList=a.cps.toList++47::b.cps.toList)(na:47∉a.cps.toList)(h:aOk a=false∨nOk 32 b.cps.toList=false):badA z:=by
 rintro lo hi (⟨n,_⟩ | ⟨a',b',l',na',oa,nb,_⟩)
 ·exact n (by rw [l]; simp)
 ·obtain ⟨e1,e2⟩:=first_one (l.symm.trans l') na na'
  rw [str_eq e1,str_eq e2] at h
  rcases h with h | h
  ·rw [h] at oa; cases oa
  ·rw [h] at nb; cases nb
theorem num_big {g:Nat}{n:Int}(h:(g:Int)<n):nOk g (num n).cps.toList=false:=by
 cases e:nOk g (num n).cps.toList with
 | false=>rfl
 | true =>
  have:=(nOk_parts e).2.2.2
  have v:=num_val' (n:=n) (by omega)
  omega
theorem three_split {x y z:Str}{c:Nat}(h:c∉x.cps.toList)(h':c∉y.cps.toList)(h2:c∉z.cps.toList):Txt.split (x++⟨#[c]⟩++y++⟨#[c]⟩++z) ⟨#[c]⟩=[x,y,z]:=by
 have e:x++⟨#[c]⟩++y++⟨#[c]⟩++z=x++⟨#[c]⟩++(y++⟨#[c]⟩++z):=str_ext (by simp only [app_list,List.append_assoc])
 rw [e]
 exact split_join (ws:=[x,y,z]) (by simp) fun w hw=>by
  simp only [List.mem_cons,List.not_mem_nil,or_false] at hw
  rcases hw with rfl | rfl | rfl
  ·exact h
  ·exact h'
  ·exact h2
def chs (z:Str):Prop:=∀ c∈z.cps.toList,33≤c∧c≠35∧c<128
theorem sg_l {x y:Str}(h:sgOk x)(k:chs y):sgOk (x++y):=⟨by rw [app_list]; intro z; exact h.1 (List.append_eq_nil_iff.mp z).1,fun c hc=>by
 rw [app_list] at hc
 exact (List.mem_append.mp hc).elim (h.2 c) (k c)⟩
theorem sg_r {x y:Str}(h:chs x)(k:sgOk y):sgOk (x++y):=⟨by rw [app_list]; intro z; exact k.1 (List.append_eq_nil_iff.mp z).2,fun c hc=>by
 rw [app_list] at hc
 exact (List.mem_append.mp hc).elim (h c) (k.2 c)⟩
def litB (z:Str):Bool:=!z.cps.toList.isEmpty && z.cps.toList.all (fun c=>decide (33≤c∧c≠35∧c<128)) && decide (z.length≤20)
theorem litB_ok {z:Str}(h:litB z=true):sgOk z∧z.length≤20:=by
 unfold litB at h
 rw [Bool.and_eq_true,Bool.and_eq_true,decide_eq_true_eq,List.all_eq_true] at h
 obtain ⟨⟨h1,h2⟩,h3⟩:=h
 refine ⟨⟨fun e=>?_,fun c hc=>by simpa using h2 c hc⟩,h3⟩
 rw [e] at h1
 cases h1
def Wd (z:Str):Prop:=sgOk z∧z.length≤140
theorem wd_lit {z:Str}(h:litB z=true):Wd z:=⟨(litB_ok h).1,Nat.le_trans (litB_ok h).2 (by decide)⟩
def mi:Str:=⟨#[45]⟩
theorem chs_lit {z:Str}(h:z.cps.toList.all (fun c=>decide (33≤c∧c≠35∧c<128))=true):chs z:=fun c hc=>by simpa using List.all_eq_true.mp h c hc
theorem mi_chs:chs mi:=chs_lit (by decide)
theorem num_chs {n:Int}(h:0≤n):chs (num n):=(sg_num h).2
theorem mi_len:mi.length=1:=rfl
def zsN (g x m:Int):List Str:=[num (g+1),num x++mi++num (g+1+m % 7),("0":Str)++num x,"00",num (x+1)++mi++num x]++[num (g+1+m),("+":Str)++num x,mi++num x,num x++mi,num x++mi++num x++mi++num x]++[("12345678901":Str),"1_0","0x1","1.0","x","0-03","-","1/1","0--1","00000000001","4294967296"]
def litsN:List Str:=["00","12345678901","1_0","0x1","1.0","x","0-03","-","1/1","0--1","00000000001","4294967296"]
theorem litsN_bad (g:Nat)(hg:g=3∨g=255∨g=65535):∀ z∈litsN,badN g z∧Wd z:=by
 have h:∀ g∈[3,255,65535],∀ z∈litsN,((Txt.split z ⟨#[45]⟩).any fun x=>!nOk g x.cps.toList)=true∧litB z=true:=by decide +kernel
 intro z hz
 have:=h g (by simpa using hg) z hz
 refine ⟨badN_split rfl (.inl ?_),wd_lit this.2⟩
 obtain ⟨x,hx,n⟩:=List.any_eq_true.mp this.1
 exact ⟨x,hx,by simpa using n⟩
theorem num_len12 {n:Int}(h:0≤n)(h':n<10 ^ 11):(num n).length≤12:=by
 have a:=int_text_length_le10 (a:=n) (k:=11) (by decide) (by omega)
 have b:(Str.ofString (toString n)).length=(toString n).length:=by
  rw [str_len,Str.ofString_eq_toList]
  simp [String.length_toList]
 show (Str.ofString (toString n)).length≤12
 rw [b]
 exact a
theorem zsN_bad {g:Nat}{x m:Int}(hg:g=3∨g=255∨g=65535)(x0:0≤x)(x1:x≤g)(m0:0≤m)(m1:m<2 ^ 33):∀ z∈zsN g x m,badN g z∧Wd z:=by
 have g1:g≤65535:=by omega
 have no:∀ {n:Int},0≤n→45∉(num n).cps.toList:=fun h=>num_no h (by decide)
 have len:∀ {n:Int},0≤n→n<10 ^ 11→(num n).length≤12:=fun {n} h h'=>num_len12 h h'
 have emp:nOk g (⟨#[]⟩:Str).cps.toList=false:=rfl
 have le:(⟨#[]⟩:Str).length=0:=rfl
 have lits:=litsN_bad g hg
 intro z hz
 unfold zsN at hz
 simp only [List.cons_append,List.nil_append,List.mem_cons,List.not_mem_nil,or_false] at hz
 rcases hz with rfl | rfl | rfl | rfl | rfl | rfl | rfl | rfl | rfl | rfl | hz
 ·exact ⟨badN_split (one_split (no (by omega))) (.inl ⟨_,List.mem_cons_self,num_big (by omega)⟩),sg_num (by omega),Nat.le_trans (len (by omega) (by omega)) (by decide)⟩
 ·have a:=len x0 (by omega)
  have b:=len (n:=(g:Int)+1+m % 7) (by omega) (by omega)
  refine ⟨badN_split (two_split (no x0) (no (by omega))) (.inl ⟨_,List.mem_cons_of_mem _ List.mem_cons_self,num_big (by omega)⟩),sg_app (sg_num x0) (sg_num (by omega)) (by decide),?_⟩
  rw [Str.length_append,Str.length_append,mi_len]
  omega
 ·have a:=len x0 (by omega)
  have l0:("0":Str).length=1:=by decide +kernel
  have e0:("0":Str)=⟨#[48]⟩:=by decide +kernel
  refine ⟨badN_split (one_split ?_) (.inl ⟨_,List.mem_cons_self,?_⟩),sg_r (chs_lit (by decide +kernel)) (sg_num x0),?_⟩
  ·rw [app_list,e0]
   intro hc
   rcases List.mem_append.mp hc with hc | hc
   ·exact absurd hc (by decide)
   ·exact no x0 hc
  ·rw [e0]
   exact nT_zero (num_ne x0)
  ·rw [Str.length_append,l0]
   omega
 ·exact lits _ (by decide +kernel)
 ·have a:=len (n:=x+1) (by omega) (by omega)
  have b:=len x0 (by omega)
  refine ⟨?_,sg_app (sg_num (by omega)) (sg_num x0) (by decide),?_⟩
  ·rintro lo hi ⟨_,a,b,tw,na,nb,ea,eb,le⟩
   rw [show num (x+1)++mi++num x=num (x+1)++⟨#[45]⟩++num x from rfl,two_split (no (by omega)) (no x0)] at tw
   rcases tw with ⟨e,_⟩ | e
   ·cases e
   ·cases e
    have v1:numV (num (x+1))=x+1:=num_val' (by omega)
    have v2:numV (num x)=x:=num_val' x0
    omega
  ·rw [Str.length_append,Str.length_append,mi_len]
   omega
 ·exact ⟨badN_split (one_split (no (by omega))) (.inl ⟨_,List.mem_cons_self,num_big (by omega)⟩),sg_num (by omega),Nat.le_trans (len (by omega) (by omega)) (by decide)⟩
 ·have a:=len x0 (by omega)
  have l0:("+":Str).length=1:=by decide +kernel
  have e0:("+":Str).cps.toList=[43]:=by decide +kernel
  refine ⟨badN_split (one_split ?_) (.inl ⟨_,List.mem_cons_self,nT_sign (c:=43) (by rw [app_list,e0]; simp) (by decide)⟩),sg_r (chs_lit (by decide +kernel)) (sg_num x0),?_⟩
  ·rw [app_list,e0]
   intro hc
   rcases List.mem_append.mp hc with hc | hc
   ·exact absurd hc (by decide)
   ·exact no x0 hc
  ·rw [Str.length_append,l0]
   omega
 ·have a:=len x0 (by omega)
  have e:mi++num x=(⟨#[]⟩:Str)++⟨#[45]⟩++num x:=str_ext (by simp only [app_list]; rfl)
  refine ⟨badN_split (by rw [e]; exact two_split (by simp) (no x0)) (.inl ⟨_,List.mem_cons_self,emp⟩),sg_r mi_chs (sg_num x0),?_⟩
  rw [Str.length_append,mi_len]
  omega
 ·have a:=len x0 (by omega)
  have e:num x++mi=num x++⟨#[45]⟩++(⟨#[]⟩:Str):=str_ext (by simp only [app_list]; simp [mi])
  refine ⟨badN_split (by rw [e]; exact two_split (no x0) (by simp)) (.inl ⟨_,List.mem_cons_of_mem _ List.mem_cons_self,emp⟩),sg_l (sg_num x0) mi_chs,?_⟩
  rw [Str.length_append,mi_len]
  omega
 ·have a:=len x0 (by omega)
  refine ⟨badN_split (three_split (no x0) (no x0) (no x0)) (.inr (by simp)),sg_l (sg_l (sg_l (sg_l (sg_num x0) mi_chs) (num_chs x0)) mi_chs) (num_chs x0),?_⟩
  simp only [Str.length_append,mi_len]
  omega
 ·refine lits z ?_
  unfold litsN
  simp only [List.mem_cons,List.not_mem_nil,or_false]
  exact .inr hz
--CUT--
def zsA (x:Int):List Str:=([("256.0.0.0":Str),"1.2.3","1.2.3.4.5","01.2.3.4",dot x++"/33",dot x++"/",dot x++"/08",dot x++"/\x2d1", "/8"] ++ [dot x ++ mi, mi ++ dot x, dot (x + 1) ++ mi ++ dot x, dot x ++ mi ++ dot x ++ "/8", dot x ++ "/8-9"] ++ [dot x ++ "/8/9", num x, "1..2.3", "+1.2.3.4", dot x ++ "/4294967304", "-", "/"])++[dot x++mi++dot x++mi++dot x]
def litsA:List Str:=["256.0.0.0","1.2.3","1.2.3.4.5","01.2.3.4","1..2.3","+1.2.3.4","-"]
theorem litsA_bad:∀ z∈litsA,badA z∧Wd z:=by
 have h:∀ z∈litsA,47∉z.cps.toList∧((Txt.split z ⟨#[45]⟩).any fun x=>!aOk x)=true∧litB z=true:=by decide +kernel
 intro z hz
 obtain ⟨h1,h2,h3⟩:=h z hz
 refine ⟨badA_split h1 rfl (.inl ?_),wd_lit h3⟩
 obtain ⟨x,hx,n⟩:=List.any_eq_true.mp h2
 exact ⟨x,hx,by simpa using n⟩
theorem zsA_bad {x:Int}(x0:0≤x)(x1:x<4294967295):∀ z∈zsA x,badA z∧Wd z:=by
 have no:∀ {c:Nat},c=45∨c=47→c∉(dot x).cps.toList:=fun h=>dot_no x0 (by omega) h
 have sg:=sg_dot x0 (show x≤4294967295 by omega)
 have dl:=dot_len x0 (show x≤4294967295 by omega)
 have dch:chs (dot x):=sg.2
 have emp:aOk (⟨#[]⟩:Str)=false:=by decide +kernel
 /- behind a slash stands what is none of the bits -/
 have sl:∀ (s b:Str),s.cps.toList=47::b.cps.toList→nOk 32 b.cps.toList=false→s.cps.toList.all (fun c=>decide (33≤c∧c≠35∧c<128))=true→s.length≤20→badA (dot x++s)∧Wd (dot x++s):=fun s b e n c l=>⟨badA_slash (by rw [app_list,e]) (no (.inr rfl)) (.inr n),sg_l sg (chs_lit c),by rw [Str.length_append]; omega⟩
 intro z hz
 unfold zsA at hz
 simp only [List.cons_append,List.nil_append,List.mem_cons,List.not_mem_nil,or_false] at hz
 rcases hz with rfl | rfl | rfl | rfl | rfl | rfl | rfl | rfl | rfl | rfl | rfl | rfl | rfl | rfl | rfl | rfl | rfl | rfl | rfl | rfl | rfl | rfl
 ·exact litsA_bad _ (by decide +kernel)
 ·exact litsA_bad _ (by decide +kernel)
 ·exact litsA_bad _ (by decide +kernel)
 ·exact litsA_bad _ (by decide +kernel)
 ·exact sl _ "33" (by decide +kernel) (by decide +kernel) (by decide +kernel) (by decide +kernel)
 ·exact sl _ "" (by decide +kernel) (by decide +kernel) (by decide +kernel) (by decide +kernel)
 ·exact sl _ "08" (by decide +kernel) (by decide +kernel) (by decide +kernel) (by decide +kernel)
 ·exact sl _ "-1" (by decide +kernel) (by decide +kernel) (by decide +kernel) (by decide +kernel)
 ·exact ⟨badA_slash (a:=⟨#[]⟩) (b:="8") (by decide +kernel) (by simp) (.inl emp),wd_lit (by decide +kernel)⟩
 ·have e:dot x++mi=dot x++⟨#[45]⟩++(⟨#[]⟩:Str):=str_ext (by simp only [app_list]; simp [mi])
  refine ⟨badA_split ?_ (by rw [e]; exact two_split (no (.inl rfl)) (by simp)) (.inl ⟨_,List.mem_cons_of_mem _ List.mem_cons_self,emp⟩),sg_l sg mi_chs,?_⟩
  ·rw [app_list]
   intro hc
   rcases List.mem_append.mp hc with hc | hc
   ·exact no (.inr rfl) hc
   ·exact absurd hc (by decide)
  ·rw [Str.length_append,mi_len]
   omega
 ·have e:mi++dot x=(⟨#[]⟩:Str)++⟨#[45]⟩++dot x:=str_ext (by simp only [app_list]; rfl)
  refine ⟨badA_split ?_ (by rw [e]; exact two_split (by simp) (no (.inl rfl))) (.inl ⟨_,List.mem_cons_self,emp⟩),sg_r mi_chs sg,?_⟩
  ·rw [app_list]
   intro hc
   rcases List.mem_append.mp hc with hc | hc
   ·exact absurd hc (by decide)
   ·exact no (.inr rfl) hc
  ·rw [Str.length_append,mi_len]
   omega
 ·have d2:=dot_len (n:=x+1) (by omega) (by omega)
  have n2:∀ {c:Nat},c=45∨c=47→c∉(dot (x+1)).cps.toList:=fun h=>dot_no (by omega) (by omega) h
  have ee:dot (x+1)++mi++dot x=dot (x+1)++⟨#[45]⟩++dot x:=by rw [show mi=(⟨#[45]⟩:Str) from rfl]
  refine ⟨?_,sg_app (sg_dot (by omega) (by omega)) sg (by decide),?_⟩
  ·rw [ee]
   rintro lo hi (⟨_,a,b,tw,na,nb,ea,eb,le⟩ | ⟨a,b,l,_⟩)
   ·rw [two_split (n2 (.inl rfl)) (no (.inl rfl))] at tw
    rcases tw with ⟨e,_⟩ | e
    ·cases e
    ·cases e
     have v1:=dot_val (n:=x+1) (by omega) (by omega)
     have v2:=dot_val x0 (show x≤4294967295 by omega)
     omega
   ·have:47∈(dot (x+1)++⟨#[45]⟩++dot x).cps.toList:=by rw [l]; simp
    rw [app3_list] at this
    rcases List.mem_append.mp this with hc | hc
    ·exact n2 (.inr rfl) hc
    ·rcases List.mem_cons.mp hc with hc | hc
     ·cases hc
     ·exact no (.inr rfl) hc
  ·rw [Str.length_append,Str.length_append,mi_len]
   omega
 ·have e8:("/8":Str).cps.toList=47::("8":Str).cps.toList:=by decide +kernel
  have l8:("/8":Str).length=2:=by decide +kernel
  have tw:aOk (dot x++mi++dot x)=false:=by
   have e:dot x++mi++dot x=dot x++⟨#[45]⟩++dot x:=by rw [show mi=(⟨#[45]⟩:Str) from rfl]
   rw [e]
   exact dot_twice x0 (by omega)
  refine ⟨badA_slash (a:=dot x++mi++dot x) (b:="8") (by rw [app_list,e8]) ?_ (.inl tw),sg_l (sg_l (sg_l sg mi_chs) dch) (chs_lit (by decide +kernel)),?_⟩
  ·rw [show mi=(⟨#[45]⟩:Str) from rfl,app3_list]
   intro hc
   rcases List.mem_append.mp hc with hc | hc
   ·exact no (.inr rfl) hc
   ·rcases List.mem_cons.mp hc with hc | hc
    ·cases hc
    ·exact no (.inr rfl) hc
  ·simp only [Str.length_append,mi_len,l8]
   omega
 ·exact sl _ "8-9" (by decide +kernel) (by decide +kernel) (by decide +kernel) (by decide +kernel)
 ·exact sl _ "8/9" (by decide +kernel) (by decide +kernel) (by decide +kernel) (by decide +kernel)
 ·have l:=num_len10 x0 (by omega)
  refine ⟨badA_split (num_no x0 (by decide)) (one_split (num_no x0 (by decide))) (.inl ⟨_,List.mem_cons_self,?_⟩),sg_num x0,Nat.le_trans l (by decide)⟩
  unfold aOk
  rw [one_split (num_no x0 (by decide))]
  rfl
 ·exact litsA_bad _ (by decide +kernel)
 ·exact litsA_bad _ (by decide +kernel)
 ·exact sl _ "4294967304" (by decide +kernel) (by decide +kernel) (by decide +kernel) (by decide +kernel)
 ·exact litsA_bad _ (by decide +kernel)
 ·exact ⟨badA_slash (a:=⟨#[]⟩) (b:=⟨#[]⟩) (by decide +kernel) (by simp) (.inl emp),wd_lit (by decide +kernel)⟩
 ·refine ⟨badA_split ?_ (three_split (no (.inl rfl)) (no (.inl rfl)) (no (.inl rfl))) (.inr (by simp)),sg_l (sg_l (sg_l (sg_l sg mi_chs) dch) mi_chs) dch,?_⟩
  ·simp only [app_list]
   intro hc
   simp only [List.mem_append] at hc
   rcases hc with (((hc | hc) | hc) | hc) | hc
   ·exact no (.inr rfl) hc
   ·exact absurd hc (by decide)
   ·exact no (.inr rfl) hc
   ·exact absurd hc (by decide)
   ·exact no (.inr rfl) hc
  ·simp only [Str.length_append,mi_len]
   omega
--CUT--
def spAddr:Sp:=fun vs H Q _=>∃ n:Int,vs=[.int n]∧0≤n∧n≤4294967295∧∀ H',Same H H'→Q (.str (dot n)) H'
def szs:List Int:=[16777216,65536,256,1]
theorem ok_addr (F:Fun K "_law_address" "_law_address" s__law_address f fd)(b_str:mg "str"=none):FnOk P w K mg base CX0 1 f fd ["_law_number"] spAddr:=by
 refine F.ok sc__law_address (fun vs H Q E h=>?_) (fun cdv A outer s H vs Q E hr h=>?_)
 ·obtain ⟨_,rfl,_⟩:=h
  rfl
 obtain ⟨n,rfl,n0,n1,q⟩:=h
 have ed:Str.join ⟨#[46]⟩ [num (n / 16777216 % 256),num (n / 65536 % 256),num (n / 256 % 256),num (n / 1 % 256)]=dot n:=by
  unfold dot
  rw [show n / 16777216 % 256=n / 16777216 by omega,show n / 1 % 256=n % 256 by omega]
 rw [← ed] at q
 refine ⟨_,(@pss_cons _ _ _ _ _ (@ps_set _ _ (1) _ _ _ _ sc__law_address.nd rfl (Or.inl rfl) (@pe_lst _ _ _ _ pa_nil) (by rfl) (by first | exact .inl rfl | exact .inr rfl | assumption)) (@pss_cons _ _ _ _ _ (@ps_for _ _ _ _ _ _ _ _ PassesOwn.never rfl (@pi_list _ _ _ _ (@pe_lst _ _ _ _ (@pa_cons _ _ _ _ _ pe_int (@pa_cons _ _ _ _ _ pe_int (@pa_cons _ _ _ _ _ pe_int (@pa_cons _ _ _ _ _ pe_int pa_nil (by rfl)) (by rfl)) (by rfl)) (by rfl)))) (@pg_name _ _ (2) _ sc__law_address.nd rfl (Or.inl rfl) (by first | exact .inl rfl | exact .inr rfl | assumption)) (@pss_one _ _ _ (@ps_expr _ _ _ _ (@pe_bm _ _ _ _ _ _ _ _ _ _ _ _ PySem.F.plainAttrs_list PySem.F.slot_list_append PySem.F.type_list_append mt_append (pv 1) (@pa_cons _ _ _ _ _ (@pe_callTy _ _ _ _ _ _ _ _ _ call_strI rfl b_str bo_str (@pa_cons _ _ _ _ _ (@pe_op _ _ _ _ _ _ _ _ op_mod (@pe_op _ _ _ _ _ _ _ _ op_divW (pv 0) (pv 2)) pe_int) pa_nil (by rfl)) (by decide) (by decide) (by rfl) (by rfl)) pa_nil (by rfl)) (by rfl) (by rfl) (by rfl) (by rfl) (by rfl)) (by rfl))) (by intro _; rfl)) (@pss_one _ _ _ (@ps_ret _ _ _ _ (@pe_bm _ _ _ _ _ _ _ _ _ _ _ _ PySem.F.plainAttrs_str PySem.F.slot_str_join PySem.F.type_str_join mt_join pe_str (@pa_cons _ _ _ _ _ (pv 1) pa_nil (by rfl)) (by rfl) (by rfl) (by rfl) (by rfl) (by rfl)))))),?_⟩
 rw [st__law_address]
 walk_at "sv"
 refine LstR.go (by simp) fun l nl=>?_
 have s1:=same_new nl (.lst [])
 refine LstR.go (by simp) fun m nm=>?_
 have s2:=same_new nm (.lst (szs.map V.int))
 have hm:upd (upd H l (.lst [])) m (.lst (szs.map V.int)) m=some (.lst (szs.map V.int)):=upd_same
 have hl0:=s2 _ _ (upd_same (H:=H) (a:=l) (o:=.lst []))
 have nml:m≠l:=fun z=>by
  rw [z,upd_same] at nm
  cases nm
 refine IlR.go (SqL.of hm) ?_
 refine ForR.items itl (fun i σ H'=>H' m=some (.lst (szs.map V.int))∧H' l=some (.lst (((szs.take i).map fun z=>num (n / z % 256)).map V.str))∧Same H H'∧∃ y,σ=[some (.int n),some (.ref l),y]) ⟨hm,hl0,s1.trans s2,none,rfl⟩ (fun i σ H' pv=>SqL.of pv.1) (fun i x σ H' hx pv=>?_) (fun σ H' pv=>?_)
 ·obtain ⟨hm',hl',sm,y,rfl⟩:=pv
  rw [List.getElem?_map] at hx
  cases e:szs[i]? with
  | none=>rw [e] at hx; cases hx
  | some z =>
   rw [e] at hx
   obtain rfl:x=.int z:=(Option.some.inj hx).symm
   have zp:0<z∧z<18446744073709551616:=by
    have:∀ z∈szs,0<z∧z<18446744073709551616:=by decide
    exact this z (List.mem_of_getElem? e)
   walk_at "sv"
   refine ⟨ty_lst hl',zp,by decide,?_⟩
   have p1:0≤n / z % 256:=Int.emod_nonneg _ (by decide)
   have p2:n / z % 256<256:=Int.emod_lt_of_pos _ (by decide)
   refine strI_go (log_small p1 (by omega)) ?_
   have l4:szs.length=4:=rfl
   refine app_go hl' (by simp only [List.length_map,List.length_take]; omega) ?_
   refine ⟨(upd_ne nml).trans hm',?_,sm.put nl,_,rfl⟩
   rw [upd_same,List.take_add_one,e,List.map_append,List.map_append]
   rfl
 ·obtain ⟨hm',hl',sm,y,rfl⟩:=pv
  walk_at "sv"
  rw [lit_dot]
  refine join_go (ws:=[num (n / 16777216 % 256),num (n / 65536 % 256),num (n / 256 % 256),num (n / 1 % 256)]) (SqL.of hl') (joinOk_small ?_) (q _ sm)
  have pl:∀ k:Int,(num (k % 256)).length≤10:=fun k=>PySem.W.KT.len_num (Int.emod_nonneg _ (by decide)) (by have:=Int.emod_lt_of_pos k (show (0:Int)<256 by decide); omega)
  have p1:=pl (n / 16777216)
  have p2:=pl (n / 65536)
  have p3:=pl (n / 256)
  have p4:=pl (n / 1)
  have c:(⟨#[46]⟩:Str).length=1:=rfl
  simp only [List.map_cons,List.map_nil,List.sum_cons,List.sum_nil,List.length_cons,List.length_nil,c]
  omega
def spBadN:Sp:=fun vs H Q _=>∃ (g:Nat) (d m:Int),vs=[.int (g:Int),.int d,.int m]∧(g=3∨g=255∨g=65535)∧0≤m∧m<2 ^ 33∧∀ z H',Same H H'→badN g z→Wd z→Q (.str z) H'
theorem ok_badN (F:Fun K "_law_bad_number" "_law_bad_number" s__law_bad_number f fd)(b_str:mg "str"=none):FnOk P w K mg base CX0 1 f fd ["_law_top","_law_draw","_law_more"] spBadN:=by
 refine F.ok sc__law_bad_number (fun vs H Q E h=>?_) (fun cdv A outer s H vs Q E hr h=>?_)
 ·obtain ⟨_,_,_,rfl,_⟩:=h
  rfl
 obtain ⟨g,d,m,rfl,hg,m0,m1,q⟩:=h
 have g1:g≤65535:=by omega
 have x0:0≤m % ((g:Int)+1):=Int.emod_nonneg _ (by omega)
 have x1:m % ((g:Int)+1)<(g:Int)+1:=Int.emod_lt_of_pos _ (by omega)
 refine ⟨_,(@pss_cons _ _ _ _ _ (@ps_set _ _ (3) _ _ _ _ sc__law_bad_number.nd rfl (Or.inl rfl) (@pe_op _ _ _ _ _ _ _ _ op_mod (pv 2) (@pe_op _ _ _ _ _ _ _ _ op_add (pv 0) pe_int)) (by rfl) (by first | exact .inl rfl | exact .inr rfl | assumption)) (@pss_cons _ _ _ _ _ (@ps_set _ _ (4) _ _ _ _ sc__law_bad_number.nd rfl (Or.inl rfl) (@pe_lst _ _ _ _ (@pa_cons _ _ _ _ _ (@pe_callTy _ _ _ _ _ _ _ _ _ call_strI rfl b_str bo_str (@pa_cons _ _ _ _ _ (@pe_op _ _ _ _ _ _ _ _ op_add (pv 0) pe_int) pa_nil (by rfl)) (by decide) (by decide) (by rfl) (by rfl)) (@pa_cons _ _ _ _ _ (@pe_op _ _ _ _ _ _ _ _ op_addS (@pe_op _ _ _ _ _ _ _ _ op_addS (@pe_callTy _ _ _ _ _ _ _ _ _ call_strI rfl b_str bo_str (@pa_cons _ _ _ _ _ (pv 3) pa_nil (by rfl)) (by decide) (by decide) (by rfl) (by rfl)) pe_str) (@pe_callTy _ _ _ _ _ _ _ _ _ call_strI rfl b_str bo_str (@pa_cons _ _ _ _ _ (@pe_op _ _ _ _ _ _ _ _ op_add (@pe_op _ _ _ _ _ _ _ _ op_add (pv 0) pe_int) (@pe_op _ _ _ _ _ _ _ _ op_mod (pv 2) pe_int)) pa_nil (by rfl)) (by decide) (by decide) (by rfl) (by rfl))) (@pa_cons _ _ _ _ _ (@pe_op _ _ _ _ _ _ _ _ op_addS pe_str (@pe_callTy _ _ _ _ _ _ _ _ _ call_strI rfl b_str bo_str (@pa_cons _ _ _ _ _ (pv 3) pa_nil (by rfl)) (by decide) (by decide) (by rfl) (by rfl))) (@pa_cons _ _ _ _ _ pe_str (@pa_cons _ _ _ _ _ (@pe_op _ _ _ _ _ _ _ _ op_addS (@pe_op _ _ _ _ _ _ _ _ op_addS (@pe_callTy _ _ _ _ _ _ _ _ _ call_strI rfl b_str bo_str (@pa_cons _ _ _ _ _ (@pe_op _ _ _ _ _ _ _ _ op_add (pv 3) pe_int) pa_nil (by rfl)) (by decide) (by decide) (by rfl) (by rfl)) pe_str) (@pe_callTy _ _ _ _ _ _ _ _ _ call_strI rfl b_str bo_str (@pa_cons _ _ _ _ _ (pv 3) pa_nil (by rfl)) (by decide) (by decide) (by rfl) (by rfl))) pa_nil (by rfl)) (by rfl)) (by rfl)) (by rfl)) (by rfl))) (by rfl) (by first | exact .inl rfl | exact .inr rfl | assumption)) (@pss_cons _ _ _ _ _ (@ps_set _ _ (4) _ _ _ _ sc__law_bad_number.nd rfl (Or.inl rfl) (@pe_op _ _ _ _ _ _ _ _ op_catQ (pv 4) (@pe_lst _ _ _ _ (@pa_cons _ _ _ _ _ (@pe_callTy _ _ _ _ _ _ _ _ _ call_strI rfl b_str bo_str (@pa_cons _ _ _ _ _ (@pe_op _ _ _ _ _ _ _ _ op_add (@pe_op _ _ _ _ _ _ _ _ op_add (pv 0) pe_int) (pv 2)) pa_nil (by rfl)) (by decide) (by decide) (by rfl) (by rfl)) (@pa_cons _ _ _ _ _ (@pe_op _ _ _ _ _ _ _ _ op_addS pe_str (@pe_callTy _ _ _ _ _ _ _ _ _ call_strI rfl b_str bo_str (@pa_cons _ _ _ _ _ (pv 3) pa_nil (by rfl)) (by decide) (by decide) (by rfl) (by rfl))) (@pa_cons _ _ _ _ _ (@pe_op _ _ _ _ _ _ _ _ op_addS pe_str (@pe_callTy _ _ _ _ _ _ _ _ _ call_strI rfl b_str bo_str (@pa_cons _ _ _ _ _ (pv 3) pa_nil (by rfl)) (by decide) (by decide) (by rfl) (by rfl))) (@pa_cons _ _ _ _ _ (@pe_op _ _ _ _ _ _ _ _ op_addS (@pe_callTy _ _ _ _ _ _ _ _ _ call_strI rfl b_str bo_str (@pa_cons _ _ _ _ _ (pv 3) pa_nil (by rfl)) (by decide) (by decide) (by rfl) (by rfl)) pe_str) (@pa_cons _ _ _ _ _ (@pe_op _ _ _ _ _ _ _ _ op_addS (@pe_op _ _ _ _ _ _ _ _ op_addS (@pe_op _ _ _ _ _ _ _ _ op_addS (@pe_op _ _ _ _ _ _ _ _ op_addS (@pe_callTy _ _ _ _ _ _ _ _ _ call_strI rfl b_str bo_str (@pa_cons _ _ _ _ _ (pv 3) pa_nil (by rfl)) (by decide) (by decide) (by rfl) (by rfl)) pe_str) (@pe_callTy _ _ _ _ _ _ _ _ _ call_strI rfl b_str bo_str (@pa_cons _ _ _ _ _ (pv 3) pa_nil (by rfl)) (by decide) (by decide) (by rfl) (by rfl))) pe_str) (@pe_callTy _ _ _ _ _ _ _ _ _ call_strI rfl b_str bo_str (@pa_cons _ _ _ _ _ (pv 3) pa_nil (by rfl)) (by decide) (by decide) (by rfl) (by rfl))) pa_nil (by rfl)) (by rfl)) (by rfl)) (by rfl)) (by rfl)))) (by rfl) (by first | exact .inl rfl | exact .inr rfl | assumption)) (@pss_cons _ _ _ _ _ (@ps_set _ _ (4) _ _ _ _ sc__law_bad_number.nd rfl (Or.inl rfl) (@pe_op _ _ _ _ _ _ _ _ op_catQ (pv 4) (@pe_lst _ _ _ _ (@pa_consts _ _ _ rfl))) (by rfl) (by first | exact .inl rfl | exact .inr rfl | assumption)) (@pss_one _ _ _ (@ps_ret _ _ _ _ (@pe_ix _ _ _ _ _ _ _ ix_list (pv 4) (@pe_op _ _ _ _ _ _ _ _ op_mod (pv 1) pe_int) (fun _ _=>rfl)))))))),?_⟩
 rw [st__law_bad_number]
 walk_at "sv"
 refine ⟨by omega,?_⟩
 generalize m % ((g:Int)+1)=x at *
 have bad:=zsN_bad hg x0 (by omega) m0 m1
 unfold zsN at bad
 have nl:(num x).length≤12:=num_len12 x0 (by omega)
 have nl':(Str.ofString (toString x)).length≤12:=nl
 have nl2:(Str.ofString (toString (x+1))).length≤12:=num_len12 (n:=x+1) (by omega) (by omega)
 have nl3:(Str.ofString (toString ((g:Int)+1+m % 7))).length≤12:=num_len12 (n:=(g:Int)+1+m % 7) (by omega) (by omega)
 have lm:(⟨#[45]⟩:Str).length=1:=rfl
 have l0:("0":Str).length=1:=by decide +kernel
 have lp:("+":Str).length=1:=by decide +kernel
 walk_at "sv"
 refine strI_go (log_small (by omega) (by omega)) ?_
 walk_at "sv"
 refine strI_go (log_small x0 (by omega)) ?_
 rw [lit_minus]
 refine addS_go (by rw [lm]; omega) ?_
 walk_at "sv"
 refine ⟨by decide,?_⟩
 refine strI_go (log_small (by omega) (by omega)) ?_
 refine addS_go (by rw [Str.length_append,lm]; omega) ?_
 walk_at "sv"
 refine strI_go (log_small x0 (by omega)) ?_
 refine addS_go (by rw [l0]; omega) ?_
 walk_at "sv"
 refine strI_go (log_small (by omega) (by omega)) ?_
 refine addS_go (by rw [lm]; omega) ?_
 walk_at "sv"
 refine strI_go (log_small x0 (by omega)) ?_
 refine addS_go (by rw [Str.length_append,lm]; omega) ?_
 refine LstR.go (by simp) fun l1 n1=>?_
 have s1:=same_new n1 (.lst ([num ((g:Int)+1),num x++mi++num ((g:Int)+1+m % 7),("0":Str)++num x,"00",num (x+1)++mi++num x].map V.str))
 generalize eh1:upd H l1 _=H1
 have h1:H1 l1=some (.lst ([num ((g:Int)+1),num x++mi++num ((g:Int)+1+m % 7),("0":Str)++num x,"00",num (x+1)++mi++num x].map V.str)):=by rw [← eh1]; exact upd_same
 have s1:Same H H1:=by rw [← eh1]; exact s1
 clear eh1
 walk_at "sv"
 refine strI_go (log_small (by omega) (by omega)) ?_
 walk_at "sv"
 refine strI_go (log_small x0 (by omega)) ?_
 refine addS_go (by rw [lp]; omega) ?_
 walk_at "sv"
 refine strI_go (log_small x0 (by omega)) ?_
 refine addS_go (by rw [lm]; omega) ?_
 walk_at "sv"
 refine strI_go (log_small x0 (by omega)) ?_
 refine addS_go (by rw [lm]; omega) ?_
 walk_at "sv"
 refine strI_go (log_small x0 (by omega)) ?_
 refine addS_go (by rw [lm]; omega) ?_
 walk_at "sv"
 refine strI_go (log_small x0 (by omega)) ?_
 refine addS_go (by rw [Str.length_append,lm]; omega) ?_
 refine addS_go (by rw [Str.length_append,Str.length_append,lm]; omega) ?_
 walk_at "sv"
 refine strI_go (log_small x0 (by omega)) ?_
 refine addS_go (by rw [Str.length_append,Str.length_append,Str.length_append,lm]; omega) ?_
 refine LstR.go (by simp) fun l2 n2=>?_
 have s2:=same_new n2 (.lst ([num ((g:Int)+1+m),("+":Str)++num x,mi++num x,num x++mi,num x++mi++num x++mi++num x].map V.str))
 generalize eh2:upd H1 l2 _=H2
 have h2:H2 l2=some (.lst ([num ((g:Int)+1+m),("+":Str)++num x,mi++num x,num x++mi,num x++mi++num x++mi++num x].map V.str)):=by rw [← eh2]; exact upd_same
 have s2:Same H1 H2:=by rw [← eh2]; exact s2
 clear eh2
 refine catQ_go (SqL.of (s2 _ _ h1)) (SqL.of h2) (by simp) fun l3 n3=>?_
 rw [← List.map_append]
 generalize ez:[num ((g:Int)+1),num x++mi++num ((g:Int)+1+m % 7),("0":Str)++num x,"00",num (x+1)++mi++num x]++[num ((g:Int)+1+m),("+":Str)++num x,mi++num x,num x++mi,num x++mi++num x++mi++num x]=zs at *
 have zl:zs.length=10:=by rw [← ez]; rfl
 have s3:=same_new n3 (.lst (zs.map V.str))
 have h3:upd H2 l3 (.lst (zs.map V.str)) l3=some (.lst (zs.map V.str)):=upd_same
 generalize upd H2 l3 (.lst (zs.map V.str))=H3 at *
 walk_at "sv"
 refine LstR.go (by simp) fun l4 n4=>?_
 have s4:=same_new n4 (.lst ([("12345678901":Str),"1_0","0x1","1.0","x","0-03","-","1/1","0--1","00000000001","4294967296"].map V.str))
 generalize eh4:upd H3 l4 _=H4
 have h4:H4 l4=some (.lst ([("12345678901":Str),"1_0","0x1","1.0","x","0-03","-","1/1","0--1","00000000001","4294967296"].map V.str)):=by rw [← eh4]; exact upd_same
 have s4:Same H3 H4:=by rw [← eh4]; exact s4
 clear eh4
 refine catQ_go (SqL.of (s4 _ _ h3)) (SqL.of h4) (by rw [List.length_map,zl]; simp) fun l5 n5=>?_
 rw [← List.map_append]
 generalize ey:zs++[("12345678901":Str),"1_0","0x1","1.0","x","0-03","-","1/1","0--1","00000000001","4294967296"]=ys at *
 have yl:ys.length=21:=by rw [← ey,List.length_append,zl]; rfl
 have s5:=same_new n5 (.lst (ys.map V.str))
 walk_at "sv"
 refine ⟨by decide,?_⟩
 obtain ⟨k,ek,k21⟩:∃ k:Nat,d % 21=(k:Int)∧k<21:=⟨(d % 21).toNat,by omega,by omega⟩
 rw [ek]
 obtain ⟨z,ezk⟩:∃ z,ys[k]?=some z:=⟨ys[k]'(by omega),List.getElem?_eq_getElem _⟩
 refine ixL_go (i:=k) (SqL.of upd_same) (by rw [List.getElem?_map,ezk]; rfl) ?_
 obtain ⟨b1,b2⟩:=bad z (List.mem_of_getElem? ezk)
 exact q z _ ((((s1.trans s2).trans s3).trans s4).trans s5) b1 b2
--CUT--
def spBadA:Sp:=fun vs H Q _=>∃ d m:Int,vs=[.int d,.int m]∧∀ z H',Same H H'→badA z→Wd z→Q (.str z) H'
theorem seq_hid {t u:TS}{D:Ends}{σ:L2.St}{H:Hp}(h:∀ N:L2.St→Hp→Prop,(∀ σ H,u D σ H→N σ H)→t { D with nx:=N } σ H):tSeq t u D σ H:=h _ fun _ _ z=>z
theorem consC {v:V}{t:TA}{σ:L2.St}{H:Hp}{Q:List V→Hp→Prop}(h:t σ H fun vs H1=>Q (v::vs) H1):tCons (tC v) t σ H Q:=h
theorem ok_badA (F:Fun K "_law_bad_address" "_law_bad_address" s__law_bad_address f fd)(g__law_address:Fn P w K mg base "_law_address" 1 ["_law_number"] spAddr)(b_str:mg "str"=none):FnOk P w K mg base CX0 2 f fd ["_law_draw","_law_more"] spBadA:=by
 refine F.ok sc__law_bad_address (fun vs H Q E h=>?_) (fun cdv A outer s H vs Q E hr h=>?_)
 ·obtain ⟨_,_,rfl,_⟩:=h
  rfl
 obtain ⟨d,m,rfl,q⟩:=h
 have x0:0≤m % 4294967295:=by omega
 have x1:m % 4294967295<4294967295:=by omega
 refine ⟨_,(@pss_cons _ _ _ _ _ (@ps_set _ _ (2) _ _ _ _ sc__law_bad_address.nd rfl (Or.inl rfl) (@pe_op _ _ _ _ _ _ _ _ op_mod (pv 1) pe_int) (by rfl) (by first | exact .inl rfl | exact .inr rfl | assumption)) (@pss_cons _ _ _ _ _ (@ps_set _ _ (3) _ _ _ _ sc__law_bad_address.nd rfl (Or.inl rfl) (@pe_fn _ _ _ _ _ _ _ _ _ _ _ g__law_address hr (by decide) rfl (@pa_cons _ _ _ _ _ (pv 2) pa_nil (by rfl)) (by decide) (by rfl) (by rfl)) (by rfl) (by first | exact .inl rfl | exact .inr rfl | assumption)) (@pss_cons _ _ _ _ _ (@ps_set _ _ (4) _ _ _ _ sc__law_bad_address.nd rfl (Or.inl rfl) (@pe_lst _ _ _ _ (@pa_cons _ _ _ _ _ pe_str (@pa_cons _ _ _ _ _ pe_str (@pa_cons _ _ _ _ _ pe_str (@pa_cons _ _ _ _ _ pe_str (@pa_cons _ _ _ _ _ (@pe_op _ _ _ _ _ _ _ _ op_addS (pv 3) pe_str) (@pa_cons _ _ _ _ _ (@pe_op _ _ _ _ _ _ _ _ op_addS (pv 3) pe_str) (@pa_cons _ _ _ _ _ (@pe_op _ _ _ _ _ _ _ _ op_addS (pv 3) pe_str) (@pa_cons _ _ _ _ _ (@pe_op _ _ _ _ _ _ _ _ op_addS (pv 3) pe_str) (@pa_cons _ _ _ _ _ pe_str pa_nil (by rfl)) (by rfl)) (by rfl)) (by rfl)) (by rfl)) (by rfl)) (by rfl)) (by rfl)) (by rfl))) (by rfl) (by first | exact .inl rfl | exact .inr rfl | assumption)) (@pss_cons _ _ _ _ _ (@ps_set _ _ (4) _ _ _ _ sc__law_bad_address.nd rfl (Or.inl rfl) (@pe_op _ _ _ _ _ _ _ _ op_catQ (pv 4) (@pe_lst _ _ _ _ (@pa_cons _ _ _ _ _ (@pe_op _ _ _ _ _ _ _ _ op_addS (pv 3) pe_str) (@pa_cons _ _ _ _ _ (@pe_op _ _ _ _ _ _ _ _ op_addS pe_str (pv 3)) (@pa_cons _ _ _ _ _ (@pe_op _ _ _ _ _ _ _ _ op_addS (@pe_op _ _ _ _ _ _ _ _ op_addS (@pe_fn _ _ _ _ _ _ _ _ _ _ _ g__law_address hr (by decide) rfl (@pa_cons _ _ _ _ _ (@pe_op _ _ _ _ _ _ _ _ op_add (pv 2) pe_int) pa_nil (by rfl)) (by decide) (by rfl) (by rfl)) pe_str) (pv 3)) (@pa_cons _ _ _ _ _ (@pe_op _ _ _ _ _ _ _ _ op_addS (@pe_op _ _ _ _ _ _ _ _ op_addS (@pe_op _ _ _ _ _ _ _ _ op_addS (pv 3) pe_str) (pv 3)) pe_str) (@pa_cons _ _ _ _ _ (@pe_op _ _ _ _ _ _ _ _ op_addS (pv 3) pe_str) pa_nil (by rfl)) (by rfl)) (by rfl)) (by rfl)) (by rfl)))) (by rfl) (by first | exact .inl rfl | exact .inr rfl | assumption)) (@pss_cons _ _ _ _ _ (@ps_set _ _ (4) _ _ _ _ sc__law_bad_address.nd rfl (Or.inl rfl) (@pe_op _ _ _ _ _ _ _ _ op_catQ (pv 4) (@pe_lst _ _ _ _ (@pa_cons _ _ _ _ _ (@pe_op _ _ _ _ _ _ _ _ op_addS (pv 3) pe_str) (@pa_cons _ _ _ _ _ (@pe_callTy _ _ _ _ _ _ _ _ _ call_strI rfl b_str bo_str (@pa_cons _ _ _ _ _ (pv 2) pa_nil (by rfl)) (by decide) (by decide) (by rfl) (by rfl)) (@pa_cons _ _ _ _ _ pe_str (@pa_cons _ _ _ _ _ pe_str (@pa_cons _ _ _ _ _ (@pe_op _ _ _ _ _ _ _ _ op_addS (pv 3) pe_str) (@pa_cons _ _ _ _ _ pe_str (@pa_cons _ _ _ _ _ pe_str pa_nil (by rfl)) (by rfl)) (by rfl)) (by rfl)) (by rfl)) (by rfl)) (by rfl)))) (by rfl) (by first | exact .inl rfl | exact .inr rfl | assumption)) (@pss_cons _ _ _ _ _ (@ps_expr _ _ _ _ (@pe_bm _ _ _ _ _ _ _ _ _ _ _ _ PySem.F.plainAttrs_list PySem.F.slot_list_append PySem.F.type_list_append mt_append (pv 4) (@pa_cons _ _ _ _ _ (@pe_op _ _ _ _ _ _ _ _ op_addS (@pe_op _ _ _ _ _ _ _ _ op_addS (@pe_op _ _ _ _ _ _ _ _ op_addS (@pe_op _ _ _ _ _ _ _ _ op_addS (pv 3) pe_str) (pv 3)) pe_str) (pv 3)) pa_nil (by rfl)) (by rfl) (by rfl) (by rfl) (by rfl) (by rfl)) (by rfl)) (@pss_one _ _ _ (@ps_ret _ _ _ _ (@pe_ix _ _ _ _ _ _ _ ix_list (pv 4) (@pe_op _ _ _ _ _ _ _ _ op_mod (pv 0) pe_int) (fun _ _=>rfl)))))))))),?_⟩
 rw [st__law_bad_address]
 refine seq_hid fun N go=>?_
 walk_at "sv"
 refine ⟨by decide,?_⟩
 refine go _ _ ?_
 clear go
 generalize m % 4294967295=x at *
 have bad:=zsA_bad x0 x1
 unfold zsA at bad
 have dl:=dot_len x0 (show x≤4294967295 by omega)
 have dl2:=dot_len (n:=x+1) (by omega) (by omega)
 have lm:(⟨#[45]⟩:Str).length=1:=rfl
 have e33:("/33":Str).length≤20:=by decide +kernel
 have e1:("/":Str).length≤20:=by decide +kernel
 have e08:("/08":Str).length≤20:=by decide +kernel
 have em1:("/\x2d1":Str).length≤20:=by decide +kernel
 have e8:("/8":Str).length≤20:=by decide +kernel
 have e89:("/8-9":Str).length≤20:=by decide +kernel
 have e8s:("/8/9":Str).length≤20:=by decide +kernel
 have eb:("/4294967304":Str).length≤20:=by decide +kernel
 refine seq_hid fun N go=>?_
 walk_at "sv"
 refine ⟨x,rfl,x0,by omega,fun H0 s0=>?_⟩
 refine go _ _ ?_
 clear go
 obtain ⟨o,eo⟩:∃ o,dot x=o:=⟨_,rfl⟩
 rw [eo] at bad dl ⊢
 obtain ⟨o2,eo2⟩:∃ o2,dot (x+1)=o2:=⟨_,rfl⟩
 rw [eo2] at bad dl2
 refine seq_hid fun N go=>?_
 simp only [Sv.asg_,Sv.lst_]
 refine consC (consC (consC (consC ?_)))
 walk_at "sv"
 refine addS_go (by omega) ?_
 walk_at "sv"
 refine addS_go (by omega) ?_
 walk_at "sv"
 refine addS_go (by omega) ?_
 walk_at "sv"
 refine addS_go (by omega) ?_
 refine LstR.go (by simp) fun l1 n1=>?_
 generalize eh1:upd H0 l1 _=H1
 have h1:H1 l1=some (.lst ([("256.0.0.0":Str),"1.2.3","1.2.3.4.5","01.2.3.4",o++"/33",o++"/",o++"/08",o++"/\x2d1", "/8"].map V.str)):=by rw [← eh1]; exact upd_same
 have s1:Same H0 H1:=by rw [← eh1]; exact same_new n1 _
 clear eh1
 refine go _ _ ?_
 clear go
 refine seq_hid fun N go=>?_
 walk_at "sv"
 rw [lit_minus]
 refine addS_go (by rw [lm]; omega) ?_
 walk_at "sv"
 refine addS_go (by rw [lm]; omega) ?_
 walk_at "sv"
 refine ⟨x+1,rfl,by omega,by omega,fun H2 s2=>?_⟩
 rw [eo2]
 walk_at "sv"
 refine addS_go (by rw [lm]; omega) ?_
 walk_at "sv"
 refine addS_go (by rw [Str.length_append,lm]; omega) ?_
 walk_at "sv"
 refine addS_go (by rw [lm]; omega) ?_
 walk_at "sv"
 refine addS_go (by rw [Str.length_append,lm]; omega) ?_
 walk_at "sv"
 refine addS_go (by rw [Str.length_append,Str.length_append,lm]; omega) ?_
 walk_at "sv"
 refine addS_go (by omega) ?_
 refine LstR.go (by simp) fun l2 n2=>?_
 generalize eh3:upd H2 l2 _=H3
 have h3:H3 l2=some (.lst ([o++mi,mi++o,o2++mi++o,o++mi++o++"/8",o++"/8-9"].map V.str)):=by rw [← eh3]; exact upd_same
 have s3:Same H2 H3:=by rw [← eh3]; exact same_new n2 _
 clear eh3
 refine catQ_go (SqL.of ((s2.trans s3) _ _ h1)) (SqL.of h3) (by simp) fun l3 n3=>?_
 rw [← List.map_append]
 generalize ez:[("256.0.0.0":Str),"1.2.3","1.2.3.4.5","01.2.3.4",o++"/33",o++"/",o++"/08",o++"/\x2d1", "/8"] ++ [o ++ mi, mi ++ o, o2 ++ mi ++ o, o ++ mi ++ o ++ "/8", o ++ "/8-9"]=zs at *
 have zl:zs.length=14:=by rw [← ez]; rfl
 have s4:=same_new n3 (.lst (zs.map V.str))
 have h4:upd H3 l3 (.lst (zs.map V.str)) l3=some (.lst (zs.map V.str)):=upd_same
 generalize upd H3 l3 (.lst (zs.map V.str))=H4 at *
 refine go _ _ ?_
 clear go
 refine seq_hid fun N go=>?_
 walk_at "sv"
 refine addS_go (by omega) ?_
 walk_at "sv"
 refine strI_go (log_small x0 (by omega)) ?_
 walk_at "sv"
 refine addS_go (by omega) ?_
 refine LstR.go (by simp) fun l5 n5=>?_
 generalize eh5:upd H4 l5 _=H5
 have h5:H5 l5=some (.lst ([o++"/8/9",num x,"1..2.3","+1.2.3.4",o++"/4294967304","-","/"].map V.str)):=by rw [← eh5]; exact upd_same
 have s5:Same H4 H5:=by rw [← eh5]; exact same_new n5 _
 clear eh5
 refine catQ_go (SqL.of (s5 _ _ h4)) (SqL.of h5) (by rw [List.length_map,zl]; simp) fun l6 n6=>?_
 rw [← List.map_append]
 generalize ey:zs++[o++"/8/9",num x,"1..2.3","+1.2.3.4",o++"/4294967304","-","/"]=ys at *
 have yl:ys.length=21:=by rw [← ey,List.length_append,zl]; rfl
 have s6:=same_new n6 (.lst (ys.map V.str))
 have h6:upd H5 l6 (.lst (ys.map V.str)) l6=some (.lst (ys.map V.str)):=upd_same
 have n60:H0 l6=none:=by
  cases e:H0 l6 with
  | none=>rfl
  | some u =>
   rw [((s1.trans (s2.trans s3)).trans (s4.trans s5)) _ _ e] at n6
   cases n6
 generalize upd H5 l6 (.lst (ys.map V.str))=H6 at *
 refine go _ _ ?_
 clear go
 refine seq_hid fun N go=>?_
 walk_at "sv"
 refine ⟨ty_lst h6,?_⟩
 rw [lit_minus]
 refine addS_go (by rw [lm]; omega) ?_
 walk_at "sv"
 refine addS_go (by rw [Str.length_append,lm]; omega) ?_
 walk_at "sv"
 refine addS_go (by rw [Str.length_append,Str.length_append,lm]; omega) ?_
 walk_at "sv"
 refine addS_go (by rw [Str.length_append,Str.length_append,Str.length_append,lm]; omega) ?_
 refine app_go h6 (by rw [List.length_map]; omega) ?_
 have h7:upd H6 l6 (.lst (ys.map V.str++[.str (o++mi++o++mi++o)])) l6=some (.lst ((ys++[o++mi++o++mi++o]).map V.str)):=by rw [upd_same,List.map_append]; rfl
 have s7:Same H0 (upd H6 l6 (.lst (ys.map V.str++[.str (o++mi++o++mi++o)]))):=fun a u e=>(upd_ne (ne_of_none e n60)).trans ((((s1.trans (s2.trans s3)).trans (s4.trans s5)).trans s6) _ _ e)
 refine go _ _ ?_
 clear go
 walk_at "sv"
 refine ⟨by decide,?_⟩
 obtain ⟨k,ek,k22⟩:∃ k:Nat,d % 22=(k:Int)∧k<22:=⟨(d % 22).toNat,by omega,by omega⟩
 rw [ek]
 obtain ⟨z,ezk⟩:∃ z,(ys++[o++mi++o++mi++o])[k]?=some z:=⟨(ys++[o++mi++o++mi++o])[k]'(by rw [List.length_append,yl]; simp; omega),List.getElem?_eq_getElem _⟩
 refine ixL_go (i:=k) (SqL.of h7) (by rw [List.getElem?_map,ezk]; rfl) ?_
 obtain ⟨b1,b2⟩:=bad z (List.mem_of_getElem? ezk)
 exact q z _ (s0.trans s7) b1 b2
--CUT--
def Refd (ws:List Str):Prop:=¬ ∃ h bs,RuOk ws h bs
theorem hd_same {h h':Str ⊕ Str}{r r':List Str}(hk:hdOk h)(hk':hdOk h')(e:hdWs h++r=hdWs h'++r'):h=h'∧r=r':=by
 cases h with
 | inl w =>
  cases h' with
  | inl w' =>
   obtain ⟨e1,e⟩:=List.cons.inj e
   exact ⟨by rw [e1],e⟩
  | inr n' =>
   obtain ⟨e1,_⟩:=List.cons.inj e
   have hk:w∈sing:=hk
   rw [e1] at hk
   exact absurd hk (by decide +kernel)
 | inr n =>
  cases h' with
  | inl w' =>
   obtain ⟨e1,_⟩:=List.cons.inj e
   have hk':w'∈sing:=hk'
   rw [← e1] at hk'
   exact absurd hk' (by decide +kernel)
  | inr n' =>
   obtain ⟨_,e⟩:=List.cons.inj e
   obtain ⟨e1,e⟩:=List.cons.inj e
   exact ⟨by rw [e1],e⟩
theorem refd_rest {h:Str ⊕ Str}{r:List Str}(hk:hdOk h)(no:∀ ps bs,r=flatP ps→PairsOk pairWs r ps→BoxG pairWs allBox ps bs→False):Refd (hdWs h++r):=by
 rintro ⟨h',bs,ps,e,hk',pk,bg⟩
 obtain ⟨rfl,rfl⟩:=hd_same hk hk' e
 exact no ps bs rfl pk bg
theorem refd_odd {h:Str ⊕ Str}{r:List Str}(hk:hdOk h)(o:r.length % 2=1):Refd (hdWs h++r):=refd_rest hk fun ps bs e _ _=>by
 rw [e,flatP_len] at o
 omega
theorem refd_key {h:Str ⊕ Str}{ps:List (Str×Str)}(hk:hdOk h){p:Str×Str}(hp:p∈ps)(n:p.1∉pairWs):Refd (hdWs h++flatP ps):=refd_rest hk fun ps' bs e pk _=>by
 obtain rfl:=flatP_inj e
 exact n (pk.2.1 p hp)
theorem refd_twice {h:Str ⊕ Str}{ps:List (Str×Str)}(hk:hdOk h)(n:¬ (ps.map (·.1)).Nodup):Refd (hdWs h++flatP ps):=refd_rest hk fun ps' bs e pk _=>by
 obtain rfl:=flatP_inj e
 exact n pk.2.2
def badV (k z:Str):Prop:=if k∈adrWs then badA z else ∃ (i:Nat) (top:Int×Int),pairWs[i]?=some k∧allBox[i]?=some top∧badN top.2.toNat z
theorem refd_val {h:Str ⊕ Str}{ps:List (Str×Str)}(hk:hdOk h){k z:Str}(hp:(k,z)∈ps)(hw:k∈pairWs)(b:badV k z):Refd (hdWs h++flatP ps):=refd_rest hk fun ps' bs e pk bg=>by
 obtain rfl:=flatP_inj e
 have rd:∀ (i:Nat) (top:Int×Int),pairWs[i]?=some k→allBox[i]?=some top→∃ c,StrW k top z c:=fun i top e1 e2=>by
  have li:=(List.getElem?_eq_some_iff.mp e1).1
  have lb:i<bs.length:=by
   rw [bg.1]
   exact li
  rcases bg.2 i k top _ e1 e2 (List.getElem?_eq_getElem lb) with ⟨n,_⟩ | ⟨z',hz,sw⟩
  ·exact absurd (List.mem_map.mpr ⟨_,hp,rfl⟩) n
  ·rw [key_one pk.2.2 hz hp] at sw
   exact ⟨_,sw⟩
 unfold badV at b
 by_cases c:k∈adrWs
 ·rw [if_pos c] at b
  obtain ⟨i,li,e1⟩:=List.getElem_of_mem hw
  obtain ⟨c',sw⟩:=rd i _ ((List.getElem?_eq_getElem li).trans (congrArg some e1)) (List.getElem?_eq_getElem (show i<allBox.length from li))
  rw [strW_a c] at sw
  exact b _ _ sw
 ·rw [if_neg c] at b
  obtain ⟨i,top,e1,e2,b⟩:=b
  obtain ⟨c',sw⟩:=rd i top e1 e2
  rw [strW_n c] at sw
  exact b _ _ sw
theorem refd_head {x:Str}{r:List Str}(n:x∉sing)(c:x="call"→r=[]):Refd (x::r):=by
 rintro ⟨h',bs,ps,e,hk',_⟩
 cases h' with
 | inl w =>
  obtain ⟨e1,_⟩:=List.cons.inj e
  rw [e1] at n
  exact n hk'
 | inr m =>
  obtain ⟨e1,e⟩:=List.cons.inj e
  rw [c e1] at e
  cases e
theorem refd_nil:Refd []:=by
 rintro ⟨h',bs,ps,e,_⟩
 cases h' <;> cases e
theorem refd_name {x:Str}{r:List Str}(n:nmOk x=false):Refd ("call"::x::r):=by
 rintro ⟨h',bs,ps,e,hk',_⟩
 cases h' with
 | inl w =>
  obtain ⟨e1,_⟩:=List.cons.inj e
  have hk':w∈sing:=hk'
  rw [← e1] at hk'
  exact absurd hk' (by decide +kernel)
 | inr m =>
  obtain ⟨_,e⟩:=List.cons.inj e
  obtain ⟨e1,_⟩:=List.cons.inj e
  have hk':nmOk m=true:=hk'
  rw [← e1,n] at hk'
  cases hk'
def J (es:List Str):Str:=Str.join ⟨#[32]⟩ es
theorem J_cons {a:Str}{es:List Str}(h:es≠[]):J (a::es)=a++⟨#[32]⟩++J es:=by
 match es,h with
 | b::r,_=>rfl
theorem J_hash (k r:Str)(B:List Str):∀ A:List Str,∃ y:Str,J (A++(k++⟨#[35]⟩++r)::B)=J (A++[k])++(⟨#[35]⟩++y)
 | []=>by
  cases B with
  | nil=>exact ⟨r,str_ext (by show (k++⟨#[35]⟩++r).cps.toList=(k++(⟨#[35]⟩++r)).cps.toList; simp only [app_list,List.append_assoc])⟩
  | cons b B =>
   refine ⟨r++⟨#[32]⟩++J (b::B),?_⟩
   show J ((k++⟨#[35]⟩++r)::b::B)=J [k]++_
   rw [J_cons (by simp)]
   exact str_ext (by show _=(k++_:Str).cps.toList; simp only [app_list,List.append_assoc])
 | a::A=>by
  obtain ⟨y,e⟩:=J_hash k r B A
  refine ⟨y,?_⟩
  rw [List.cons_append,List.cons_append,J_cons (by simp),J_cons (by simp),e]
  exact str_ext (by simp only [app_list,List.append_assoc])
theorem J_mem:∀ {es:List Str} {c:Nat},c∈(J es).cps.toList→c=32∨∃ y∈es,c∈y.cps.toList
 | [],c,h=>by
  have h:c∈([]:List Nat):=h
  cases h
 | [a],c,h=>.inr ⟨a,List.mem_cons_self,h⟩
 | a::b::r,c,h=>by
  rw [J_cons (by simp),app_list,app_list] at h
  rcases List.mem_append.mp h with h | h
  ·rcases List.mem_append.mp h with h | h
   ·exact .inr ⟨a,List.mem_cons_self,h⟩
   ·have h:c∈[32]:=h
    exact .inl (List.mem_singleton.mp h)
  ·rcases J_mem h with e | ⟨y,hy,h⟩
   ·exact .inl e
   ·exact .inr ⟨y,List.mem_cons_of_mem _ hy,h⟩
theorem J_len:∀ es:List Str,(J es).length≤(es.map Str.length).sum+es.length
 | []=>Nat.zero_le _
 | [a]=>by show a.length≤_; simp
 | a::b::r=>by
  have:=J_len (b::r)
  rw [J_cons (by simp),Str.length_append,Str.length_append,show (⟨#[32]⟩:Str).length=1 from rfl]
  simp only [List.map_cons,List.sum_cons,List.length_cons] at this ⊢
  omega
theorem J_no {ws:List Str}(h:∀ x∈ws,sgOk x):35∉(J ws).cps.toList:=fun hc=>by
 rcases J_mem hc with e | ⟨y,hy,hc⟩
 ·cases e
 ·exact ((h y hy).2 35 hc).2.1 rfl
theorem J_split {ws:List Str}(h:∀ x∈ws,sgOk x)(ne:ws≠[]):(Txt.split (J ws) ⟨#[32]⟩).filter (fun x=>!decide (x=⟨#[]⟩))=ws:=by
 unfold J
 rw [split_join ne fun y hy c=>by have:=(h y hy).2 32 c; omega]
 refine List.filter_eq_self.mpr fun x hx=>?_
 rw [decide_eq_false fun e=>(h x hx).1 (by rw [e])]
 rfl
theorem J_words {ws:List Str}(h:∀ x∈ws,sgOk x)(ne:ws≠[]):wordsT (J ws)=ws:=by
 unfold wordsT
 rw [part_no (J_no h)]
 exact J_split h ne
theorem J_wordsH {A:List Str}{k r:Str}{B:List Str}(h:∀ x∈A++[k],sgOk x):wordsT (J (A++(k++⟨#[35]⟩++r)::B))=A++[k]:=by
 obtain ⟨y,e⟩:=J_hash k r B A
 unfold wordsT
 rw [e,part_at (a:=J (A++[k])) (b:=y) (by rw [app_list,app_list]; rfl) (J_no h)]
 exact J_split h (by simp)
--CUT--
def numWs:List Str:=["turn","kind","fromdoor","todoor"]
def numTs:List Int:=[3,255,65535,65535]
def spBadV:Sp:=fun vs H Q _=>∃ (k:Str) (d m:Int),vs=[.str k,.int d,.int m]∧k∈pairWs∧0≤m∧m<2 ^ 33∧∀ z H',Same H H'→badV k z→Wd z→Q (.str z) H'
theorem ok_badV (F:Fun K "_law_bad_value" "_law_bad_value" s__law_bad_value f fd)(g__law_bad_address:Fn P w K mg base "_law_bad_address" 2 ["_law_draw","_law_more"] spBadA)(g__law_bad_number:Fn P w K mg base "_law_bad_number" 1 ["_law_top","_law_draw","_law_more"] spBadN):FnOk P w K mg base CX0 3 f fd ["_law_key","_law_draw","_law_more"] spBadV:=by
 refine F.ok sc__law_bad_value (fun vs H Q E h=>?_) (fun cdv A outer s H vs Q E hr h=>?_)
 ·obtain ⟨_,_,_,rfl,_⟩:=h
  rfl
 obtain ⟨k,d,m,rfl,hk,m0,m1,q⟩:=h
 refine ⟨_,(@pss_cons _ _ _ _ _ (@ps_if _ _ _ _ _ _ _ _ (@pt_cmpR _ _ _ _ _ _ _ _ (op_inL (K:=K) rfl) (pv 0) (@pe_tup _ _ _ _ _ (@pa_cons _ _ _ _ _ pe_str (@pa_cons _ _ _ _ _ pe_str pa_nil (by rfl)) (by rfl))) (by with_unfolding_all rfl)) (@pss_one _ _ _ (@ps_ret _ _ _ _ (@pe_fn _ _ _ _ _ _ _ _ _ _ _ g__law_bad_address hr (by decide) rfl (@pa_cons _ _ _ _ _ (pv 1) (@pa_cons _ _ _ _ _ (pv 2) pa_nil (by rfl)) (by rfl)) (by decide) (by rfl) (by rfl)))) pss_nil) (@pss_cons _ _ _ _ _ (@ps_set _ _ (3) _ _ _ _ sc__law_bad_value.nd rfl (Or.inl rfl) (@pe_ix _ _ _ _ _ _ _ ix_list (@pe_lst _ _ _ _ (@pa_cons _ _ _ _ _ pe_int (@pa_cons _ _ _ _ _ pe_int (@pa_cons _ _ _ _ _ pe_int (@pa_cons _ _ _ _ _ pe_int pa_nil (by rfl)) (by rfl)) (by rfl)) (by rfl))) (@pe_bm _ _ _ _ _ _ _ _ _ _ _ _ PySem.F.plainAttrs_list PySem.F.slot_list_index PySem.F.type_list_index mt_index (@pe_lst _ _ _ _ (@pa_cons _ _ _ _ _ pe_str (@pa_cons _ _ _ _ _ pe_str (@pa_cons _ _ _ _ _ pe_str (@pa_cons _ _ _ _ _ pe_str pa_nil (by rfl)) (by rfl)) (by rfl)) (by rfl))) (@pa_cons _ _ _ _ _ (pv 0) pa_nil (by rfl)) (by rfl) (by rfl) (by rfl) (by rfl) (by rfl)) (fun _ _=>rfl)) (by rfl) (by first | exact .inl rfl | exact .inr rfl | assumption)) (@pss_one _ _ _ (@ps_ret _ _ _ _ (@pe_fn _ _ _ _ _ _ _ _ _ _ _ g__law_bad_number hr (by decide) rfl (@pa_cons _ _ _ _ _ (pv 3) (@pa_cons _ _ _ _ _ (pv 1) (@pa_cons _ _ _ _ _ (pv 2) pa_nil (by rfl)) (by rfl)) (by rfl)) (by decide) (by rfl) (by rfl)))))),?_⟩
 rw [st__law_bad_value]
 walk_at "sv"
 refine TupR.go (by simp) fun t nt=>?_
 have s1:=same_new nt (.tup [.str "from",.str "to"])
 have ht:upd H t (.tup [.str "from",.str "to"]) t=some (.tup (adrWs.map V.str)):=upd_same
 generalize upd H t (.tup [.str "from",.str "to"])=H1 at *
 refine inRT_go (zs:=adrWs) (SqT.of ht) ?_
 rw [if_neg Bool.false_ne_true]
 by_cases c:k∈adrWs
 ·rw [decide_eq_true c]
  walk_at "sv"
  refine ⟨d,m,rfl,fun z H2 s2 b wd=>?_⟩
  refine q z H2 (s1.trans s2) ?_ wd
  unfold badV
  rw [if_pos c]
  exact b
 rw [decide_eq_false c]
 walk_at "sv"
 refine LstR.go (by simp) fun l nl=>?_
 have s2:=same_new nl (.lst [.int 3,.int 255,.int 65535,.int 65535])
 have hl:upd H1 l (.lst [.int 3,.int 255,.int 65535,.int 65535]) l=some (.lst (numTs.map V.int)):=upd_same
 generalize upd H1 l (.lst [.int 3,.int 255,.int 65535,.int 65535])=H2 at *
 walk_at "sv"
 refine LstR.go (by simp) fun l2 nl2=>?_
 have s3:=same_new nl2 (.lst [.str "turn",.str "kind",.str "fromdoor",.str "todoor"])
 have hl2:upd H2 l2 (.lst [.str "turn",.str "kind",.str "fromdoor",.str "todoor"]) l2=some (.lst (numWs.map V.str)):=upd_same
 generalize upd H2 l2 (.lst [.str "turn",.str "kind",.str "fromdoor",.str "todoor"])=H3 at *
 obtain ⟨j,i,top,ej,ei,et,eb,hg⟩:∃ (j i:Nat) (g:Nat),numWs[j]?=some k∧pairWs[i]?=some k∧allBox[i]?=some (0,(g:Int))∧(numTs.map V.int)[j]?=some (.int (g:Int))∧(g=3∨g=255∨g=65535):=by
  obtain ⟨i,li,e⟩:=List.getElem_of_mem hk
  have li:i<6:=li
  have ii:i=0∨i=1∨i=2∨i=3∨i=4∨i=5:=by omega
  rcases ii with rfl | rfl | rfl | rfl | rfl | rfl <;> cases e
  ·exact ⟨0,0,3,rfl,rfl,rfl,rfl,.inl rfl⟩
  ·exact ⟨1,1,255,rfl,rfl,rfl,rfl,.inr (.inl rfl)⟩
  ·exact absurd (show ("from":Str)∈adrWs by decide +kernel) c
  ·exact ⟨2,3,65535,rfl,rfl,rfl,rfl,.inr (.inr rfl)⟩
  ·exact absurd (show ("to":Str)∈adrWs by decide +kernel) c
  ·exact ⟨3,5,65535,rfl,rfl,rfl,rfl,.inr (.inr rfl)⟩
 walk_at "sv"
 refine ⟨ty_lst hl2,?_⟩
 refine index_go (zs:=numWs) hl2 (by decide +kernel) ej (by decide) ?_
 walk_at "sv"
 refine ixL_go (SqL.of (s3 _ _ hl)) eb ?_
 walk_at "sv"
 refine ⟨top,d,m,rfl,hg,m0,m1,fun z H4 s4 b wd=>?_⟩
 refine q z H4 (((s1.trans s2).trans s3).trans s4) ?_ wd
 unfold badV
 rw [if_neg c]
 exact ⟨i,_,ei,et,b⟩
--CUT--
def spStream:Sp:=fun vs H Q _=>∃ (c:Int) (k:Nat),vs=[.int c,.int (k:Int)]∧k≤100∧∀ (l:Addr) (ds:List Int) (H':Hp),H l=none→Same H H'→H' l=some (.lst (ds.map V.int))→ds.length=k→(∀ d∈ds,0≤d∧d<4294967311)→Q (.ref l) H'
theorem ok_stream (F:Fun K "_law_stream" "_law_stream" s__law_stream f fd)(b_range:mg "range"=none):FnOk P w K mg base CX0 1 f fd ["_law_cell","_law_many"] spStream:=by
 refine F.ok sc__law_stream (fun vs H Q E h=>?_) (fun cdv A outer s H vs Q E hr h=>?_)
 ·obtain ⟨_,_,rfl,_⟩:=h
  rfl
 obtain ⟨c,k,rfl,hk,q⟩:=h
 refine ⟨_,(@pss_cons _ _ _ _ _ (@ps_set _ _ (2) _ _ _ _ sc__law_stream.nd rfl (Or.inl rfl) (@pe_lst _ _ _ _ pa_nil) (by rfl) (by first | exact .inl rfl | exact .inr rfl | assumption)) (@pss_cons _ _ _ _ _ (@ps_set _ _ (3) _ _ _ _ sc__law_stream.nd rfl (Or.inl rfl) (@pe_op _ _ _ _ _ _ _ _ op_add (@pe_op _ _ _ _ _ _ _ _ op_mod (pv 0) pe_int) pe_int) (by rfl) (by first | exact .inl rfl | exact .inr rfl | assumption)) (@pss_cons _ _ _ _ _ (@ps_for _ _ _ _ _ _ _ _ PassesOwn.never rfl (@pi_range1 _ _ _ _ _ _ rfl b_range (@pa_cons _ _ _ _ _ (pv 1) pa_nil (by rfl)) (by rfl)) (@pg_name _ _ (4) _ sc__law_stream.nd rfl (Or.inl rfl) (by first | exact .inl rfl | exact .inr rfl | assumption)) (@pss_cons _ _ _ _ _ (@ps_set _ _ (3) _ _ _ _ sc__law_stream.nd rfl (Or.inl rfl) (@pe_op _ _ _ _ _ _ _ _ op_mod (@pe_op _ _ _ _ _ _ _ _ op_add (@pe_op _ _ _ _ _ _ _ _ op_add (@pe_op _ _ _ _ _ _ _ _ op_mul (pv 3) (pv 3)) (@pe_op _ _ _ _ _ _ _ _ op_mul pe_int (pv 3))) (pv 4)) pe_int) (by rfl) (by first | exact .inl rfl | exact .inr rfl | assumption)) (@pss_one _ _ _ (@ps_expr _ _ _ _ (@pe_bm _ _ _ _ _ _ _ _ _ _ _ _ PySem.F.plainAttrs_list PySem.F.slot_list_append PySem.F.type_list_append mt_append (pv 2) (@pa_cons _ _ _ _ _ (pv 3) pa_nil (by rfl)) (by rfl) (by rfl) (by rfl) (by rfl) (by rfl)) (by rfl)))) (by intro _; rfl)) (@pss_one _ _ _ (@ps_ret _ _ _ _ (pv 2)))))),?_⟩
 rw [st__law_stream]
 walk_at "sv"
 refine LstR.go (by simp) fun l hl=>?_
 have s0:=same_new hl (.lst [])
 refine ⟨by decide,?_⟩
 have m0:=Int.emod_nonneg c (show (4294967311:Int)≠0 by decide)
 have m1:=Int.emod_lt_of_pos c (show (0:Int)<4294967311 by decide)
 generalize c % 4294967311=n0 at *
 refine RngR.go (by omega) (by omega) ?_
 rw [Int.toNat_natCast]
 refine ForR.range (fun i σ H'=>Same H H'∧∃ (ds:List Int) (n:Int) (y:Option V),H' l=some (.lst (ds.map V.int))∧ds.length=i∧(∀ d∈ds,0≤d∧d<4294967311)∧0≤n∧n<4295015582∧σ=[some (.int c),some (.int (k:Int)),some (.ref l),some (.int n),y]) ⟨s0,[],n0+48271,none,upd_same,rfl,(fun d hd=>by cases hd),by omega,by omega,rfl⟩ (fun i σ H1 hi pv=>?_) (fun σ H1 pv=>?_)
 ·obtain ⟨sm,ds,n,y,hl1,dl,al,n1,n2,rfl⟩:=pv
  walk_at "sv"
  refine ⟨.inl ⟨by omega,by omega⟩,.inl ⟨by decide,by decide⟩,by decide,?_⟩
  generalize n * n+69621 * n+(0+(i:Int))=z
  have z0:=Int.emod_nonneg z (show (4294967311:Int)≠0 by decide)
  have z1:=Int.emod_lt_of_pos z (show (0:Int)<4294967311 by decide)
  generalize z % 4294967311=d at *
  refine ⟨ty_lst hl1,?_⟩
  refine app_go hl1 (by rw [List.length_map]; omega) ?_
  refine ⟨sm.put hl,ds++[d],d,_,by rw [upd_same,List.map_append]; rfl,by rw [List.length_append,dl]; rfl,(fun x hx=>?_),z0,by omega,rfl⟩
  rcases List.mem_append.mp hx with hx | hx
  ·exact al x hx
  ·obtain rfl:=List.mem_singleton.mp hx
   exact ⟨z0,z1⟩
 ·obtain ⟨sm,ds,n,y,hl1,dl,al,n1,n2,rfl⟩:=pv
  walk_at "sv"
  exact q l ds H1 hl sm hl1 dl al
def PrS (H:Hp)(v:V)(p:Str×Str):Prop:=∃ t,v=.ref t∧H t=some (.tup [.str p.1,.str p.2])
theorem PrS.to {H H':Hp}{v:V}{p:Str×Str}(h:PrS H v p)(k:∀ a xs,H a=some (.tup xs)→H' a=some (.tup xs)):PrS H' v p:=by
 obtain ⟨t,e,h⟩:=h
 exact ⟨t,e,k _ _ h⟩
structure Up6 (ps:List (Str×Str))(bs:List (Int×Int))(n:Nat):Prop where
 key:ps.map (·.1)=pairWs.take n
 len:bs.length=n
 aj:∀ (j:Nat) (p:Str×Str) (b:Int×Int),ps[j]?=some p→bs[j]?=some b→sgOk p.2∧p.2.length≤90∧∀ top,allBox[j]?=some top→StrW p.1 top p.2 b
theorem Up6.pl {ps:List (Str×Str)}{bs:List (Int×Int)}{n:Nat}(h:Up6 ps bs n)(hn:n≤6):ps.length=n:=by
 have:=congrArg List.length h.key
 rw [List.length_map,List.length_take,show pairWs.length=6 from rfl] at this
 omega
theorem Up6.add {ps:List (Str×Str)}{bs:List (Int×Int)}{n:Nat}(h:Up6 ps bs n)(hn:n<6){wd z:Str}{b:Int×Int}(ew:pairWs[n]?=some wd)(sg:sgOk z)(zl:z.length≤90)(rd:∀ top,allBox[n]?=some top→StrW wd top z b):Up6 (ps++[(wd,z)]) (bs++[b]) (n+1):=by
 have pl:=h.pl (by omega)
 have bl:=h.len
 refine ⟨by rw [List.map_append,h.key,List.take_add_one,ew]; rfl,by rw [List.length_append,bl]; rfl,fun j p b' e1 e2=>?_⟩
 by_cases c:j<n
 ·rw [List.getElem?_append_left (by omega)] at e1 e2
  exact h.aj j p b' e1 e2
 ·have lj:=(List.getElem?_eq_some_iff.mp e1).1
  rw [List.length_append,List.length_singleton] at lj
  obtain rfl:j=n:=by omega
  rw [List.getElem?_append_right (by omega),pl,Nat.sub_self] at e1
  rw [List.getElem?_append_right (by omega),bl,Nat.sub_self] at e2
  cases e1
  cases e2
  exact ⟨sg,zl,rd⟩
structure Pr6 (ps:List (Str×Str))(bs:List (Int×Int)):Prop where
 key:(ps.map (·.1)).Perm pairWs
 sg:∀ p∈ps,sgOk p.2∧p.2.length≤90
 box:BoxG pairWs allBox ps bs
theorem Up6.rot {ps:List (Str×Str)}{bs:List (Int×Int)}(h:Up6 ps bs 6)(k:Nat):Pr6 (ps.drop k++ps.take k) bs:=by
 have pm:(ps.drop k++ps.take k).Perm ps:=(List.perm_append_comm).trans (List.Perm.of_eq (List.take_append_drop k ps))
 have pl:=h.pl (by omega)
 have bl:=h.len
 refine ⟨(pm.map _).trans (List.Perm.of_eq (h.key.trans rfl)),fun p hp=>?_,bl,fun i wd top b e1 e2 e3=>?_⟩
 ·obtain ⟨j,lj,e⟩:=List.getElem_of_mem (pm.mem_iff.mp hp)
  have:=h.aj j p _ ((List.getElem?_eq_getElem lj).trans (congrArg some e)) (List.getElem?_eq_getElem (show j<bs.length by omega))
  exact ⟨this.1,this.2.1⟩
 ·have k6:=congrArg (fun l=>l[i]?) h.key
  have k6:(ps.map (·.1))[i]?=pairWs[i]?:=k6
  rw [e1,List.getElem?_map] at k6
  cases e:ps[i]? with
  | none=>rw [e] at k6; cases k6
  | some p =>
   rw [e] at k6
   have k6:p.1=wd:=Option.some.inj k6
   have:=(h.aj i p b e e3).2.2 top e2
   rw [k6] at this
   refine .inr ⟨p.2,pm.mem_iff.mpr ?_,this⟩
   rw [← k6]
   exact List.mem_of_getElem? e
def topsI:List Int:=[3,255,4294967295,65535,4294967295,65535]
theorem pair_at {i:Nat}(h:i<6):∃ (wd:Str) (t:Int),pairWs[i]?=some wd∧(topsI.map V.int)[i]?=some (.int t)∧(pairWs.map V.str)[i]?=some (.str wd)∧allBox[i]?=some (0,t)∧0≤t∧t≤4294967295∧(wd∈adrWs∧t=4294967295∨wd∉adrWs∧∃ g:Nat,t=g∧TopG g):=by
 have e:i=0∨i=1∨i=2∨i=3∨i=4∨i=5:=by omega
 rcases e with rfl | rfl | rfl | rfl | rfl | rfl
 ·exact ⟨"turn",3,rfl,rfl,rfl,rfl,by decide,by decide,.inr ⟨by decide +kernel,3,rfl,.inl rfl⟩⟩
 ·exact ⟨"kind",255,rfl,rfl,rfl,rfl,by decide,by decide,.inr ⟨by decide +kernel,255,rfl,.inr (.inl rfl)⟩⟩
 ·exact ⟨"from",4294967295,rfl,rfl,rfl,rfl,by decide,by decide,.inl ⟨by decide +kernel,rfl⟩⟩
 ·exact ⟨"fromdoor",65535,rfl,rfl,rfl,rfl,by decide,by decide,.inr ⟨by decide +kernel,65535,rfl,.inr (.inr (.inl rfl))⟩⟩
 ·exact ⟨"to",4294967295,rfl,rfl,rfl,rfl,by decide,by decide,.inl ⟨by decide +kernel,rfl⟩⟩
 ·exact ⟨"todoor",65535,rfl,rfl,rfl,rfl,by decide,by decide,.inr ⟨by decide +kernel,65535,rfl,.inr (.inr (.inl rfl))⟩⟩
theorem ints_at {ds:List Int}{i:Nat}(h:i<ds.length):∃ d,ds[i]?=some d∧(ds.map V.int)[i]?=some (.int d):=⟨ds[i],List.getElem?_eq_getElem h,by rw [List.getElem?_map,List.getElem?_eq_getElem h]; rfl⟩
theorem all2_td {α β:Type}{R:α→β→Prop}{xs:List α}{ys:List β}(h:All2 R xs ys):∀ n:Nat,All2 R (xs.take n) (ys.take n)∧All2 R (xs.drop n) (ys.drop n):=by
 induction h with
 | nil=>exact fun n=>by rw [List.take_nil,List.take_nil,List.drop_nil,List.drop_nil]; exact ⟨.nil,.nil⟩
 | cons r t ih =>
  intro n
  cases n with
  | zero=>exact ⟨.nil,.cons r t⟩
  | succ n=>exact ⟨.cons r (ih n).1,(ih n).2⟩
def spPairs16:Sp:=fun vs H Q _=>∃ c:Int,vs=[.int c]∧∀ t lp pb us ps bs H',Same H H'→H' t=some (.tup [.ref lp,.ref pb])→H' lp=some (.lst us)→All2 (PrS H') us ps→IsBox H' pb bs→Pr6 ps bs→Q (.ref t) H'
theorem ok_pairs16 (F:Fun K "_law_pairs" "_law_pairs" s__law_pairs f fd)(g__law_stream:Fn P w K mg base "_law_stream" 1 ["_law_cell","_law_many"] spStream)(g__law_address:Fn P w K mg base "_law_address" 1 ["_law_number"] spAddr)(b_range:mg "range"=none)(b_min:mg "min"=none)(b_max:mg "max"=none)(b_str:mg "str"=none)(b_tuple:mg "tuple"=none):FnOk P w K mg base CX0 2 f fd ["_law_cell"] spPairs16:=by
 refine F.ok sc__law_pairs (fun vs H Q E h=>?_) (fun cdv A outer s H vs Q E hr h=>?_)
 ·obtain ⟨_,rfl,_⟩:=h
  rfl
 obtain ⟨c,rfl,q⟩:=h
 refine ⟨_,(@pss_cons _ _ _ _ _ (@ps_set _ _ (1) _ _ _ _ sc__law_pairs.nd rfl (Or.inl rfl) (@pe_fn _ _ _ _ _ _ _ _ _ _ _ g__law_stream hr (by decide) rfl (@pa_cons _ _ _ _ _ (pv 0) (@pa_cons _ _ _ _ _ pe_int pa_nil (by rfl)) (by rfl)) (by decide) (by rfl) (by rfl)) (by rfl) (by first | exact .inl rfl | exact .inr rfl | assumption)) (@pss_cons _ _ _ _ _ (@ps_set _ _ (2) _ _ _ _ sc__law_pairs.nd rfl (Or.inl rfl) (@pe_lst _ _ _ _ (@pa_consts _ _ _ rfl)) (by rfl) (by first | exact .inl rfl | exact .inr rfl | assumption)) (@pss_cons _ _ _ _ _ (@ps_set _ _ (3) _ _ _ _ sc__law_pairs.nd rfl (Or.inl rfl) (@pe_lst _ _ _ _ (@pa_consts _ _ _ rfl)) (by rfl) (by first | exact .inl rfl | exact .inr rfl | assumption)) (@pss_cons _ _ _ _ _ (@ps_set _ _ (4) _ _ _ _ sc__law_pairs.nd rfl (Or.inl rfl) (@pe_lst _ _ _ _ pa_nil) (by rfl) (by first | exact .inl rfl | exact .inr rfl | assumption)) (@pss_cons _ _ _ _ _ (@ps_set _ _ (5) _ _ _ _ sc__law_pairs.nd rfl (Or.inl rfl) (@pe_lst _ _ _ _ pa_nil) (by rfl) (by first | exact .inl rfl | exact .inr rfl | assumption)) (@pss_cons _ _ _ _ _ (@ps_for _ _ _ _ _ _ _ _ PassesOwn.never rfl (@pi_range1 _ _ _ _ _ _ rfl b_range (@pa_cons _ _ _ _ _ pe_int pa_nil (by rfl)) (by rfl)) (@pg_name _ _ (6) _ sc__law_pairs.nd rfl (Or.inl rfl) (by first | exact .inl rfl | exact .inr rfl | assumption)) (@pss_cons _ _ _ _ _ (@ps_set _ _ (7) _ _ _ _ sc__law_pairs.nd rfl (Or.inl rfl) (@pe_op _ _ _ _ _ _ _ _ op_mod (@pe_ix _ _ _ _ _ _ _ ix_list (pv 1) (@pe_op _ _ _ _ _ _ _ _ op_mul pe_int (pv 6)) (fun _ _=>rfl)) (@pe_op _ _ _ _ _ _ _ _ op_add (@pe_ix _ _ _ _ _ _ _ ix_list (pv 2) (pv 6) (fun _ _=>rfl)) pe_int)) (by rfl) (by first | exact .inl rfl | exact .inr rfl | assumption)) (@pss_cons _ _ _ _ _ (@ps_set _ _ (8) _ _ _ _ sc__law_pairs.nd rfl (Or.inl rfl) (@pe_op _ _ _ _ _ _ _ _ op_mod (@pe_ix _ _ _ _ _ _ _ ix_list (pv 1) (@pe_op _ _ _ _ _ _ _ _ op_add (@pe_op _ _ _ _ _ _ _ _ op_mul pe_int (pv 6)) pe_int) (fun _ _=>rfl)) (@pe_op _ _ _ _ _ _ _ _ op_add (@pe_ix _ _ _ _ _ _ _ ix_list (pv 2) (pv 6) (fun _ _=>rfl)) pe_int)) (by rfl) (by first | exact .inl rfl | exact .inr rfl | assumption)) (@pss_cons _ _ _ _ _ (@ps_expr _ _ _ _ (@pe_bm _ _ _ _ _ _ _ _ _ _ _ _ PySem.F.plainAttrs_list PySem.F.slot_list_append PySem.F.type_list_append mt_append (pv 5) (@pa_cons _ _ _ _ _ (@pe_tup _ _ _ _ _ (@pa_cons _ _ _ _ _ (@pe_callB _ _ _ _ _ _ _ _ _ (call_minR rfl) rfl b_min bo_min (@pa_cons _ _ _ _ _ (pv 7) (@pa_cons _ _ _ _ _ (pv 8) pa_nil (by rfl)) (by rfl)) (by decide) (by decide) (by rfl) (by rfl)) (@pa_cons _ _ _ _ _ (@pe_callB _ _ _ _ _ _ _ _ _ (call_maxR rfl) rfl b_max bo_max (@pa_cons _ _ _ _ _ (pv 7) (@pa_cons _ _ _ _ _ (pv 8) pa_nil (by rfl)) (by rfl)) (by decide) (by decide) (by rfl) (by rfl)) pa_nil (by rfl)) (by rfl))) pa_nil (by rfl)) (by rfl) (by rfl) (by rfl) (by rfl) (by rfl)) (by rfl)) (@pss_one _ _ _ (@ps_if _ _ _ _ _ _ _ _ (@pt_cmpR _ _ _ _ _ _ _ _ (op_inL (K:=K) rfl) (@pe_ix _ _ _ _ _ _ _ ix_list (pv 3) (pv 6) (fun _ _=>rfl)) (@pe_tup _ _ _ _ _ (@pa_cons _ _ _ _ _ pe_str (@pa_cons _ _ _ _ _ pe_str pa_nil (by rfl)) (by rfl))) (by with_unfolding_all rfl)) (@pss_one _ _ _ (@ps_expr _ _ _ _ (@pe_bm _ _ _ _ _ _ _ _ _ _ _ _ PySem.F.plainAttrs_list PySem.F.slot_list_append PySem.F.type_list_append mt_append (pv 4) (@pa_cons _ _ _ _ _ (@pe_tup _ _ _ _ _ (@pa_cons _ _ _ _ _ (@pe_ix _ _ _ _ _ _ _ ix_list (pv 3) (pv 6) (fun _ _=>rfl)) (@pa_cons _ _ _ _ _ (@pe_op _ _ _ _ _ _ _ _ op_addS (@pe_op _ _ _ _ _ _ _ _ op_addS (@pe_fn _ _ _ _ _ _ _ _ _ _ _ g__law_address hr (by decide) rfl (@pa_cons _ _ _ _ _ (@pe_callB _ _ _ _ _ _ _ _ _ (call_minR rfl) rfl b_min bo_min (@pa_cons _ _ _ _ _ (pv 7) (@pa_cons _ _ _ _ _ (pv 8) pa_nil (by rfl)) (by rfl)) (by decide) (by decide) (by rfl) (by rfl)) pa_nil (by rfl)) (by decide) (by rfl) (by rfl)) pe_str) (@pe_fn _ _ _ _ _ _ _ _ _ _ _ g__law_address hr (by decide) rfl (@pa_cons _ _ _ _ _ (@pe_callB _ _ _ _ _ _ _ _ _ (call_maxR rfl) rfl b_max bo_max (@pa_cons _ _ _ _ _ (pv 7) (@pa_cons _ _ _ _ _ (pv 8) pa_nil (by rfl)) (by rfl)) (by decide) (by decide) (by rfl) (by rfl)) pa_nil (by rfl)) (by decide) (by rfl) (by rfl))) pa_nil (by rfl)) (by rfl))) pa_nil (by rfl)) (by rfl) (by rfl) (by rfl) (by rfl) (by rfl)) (by rfl))) (@pss_one _ _ _ (@ps_expr _ _ _ _ (@pe_bm _ _ _ _ _ _ _ _ _ _ _ _ PySem.F.plainAttrs_list PySem.F.slot_list_append PySem.F.type_list_append mt_append (pv 4) (@pa_cons _ _ _ _ _ (@pe_tup _ _ _ _ _ (@pa_cons _ _ _ _ _ (@pe_ix _ _ _ _ _ _ _ ix_list (pv 3) (pv 6) (fun _ _=>rfl)) (@pa_cons _ _ _ _ _ (@pe_op _ _ _ _ _ _ _ _ op_addS (@pe_op _ _ _ _ _ _ _ _ op_addS (@pe_callTy _ _ _ _ _ _ _ _ _ call_strI rfl b_str bo_str (@pa_cons _ _ _ _ _ (@pe_callB _ _ _ _ _ _ _ _ _ (call_minR rfl) rfl b_min bo_min (@pa_cons _ _ _ _ _ (pv 7) (@pa_cons _ _ _ _ _ (pv 8) pa_nil (by rfl)) (by rfl)) (by decide) (by decide) (by rfl) (by rfl)) pa_nil (by rfl)) (by decide) (by decide) (by rfl) (by rfl)) pe_str) (@pe_callTy _ _ _ _ _ _ _ _ _ call_strI rfl b_str bo_str (@pa_cons _ _ _ _ _ (@pe_callB _ _ _ _ _ _ _ _ _ (call_maxR rfl) rfl b_max bo_max (@pa_cons _ _ _ _ _ (pv 7) (@pa_cons _ _ _ _ _ (pv 8) pa_nil (by rfl)) (by rfl)) (by decide) (by decide) (by rfl) (by rfl)) pa_nil (by rfl)) (by decide) (by decide) (by rfl) (by rfl))) pa_nil (by rfl)) (by rfl))) pa_nil (by rfl)) (by rfl) (by rfl) (by rfl) (by rfl) (by rfl)) (by rfl)))))))) (by intro _; rfl)) (@pss_cons _ _ _ _ _ (@ps_set _ _ (9) _ _ _ _ sc__law_pairs.nd rfl (Or.inl rfl) (@pe_op _ _ _ _ _ _ _ _ op_mod (@pe_ix _ _ _ _ _ _ _ ix_list (pv 1) pe_int (fun _ _=>rfl)) pe_int) (by rfl) (by first | exact .inl rfl | exact .inr rfl | assumption)) (@pss_one _ _ _ (@ps_ret _ _ _ _ (@pe_tup _ _ _ _ _ (@pa_cons _ _ _ _ _ (@pe_op _ _ _ _ _ _ _ _ op_catQ (@pe_slice _ _ _ _ _ _ _ _ _ _ sl_list (pv 4) (@po_some _ _ _ (pv 9)) po_none) (@pe_slice _ _ _ _ _ _ _ _ _ _ sl_list (pv 4) po_none (@po_some _ _ _ (pv 9)))) (@pa_cons _ _ _ _ _ (@pe_callTy _ _ _ _ _ _ _ _ _ call_tupleR rfl b_tuple bo_tuple (@pa_cons _ _ _ _ _ (pv 5) pa_nil (by rfl)) (by decide) (by decide) (by rfl) (by rfl)) pa_nil (by rfl)) (by rfl)))))))))))),?_⟩
 rw [st__law_pairs]
 walk_at "sv"
 refine ⟨c,13,rfl,by decide,fun ld ds H1 nd s1 hd dl al=>?_⟩
 walk_at "sv"
 refine LstR.go (by simp) fun lt nt=>?_
 have s2:=same_new nt (.lst (topsI.map V.int))
 have ht:upd H1 lt (.lst [.int 3,.int 255,.int 4294967295,.int 65535,.int 4294967295,.int 65535]) lt=some (.lst (topsI.map V.int)):=upd_same
 have s2:Same H1 (upd H1 lt (.lst [.int 3,.int 255,.int 4294967295,.int 65535,.int 4294967295,.int 65535])):=s2
 generalize upd H1 lt (.lst [.int 3,.int 255,.int 4294967295,.int 65535,.int 4294967295,.int 65535])=H2 at *
 walk_at "sv"
 refine LstR.go (by simp) fun lk nk=>?_
 have s3:=same_new nk (.lst [.str "turn",.str "kind",.str "from",.str "fromdoor",.str "to",.str "todoor"])
 have hk:upd H2 lk (.lst [.str "turn",.str "kind",.str "from",.str "fromdoor",.str "to",.str "todoor"]) lk=some (.lst (pairWs.map V.str)):=upd_same
 generalize upd H2 lk (.lst [.str "turn",.str "kind",.str "from",.str "fromdoor",.str "to",.str "todoor"])=H3 at *
 walk_at "sv"
 refine LstR.go (by simp) fun lp np=>?_
 have s4:=same_new np (.lst [])
 have hp:upd H3 lp (.lst []) lp=some (.lst []):=upd_same
 generalize upd H3 lp (.lst [])=H4 at *
 walk_at "sv"
 refine LstR.go (by simp) fun lb nb=>?_
 have s5:=same_new nb (.lst [])
 have hb:upd H4 lb (.lst []) lb=some (.lst []):=upd_same
 have hp5:=s5 _ _ hp
 have nlb:lp≠lb:=fun z=>by rw [z] at hp; rw [hp] at nb; cases nb
 generalize upd H4 lb (.lst [])=H5 at *
 have s23:=s2.trans s3
 have nb3:H3 lb=none:=by
  cases e:H3 lb with
  | none=>rfl
  | some u =>
   rw [s4 _ _ e] at nb
   cases nb
 refine RngR.go (by decide) (by decide) ?_
 refine ForR.range (n:=6) (fun i σ H'=>Same H3 H'∧∃ (us vs:List V) (ps:List (Str×Str)) (bs:List (Int×Int)) (y1 y2 y3:Option V),H' lp=some (.lst us)∧H' lb=some (.lst vs)∧All2 (PrS H') us ps∧Strs H' vs bs∧Up6 ps bs i∧σ=[some (.int c),some (.ref ld),some (.ref lt),some (.ref lk),some (.ref lp),some (.ref lb),y1,y2,y3,none]) ⟨s4.trans s5,[],[],[],[],_,_,_,hp5,hb,.nil,.nil,⟨rfl,rfl,fun j p b e _=>by simp at e⟩,rfl⟩ (fun i σ H6 hi pv=>?_) (fun σ H6 pv=>?_)
 ·obtain ⟨sm,us,vs,ps,bs,y1,y2,y3,hp6,hb6,rows,st,up,rfl⟩:=pv
  obtain ⟨wd,t,ew,et,ew',eb,t0,t1,kind⟩:=pair_at hi
  obtain ⟨d1,ed1,ed1'⟩:=ints_at (show 2 * i<ds.length by omega)
  obtain ⟨d2,ed2,ed2'⟩:=ints_at (show 2 * i+1<ds.length by omega)
  have hd6:=sm _ _ ((s23 _ _ hd))
  have ht6:=sm _ _ (s3 _ _ ht)
  have hk6:=sm _ _ hk
  have pl:=up.pl (by omega)
  have bl:=up.len
  have ul:=All2.len rows
  have vl:=st.len
  rw [Int.zero_add]
  walk_at "sv"
  refine ⟨.inl ⟨by decide,by decide⟩,?_⟩
  rw [show (2:Int) * (i:Int)=((2 * i:Nat):Int) by omega]
  refine ixL_go (SqL.of hd6) ed1' ?_
  walk_at "sv"
  refine ixL_go (SqL.of ht6) et ?_
  walk_at "sv"
  refine ⟨by omega,?_⟩
  have x0:0≤d1 % (t+1):=Int.emod_nonneg _ (by omega)
  have x1:d1 % (t+1)<t+1:=Int.emod_lt_of_pos _ (by omega)
  generalize d1 % (t+1)=x at *
  walk_at "sv"
  refine ⟨.inl ⟨by decide,by decide⟩,?_⟩
  rw [show ((2 * i:Nat):Int)+1=((2 * i+1:Nat):Int) from rfl]
  refine ixL_go (SqL.of hd6) ed2' ?_
  walk_at "sv"
  refine ixL_go (SqL.of ht6) et ?_
  walk_at "sv"
  refine ⟨by omega,?_⟩
  have z0:0≤d2 % (t+1):=Int.emod_nonneg _ (by omega)
  have z1:d2 % (t+1)<t+1:=Int.emod_lt_of_pos _ (by omega)
  generalize d2 % (t+1)=y at *
  walk_at "sv"
  refine ⟨ty_lst hb6,?_⟩
  have lo0:0≤min x y:=by omega
  have lo1:min x y≤max x y:=by omega
  have hi1:max x y≤t:=by omega
  generalize elo:min x y=lo at *
  generalize ehi:max x y=hi' at *
  refine TupR.go (by simp) fun tb ntb=>?_
  have s7:=same_new ntb (.tup [.int lo,.int hi'])
  have htb:upd H6 tb (.tup [.int lo,.int hi']) tb=some (.tup [.int lo,.int hi']):=upd_same
  generalize upd H6 tb (.tup [.int lo,.int hi'])=H7 at *
  have hb7:=s7 _ _ hb6
  have hp7:=s7 _ _ hp6
  refine app_go hb7 (by omega) ?_
  have tp:∀ a xs,H7 a=some (.tup xs)→upd H7 lb (.lst (vs++[.ref tb])) a=some (.tup xs):=fun a xs e=>(upd_ne fun z=>by
   rw [z,hb7] at e
   cases e).trans e
  have st8:Strs (upd H7 lb (.lst (vs++[.ref tb]))) (vs++[.ref tb]) (bs++[(lo,hi')]):=((st.same s7).mono tp).snoc (tp _ _ htb)
  have rows8:All2 (PrS (upd H7 lb (.lst (vs++[.ref tb])))) us ps:=All2.imp rows fun _ _ r=>r.to fun a xs e=>tp _ _ (s7 _ _ e)
  have hp8:upd H7 lb (.lst (vs++[.ref tb])) lp=some (.lst us):=(upd_ne nlb).trans hp7
  have hb8:upd H7 lb (.lst (vs++[.ref tb])) lb=some (.lst (vs++[.ref tb])):=upd_same
  have s38:Same H3 (upd H7 lb (.lst (vs++[.ref tb]))):=fun a o e=>(upd_ne (ne_of_none e nb3)).trans (s7 _ _ (sm _ _ e))
  generalize upd H7 lb (.lst (vs++[.ref tb]))=H8 at *
  have hk8:=s38 _ _ hk
  have fin:∀ (z:Str) (H9:Hp),Same H8 H9→sgOk z→z.length≤90→(∀ top,allBox[i]?=some top→StrW wd top z (lo,hi'))→TupR [.str wd,.str z] H9 fun v H10=>rAppend (.ref lp) [v] H10 fun _ H11=>Same H3 H11∧∃ (us vs:List V) (ps:List (Str×Str)) (bs:List (Int×Int)) (y1 y2 y3:Option V),H11 lp=some (.lst us)∧H11 lb=some (.lst vs)∧All2 (PrS H11) us ps∧Strs H11 vs bs∧Up6 ps bs (i+1)∧([some (.int c),some (.ref ld),some (.ref lt),some (.ref lk),some (.ref lp),some (.ref lb),some (.int (i:Int)),some (.int x),some (.int y),none]:L2.St)=[some (.int c),some (.ref ld),some (.ref lt),some (.ref lk),some (.ref lp),some (.ref lb),y1,y2,y3,none]:=fun z H9 s9 sg zl rd=>by
   refine TupR.go (by simp) fun tt ntt=>?_
   have s10:=same_new ntt (.tup [.str wd,.str z])
   have htt:upd H9 tt (.tup [.str wd,.str z]) tt=some (.tup [.str wd,.str z]):=upd_same
   generalize upd H9 tt (.tup [.str wd,.str z])=H10 at *
   have s810:=s9.trans s10
   have hp10:=s810 _ _ hp8
   refine app_go hp10 (by omega) ?_
   have tp':∀ a xs,H10 a=some (.tup xs)→upd H10 lp (.lst (us++[.ref tt])) a=some (.tup xs):=fun a xs e=>(upd_ne fun z=>by
    rw [z,hp10] at e
    cases e).trans e
   refine ⟨fun a o e=>(upd_ne (ne_of_none e np)).trans (s810 _ _ (s38 _ _ e)),us++[.ref tt],_,ps++[(wd,z)],_,_,_,_,upd_same,(upd_ne nlb.symm).trans (s810 _ _ hb8),?_,(st8.same s810).mono tp',up.add hi ew sg zl rd,rfl⟩
   exact All2.app (All2.imp rows8 fun _ _ r=>r.to fun a xs e=>tp' _ _ (s810 _ _ e)) (.cons ⟨tt,rfl,tp' _ _ htt⟩ .nil)
  walk_at "sv"
  refine ixL_go (SqL.of hk8) ew' ?_
  walk_at "sv"
  refine TupR.go (by simp) fun ta nta=>?_
  have s9:=same_new nta (.tup [.str "from",.str "to"])
  have hta:upd H8 ta (.tup [.str "from",.str "to"]) ta=some (.tup (adrWs.map V.str)):=upd_same
  generalize upd H8 ta (.tup [.str "from",.str "to"])=H9 at *
  refine inRT_go (zs:=adrWs) (SqT.of hta) ?_
  rw [if_neg Bool.false_ne_true]
  have lm:(⟨#[45]⟩:Str).length=1:=rfl
  rcases kind with ⟨ka,rfl⟩ | ⟨ka,g,rfl,tg⟩
  ·rw [decide_eq_true ka]
   walk_at "sv"
   refine ⟨ty_lst (s9 _ _ hp8),?_⟩
   refine ixL_go (SqL.of (s9 _ _ hk8)) ew' ?_
   walk_at "sv"
   simp only [elo,ehi]
   refine ⟨lo,rfl,lo0,by omega,fun H10 s10=>?_⟩
   have l1:=dot_len lo0 (show lo≤4294967295 by omega)
   have l2:=dot_len (n:=hi') (by omega) hi1
   rw [lit_minus]
   refine addS_go (by rw [lm]; omega) ?_
   walk_at "sv"
   refine ⟨hi',rfl,by omega,by omega,fun H11 s11=>?_⟩
   refine addS_go (by rw [Str.length_append,lm]; omega) ?_
   refine fin _ H11 ((s9.trans s10).trans s11) (sg_app (sg_dot lo0 (by omega)) (sg_dot (by omega) hi1) (by decide)) (by rw [Str.length_append,Str.length_append,lm]; omega) fun top _=>?_
   rw [strW_a ka]
   exact rdsA_two lo0 lo1 hi1
  ·rw [decide_eq_false ka]
   walk_at "sv"
   refine ⟨ty_lst (s9 _ _ hp8),?_⟩
   refine ixL_go (SqL.of (s9 _ _ hk8)) ew' ?_
   walk_at "sv"
   have l1:=num_len10 lo0 (by omega)
   have l2:=num_len10 (n:=hi') (by omega) (by omega)
   have l1':(Str.ofString (toString lo)).length≤10:=l1
   have l2':(Str.ofString (toString hi')).length≤10:=l2
   simp only [elo,ehi]
   refine strI_go (log_small lo0 (by omega)) ?_
   rw [lit_minus]
   refine addS_go (by rw [lm]; omega) ?_
   walk_at "sv"
   refine strI_go (log_small (by omega) (by omega)) ?_
   refine addS_go (by rw [Str.length_append,lm]; omega) ?_
   refine fin _ _ s9 (sg_app (sg_num lo0) (sg_num (show 0≤hi' by omega)) (by decide)) (by rw [Str.length_append,Str.length_append,lm]; omega) fun top et'=>?_
   rw [eb] at et'
   cases et'
   rw [strW_n ka]
   exact rdsN_two tg lo0 lo1 (by omega)
 ·obtain ⟨sm,us,vs,ps,bs,y1,y2,y3,hp6,hb6,rows,st,up,rfl⟩:=pv
  have pl:=up.pl (by omega)
  have ul:=All2.len rows
  have vl:=st.len
  have bl:=up.len
  obtain ⟨d3,ed3,ed3'⟩:=ints_at (show 12<ds.length by omega)
  walk_at "sv"
  refine ixL_go (i:=12) (SqL.of (sm _ _ (s23 _ _ hd))) ed3' ?_
  walk_at "sv"
  refine ⟨by decide,?_⟩
  obtain ⟨k,ek⟩:∃ k:Nat,d3 % 6=(k:Int):=⟨(d3 % 6).toNat,by omega⟩
  rw [ek]
  walk_at "sv"
  refine PartR.go ?_
  refine slDropA_go (k:=k) (SqL.of hp6) fun l6 nl6=>?_
  have s7:=same_new nl6 (.lst (us.drop k))
  have hl6:upd H6 l6 (.lst (us.drop k)) l6=some (.lst (us.drop k)):=upd_same
  generalize upd H6 l6 (.lst (us.drop k))=H7 at *
  walk_at "sv"
  refine PartR.go ?_
  refine slTakeA_go (k:=k) (SqL.of (s7 _ _ hp6)) fun l7 nl7=>?_
  have s8:=same_new nl7 (.lst (us.take k))
  have hl7:upd H7 l7 (.lst (us.take k)) l7=some (.lst (us.take k)):=upd_same
  generalize upd H7 l7 (.lst (us.take k))=H8 at *
  refine catQ_go (SqL.of (s8 _ _ hl6)) (SqL.of hl7) (by rw [List.length_take,List.length_drop]; omega) fun l8 nl8=>?_
  have s9:=same_new nl8 (.lst (us.drop k++us.take k))
  have hl8:upd H8 l8 (.lst (us.drop k++us.take k)) l8=some (.lst (us.drop k++us.take k)):=upd_same
  generalize upd H8 l8 (.lst (us.drop k++us.take k))=H9 at *
  have s69:=(s7.trans s8).trans s9
  walk_at "sv"
  refine TupOf.lst (SqL.of (s69 _ _ hb6)) fun pb npb=>?_
  have s10:=same_new npb (.tup vs)
  have hpb:upd H9 pb (.tup vs) pb=some (.tup vs):=upd_same
  generalize upd H9 pb (.tup vs)=H10 at *
  refine TupR.go (by simp) fun t nt'=>?_
  have s11:=same_new nt' (.tup [.ref l8,.ref pb])
  have ht':upd H10 t (.tup [.ref l8,.ref pb]) t=some (.tup [.ref l8,.ref pb]):=upd_same
  generalize upd H10 t (.tup [.ref l8,.ref pb])=H11 at *
  have s611:=(s69.trans s10).trans s11
  obtain ⟨r1,r2⟩:=all2_td rows k
  exact q t l8 pb _ _ bs H11 (s1.trans (s23.trans (sm.trans s611))) ht' ((s10.trans s11) _ _ hl8) (All2.imp (All2.app r2 r1) fun _ _ r=>r.to fun a xs e=>s611 _ _ e) ⟨vs,s11 _ _ hpb,st.same s611⟩ (up.rot k)
--CUT--
def sz (ws:List Str):Nat:=(ws.map Str.length).sum
theorem sz_app (a b:List Str):sz (a++b)=sz a+sz b:=by
 unfold sz
 rw [List.map_append,List.sum_append]
theorem sz_cons (x:Str)(b:List Str):sz (x::b)=x.length+sz b:=by
 unfold sz
 rw [List.map_cons,List.sum_cons]
theorem sz_nil:sz []=0:=rfl
theorem sz_mem {x:Str}:∀ {ws:List Str},x∈ws→x.length≤sz ws
 | y::r,h=>by
  rw [sz_cons]
  rcases List.mem_cons.mp h with rfl | h
  ·omega
  ·have:=sz_mem h
   omega
structure Spo (zs:List Str):Prop where
 ref:Refd (wordsT (J zs))
 ok:wsOk (wordsT (J zs))
 len:zs.length≤20
 sum:sz zs≤860
theorem Spo.of {zs:List Str}(h:∀ x∈zs,sgOk x)(ne:zs≠[])(r:Refd zs)(l:zs.length≤20)(s:sz zs≤860):Spo zs:=by
 have e:=J_words h ne
 refine ⟨by rw [e]; exact r,?_,l,s⟩
 rw [e]
 exact ⟨by omega,fun x hx=>⟨by have:=sz_mem hx; omega,fun c hc=>Nat.lt_trans ((h x hx).2 c hc).2.2 (by decide)⟩⟩
theorem Spo.hash {A:List Str}{k r:Str}{B:List Str}(h:∀ x∈A++[k],sgOk x)(rf:Refd (A++[k]))(l:(A++(k++⟨#[35]⟩++r)::B).length≤20)(s:sz (A++(k++⟨#[35]⟩++r)::B)≤860):Spo (A++(k++⟨#[35]⟩++r)::B):=by
 have e:=J_wordsH (r:=r) (B:=B) h
 refine ⟨by rw [e]; exact rf,?_,l,s⟩
 rw [e]
 rw [List.length_append,List.length_cons] at l
 rw [sz_app,sz_cons,Str.length_append,Str.length_append] at s
 refine ⟨by rw [List.length_append,List.length_singleton]; omega,fun x hx=>⟨?_,fun c hc=>Nat.lt_trans ((h x hx).2 c hc).2.2 (by decide)⟩⟩
 rcases List.mem_append.mp hx with hx | hx
 ·have:=sz_mem hx
  omega
 ·rw [List.mem_singleton.mp hx]
  omega
theorem key_sg:∀ x∈pairWs,sgOk x∧x.length≤8:=by
 have h:∀ x∈pairWs,litB x=true∧x.length≤8:=by decide +kernel
 exact fun x hx=>⟨(litB_ok (h x hx).1).1,(h x hx).2⟩
def QOk (qs:List (Str×Str)):Prop:=∀ p∈qs,p.1∈pairWs∧sgOk p.2∧p.2.length≤90
theorem Pr6.q {ps:List (Str×Str)}{bs:List (Int×Int)}(h:Pr6 ps bs):QOk ps:=fun p hp=>⟨h.key.mem_iff.mp (List.mem_map.mpr ⟨p,hp,rfl⟩),h.sg p hp⟩
theorem Pr6.len {ps:List (Str×Str)}{bs:List (Int×Int)}(h:Pr6 ps bs):ps.length=6:=by
 have:=h.key.length_eq
 rw [List.length_map] at this
 exact this
theorem pairWs_nd:pairWs.Nodup:=by decide +kernel
theorem QOk.sg {qs:List (Str×Str)}(h:QOk qs):∀ x∈flatP qs,sgOk x:=fun x hx=>by
 obtain ⟨q,hq,hx⟩:=List.mem_flatMap.mp hx
 simp only [List.mem_cons,List.not_mem_nil,or_false] at hx
 rcases hx with rfl | rfl
 ·exact (key_sg _ (h q hq).1).1
 ·exact (h q hq).2.1
theorem QOk.sz:∀ {qs:List (Str×Str)},QOk qs→sz (flatP qs)≤98 * qs.length
 | [],_=>Nat.le_refl _
 | q::qs,h=>by
  have ih:=QOk.sz (qs:=qs) fun x hx=>h x (List.mem_cons_of_mem _ hx)
  have h1:=h q List.mem_cons_self
  have h2:=(key_sg _ h1.1).2
  show K16.sz (q.1::q.2::flatP qs)≤_
  rw [sz_cons,sz_cons,List.length_cons]
  omega
theorem flatP_app (a b:List (Str×Str)):flatP (a++b)=flatP a++flatP b:=by
 unfold flatP
 rw [List.flatMap_append]
theorem hd_sg {h:Str ⊕ Str}(hk:hdOk h):(∀ x∈hdWs h,sgOk x)∧sz (hdWs h)≤16∧1≤(hdWs h).length∧(hdWs h).length≤2:=by
 cases h with
 | inl w =>
  have s:∀ x∈sing,litB x=true∧x.length≤16:=by decide +kernel
  refine ⟨fun x hx=>?_,?_,(show 1≤1 by decide),(show 1≤2 by decide)⟩
  ·rw [List.mem_singleton.mp hx]
   exact (litB_ok (s w hk).1).1
  ·have:=(s w hk).2
   show sz [w]≤16
   rw [sz_cons,sz_nil]
   omega
 | inr n =>
  have hk:nmOk n=true:=hk
  unfold nmOk at hk
  rw [Bool.and_eq_true,Bool.and_eq_true,decide_eq_true_eq,decide_eq_true_eq,List.all_map,List.all_eq_true] at hk
  obtain ⟨l1,l2,al⟩:=hk
  have c4:("call":Str).length=4:=by decide +kernel
  refine ⟨fun x hx=>?_,?_,(show 1≤2 by decide),(show 2≤2 by decide)⟩
  ·have hx:x∈[("call":Str),n]:=hx
   simp only [List.mem_cons,List.not_mem_nil,or_false] at hx
   rcases hx with rfl | rfl
   ·exact (litB_ok (by decide +kernel)).1
   ·refine ⟨fun e=>?_,fun c hc=>?_⟩
    ·rw [str_len,e] at l1
     cases l1
    ·have:=al c hc
     have:isLet c=true:=this
     unfold isLet at this
     rw [Bool.and_eq_true,decide_eq_true_eq,decide_eq_true_eq] at this
     omega
  ·show sz [("call":Str),n]≤16
   rw [sz_cons,sz_cons,sz_nil,c4]
   omega
theorem flatP_take:∀ (ps:List (Str×Str)) (r:Nat),(flatP ps).take (2 * r)=flatP (ps.take r)∧(flatP ps).drop (2 * r)=flatP (ps.drop r)
 | [],r=>by
  rw [List.take_nil,List.drop_nil]
  exact ⟨List.take_nil,List.drop_nil⟩
 | p::ps,0=>⟨rfl,rfl⟩
 | p::ps,r+1=>by
  have ih:=flatP_take ps r
  have e:flatP (p::ps)=p.1::p.2::flatP ps:=rfl
  rw [e,show 2 * (r+1)=(2 * r+1)+1 by omega,List.take_succ_cons,List.take_succ_cons,List.drop_succ_cons,List.drop_succ_cons,ih.1,ih.2]
  exact ⟨rfl,rfl⟩
theorem cut_at (A B:List Str)(x y:Str):((A++x::y::B).map V.str).take A.length=A.map V.str∧((A++x::y::B).map V.str).take (A.length+1)=(A++[x]).map V.str∧((A++x::y::B).map V.str).drop (A.length+1)=(y::B).map V.str∧((A++x::y::B).map V.str).drop (A.length+2)=B.map V.str∧((A++x::y::B).map V.str)[A.length]?=some (.str x)∧(((A++x::y::B).map V.str).drop A.length).take 2=[x,y].map V.str:=by
 refine ⟨?_,?_,?_,?_,?_,?_⟩
 ·rw [← List.map_take,List.take_left]
 ·rw [← List.map_take,List.take_append,List.take_of_length_le (Nat.le_succ _),Nat.add_sub_cancel_left]
  rfl
 ·rw [← List.map_drop,List.drop_append,List.drop_of_length_le (Nat.le_succ _),Nat.add_sub_cancel_left]
  rfl
 ·rw [← List.map_drop,List.drop_append,List.drop_of_length_le (Nat.le_add_right _ _),Nat.add_sub_cancel_left]
  rfl
 ·rw [List.getElem?_map,List.getElem?_append_right (Nat.le_refl _),Nat.sub_self]
  rfl
 ·rw [← List.map_drop,List.drop_left]
  rfl
theorem pick (zs:List Str)(n:Int)(h0:0≤n)(h1:n<zs.length):∃ (k:Nat) (x:Str),n=(k:Int)∧(zs.map V.str)[k]?=some (.str x)∧x∈zs:=by
 have l:n.toNat<zs.length:=by omega
 exact ⟨n.toNat,zs[n.toNat],(Int.toNat_of_nonneg h0).symm,by rw [List.getElem?_map,List.getElem?_eq_getElem l]; rfl,List.getElem_mem l⟩
def lit0:List Str:=[""," ","# pass","   #"," "]
def lit1:List Str:=["Pass","passs","pas","drop","chain","default","call-","PASS","backs","turn","stop,"]
def lit2:List Str:=["Main","a1","abcdefghijklm","a-b","a_b","main.","1","aB","-"]
def lit5:List Str:=["turns","Turn","fromDoor","door","fr","t","tos","pass","from:","TO"]
def lit6:List Str:=["0","turn","x","-","pass","3"]
theorem lit0_ok:∀ x∈lit0,wordsT x=[]∧x.length≤20:=by decide +kernel
theorem lit1_ok:∀ x∈lit1,litB x=true∧x∉sing∧x≠"call":=by decide +kernel
theorem lit2_ok:∀ x∈lit2,litB x=true∧nmOk x=false:=by decide +kernel
theorem lit5_ok:∀ x∈lit5,litB x=true∧x∉pairWs:=by decide +kernel
theorem lit6_ok:∀ x∈lit6,litB x=true:=by decide +kernel
theorem spo0 {x:Str}(h:x∈lit0):Spo [x]:=by
 obtain ⟨e,l⟩:=lit0_ok x h
 have e:wordsT (J [x])=[]:=e
 refine ⟨by rw [e]; exact refd_nil,by rw [e]; exact ⟨by decide,fun x hx=>by cases hx⟩,(show 1≤20 by decide),?_⟩
 rw [sz_cons,sz_nil]
 omega
theorem spo1a:Spo ["call"]:=Spo.of (fun x hx=>by rw [List.mem_singleton.mp hx]; exact (litB_ok (by decide +kernel)).1) (by simp) (refd_head (by decide +kernel) fun _=>rfl) (by decide) (by decide +kernel)
section
variable {h:Str ⊕ Str}{ps P1 P2:List (Str×Str)}{bs:List (Int×Int)}{k v:Str}
theorem all_app {a b:List Str}(h:∀ x∈a,sgOk x)(h':∀ x∈b,sgOk x):∀ x∈a++b,sgOk x:=fun x hx=>(List.mem_append.mp hx).elim (h x) (h' x)
theorem all_cons {a:Str}{b:List Str}(h:sgOk a)(h':∀ x∈b,sgOk x):∀ x∈a::b,sgOk x:=fun x hx=>(List.mem_cons.mp hx).elim (fun e=>e▸h) (h' x)
theorem spo1 (hk:hdOk h)(pr:Pr6 ps bs){x:Str}(hx:x∈lit1):Spo (x::((hdWs h).drop 1++flatP ps)):=by
 obtain ⟨l,n,c⟩:=lit1_ok x hx
 obtain ⟨xs,xl⟩:=litB_ok l
 obtain ⟨hs,hz,h1,h2⟩:=hd_sg hk
 have fl:=flatP_len ps
 have fz:=pr.q.sz
 have pl:=pr.len
 have dz:sz ((hdWs h).drop 1)≤16:=by
  have:=congrArg sz (List.take_append_drop 1 (hdWs h))
  rw [sz_app] at this
  omega
 refine Spo.of (all_cons xs (all_app (fun y hy=>hs y (List.mem_of_mem_drop hy)) pr.q.sg)) (by simp) (refd_head n fun e=>absurd e c) ?_ ?_
 ·rw [List.length_cons,List.length_append,List.length_drop]
  omega
 ·rw [sz_cons,sz_app]
  omega
theorem spo2 (hk:hdOk h)(pr:Pr6 ps bs){x:Str}(hx:x∈lit2):Spo ((hdWs h).take 1++x::flatP ps):=by
 obtain ⟨l,n⟩:=lit2_ok x hx
 obtain ⟨xs,xl⟩:=litB_ok l
 obtain ⟨hs,hz,h1,h2⟩:=hd_sg hk
 have fl:=flatP_len ps
 have fz:=pr.q.sz
 have pl:=pr.len
 have dz:sz ((hdWs h).take 1)≤16:=by
  have:=congrArg sz (List.take_append_drop 1 (hdWs h))
  rw [sz_app] at this
  omega
 refine Spo.of (all_app (fun y hy=>hs y (List.mem_of_mem_take hy)) (all_cons xs pr.q.sg)) (by simp) ?_ ?_ ?_
 ·cases h with
  | inl w=>exact refd_odd (h:=.inl w) hk (by rw [List.length_cons,fl]; omega)
  | inr m=>exact refd_name n
 ·rw [List.length_append,List.length_cons,List.length_take]
  omega
 ·rw [sz_app,sz_cons]
  omega
theorem spo3 (hk:hdOk h)(pr:Pr6 ps bs){p:Str×Str}(hp:p∈ps)(r:Nat):Spo (hdWs h++flatP (ps.take r)++[p.1,p.2]++flatP (ps.drop r)):=by
 obtain ⟨hs,hz,h1,h2⟩:=hd_sg hk
 have pq:=pr.q
 have e:hdWs h++flatP (ps.take r)++[p.1,p.2]++flatP (ps.drop r)=hdWs h++flatP (ps.take r++p::ps.drop r):=by
  rw [flatP_app,List.append_assoc,List.append_assoc]
  rfl
 have q2:QOk (ps.take r++p::ps.drop r):=fun x hx=>by
  rcases List.mem_append.mp hx with hx | hx
  ·exact pq x (List.mem_of_mem_take hx)
  ·rcases List.mem_cons.mp hx with rfl | hx
   ·exact pq x hp
   ·exact pq x (List.mem_of_mem_drop hx)
 have l7:(ps.take r++p::ps.drop r).length=7:=by
  have:=congrArg List.length (List.take_append_drop r ps)
  rw [List.length_append] at this
  rw [List.length_append,List.length_cons]
  have:=pr.len
  omega
 have fl:=flatP_len (ps.take r++p::ps.drop r)
 have fz:=q2.sz
 rw [e]
 refine Spo.of (all_app hs q2.sg) (fun z=>?_) (refd_twice hk fun nd=>?_) ?_ ?_
 ·rw [List.append_eq_nil_iff.mp z |>.1] at h1
  cases h1
 ·rw [List.map_append,List.map_cons] at nd
  have pm:((ps.take r).map (·.1)++p.1::(ps.drop r).map (·.1)).Perm (p.1::ps.map (·.1)):=by
   have:=List.perm_middle (a:=p.1) (l₁:=(ps.take r).map (·.1)) (l₂:=(ps.drop r).map (·.1))
   rwa [← List.map_append,List.take_append_drop] at this
  have:=pm.nodup_iff.mp nd
  rw [List.nodup_cons] at this
  exact this.1 (List.mem_map.mpr ⟨p,hp,rfl⟩)
 ·rw [List.length_append,fl]
  omega
 ·rw [sz_app]
  omega
theorem spo_odd (hk:hdOk h){r:List Str}(rs:∀ x∈r,sgOk x)(o:r.length % 2=1)(l:r.length≤16)(s:sz r≤800):Spo (hdWs h++r):=by
 obtain ⟨hs,hz,h1,h2⟩:=hd_sg hk
 refine Spo.of (all_app hs rs) (fun z=>?_) (refd_odd hk o) ?_ ?_
 ·rw [List.append_eq_nil_iff.mp z |>.1] at h1
  cases h1
 ·rw [List.length_append]
  omega
 ·rw [sz_app]
  omega
theorem QOk.parts (q:QOk (P1++(k,v)::P2)):QOk P1∧QOk P2∧k∈pairWs∧sgOk k∧k.length≤8∧sgOk v∧v.length≤90:=by
 have a:=q (k,v) (List.mem_append_right _ List.mem_cons_self)
 have b:=key_sg k a.1
 exact ⟨fun x hx=>q x (List.mem_append_left _ hx),fun x hx=>q x (List.mem_append_right _ (List.mem_cons_of_mem _ hx)),a.1,b.1,b.2,a.2⟩
theorem spo4 (hk:hdOk h)(q:QOk (P1++(k,v)::P2))(l:P1.length+P2.length=5):Spo (hdWs h++flatP P1++[k]++flatP P2):=by
 obtain ⟨q1,q2,_,ks,kl,_⟩:=q.parts
 have f1:=flatP_len P1
 have f2:=flatP_len P2
 have z1:=q1.sz
 have z2:=q2.sz
 rw [List.append_assoc,List.append_assoc]
 refine spo_odd hk (all_app q1.sg (all_cons ks q2.sg)) ?_ ?_ ?_
 ·rw [List.length_append,List.length_append,List.length_singleton]
  omega
 ·rw [List.length_append,List.length_append,List.length_singleton]
  omega
 ·rw [sz_app,sz_app,sz_cons,sz_nil]
  omega
theorem spo_two (hk:hdOk h)(q:QOk (P1++(k,v)::P2))(l:P1.length+P2.length=5){x y:Str}(xs:sgOk x∧x.length≤140)(ys:sgOk y∧y.length≤140)(r:Refd (hdWs h++flatP (P1++(x,y)::P2))):Spo (hdWs h++flatP P1++x::y::flatP P2):=by
 obtain ⟨q1,q2,_⟩:=q.parts
 obtain ⟨hs,hz,h1,h2⟩:=hd_sg hk
 have f1:=flatP_len P1
 have f2:=flatP_len P2
 have z1:=q1.sz
 have z2:=q2.sz
 have e:hdWs h++flatP P1++x::y::flatP P2=hdWs h++flatP (P1++(x,y)::P2):=by
  rw [flatP_app,List.append_assoc]
  rfl
 refine Spo.of (all_app (all_app hs q1.sg) (all_cons xs.1 (all_cons ys.1 q2.sg))) (by simp) (by rw [e]; exact r) ?_ ?_
 ·rw [List.length_append,List.length_append,List.length_cons,List.length_cons]
  omega
 ·rw [sz_app,sz_app,sz_cons,sz_cons]
  omega
theorem spo5 (hk:hdOk h)(q:QOk (P1++(k,v)::P2))(l:P1.length+P2.length=5){x:Str}(hx:x∈lit5):Spo (hdWs h++flatP P1++x::v::flatP P2):=by
 obtain ⟨xl,n⟩:=lit5_ok x hx
 obtain ⟨q1,q2,_,_,_,vs,vl⟩:=q.parts
 exact spo_two hk q l (wd_lit xl) ⟨vs,by omega⟩ (refd_key hk (p:=(x,v)) (List.mem_append_right _ List.mem_cons_self) n)
theorem spo6 (hk:hdOk h)(pr:Pr6 ps bs){x:Str}(hx:x∈lit6):Spo (hdWs h++flatP ps++[x]):=by
 obtain ⟨xs,xl⟩:=litB_ok (lit6_ok x hx)
 have f1:=flatP_len ps
 have z1:=pr.q.sz
 have pl:=pr.len
 rw [List.append_assoc]
 refine spo_odd hk (all_app pr.q.sg (all_cons xs (fun _ z=>by cases z))) ?_ ?_ ?_
 ·rw [List.length_append,List.length_singleton]
  omega
 ·rw [List.length_append,List.length_singleton]
  omega
 ·rw [sz_app,sz_cons,sz_nil]
  omega
theorem spo7 (hk:hdOk h)(q:QOk (P1++(k,v)::P2))(l:P1.length+P2.length=5){z:Str}(b:badV k z)(wz:Wd z):Spo (hdWs h++flatP P1++k::z::flatP P2):=by
 obtain ⟨q1,q2,kw,ks,kl,_⟩:=q.parts
 exact spo_two hk q l ⟨ks,by omega⟩ wz (refd_val hk (List.mem_append_right _ List.mem_cons_self) kw b)
theorem key_cut:∀ x∈pairWs,litB (Txt.slice x none (some 1))=true∧(Txt.slice x (some 1) none).length≤20:=by decide +kernel
theorem spo8 (hk:hdOk h)(q:QOk (P1++(k,v)::P2))(l:P1.length+P2.length=5):Spo (hdWs h++flatP P1++(Txt.slice k none (some 1)++⟨#[35]⟩++Txt.slice k (some 1) none)::v::flatP P2):=by
 obtain ⟨q1,q2,kw,ks,kl,vs,vl⟩:=q.parts
 obtain ⟨hs,hz,h1,h2⟩:=hd_sg hk
 obtain ⟨c1,c2⟩:=key_cut k kw
 obtain ⟨c3,c4⟩:=litB_ok c1
 have f1:=flatP_len P1
 have f2:=flatP_len P2
 have z1:=q1.sz
 have z2:=q2.sz
 refine Spo.hash (all_app (all_app hs q1.sg) (all_cons c3 (fun _ z=>by cases z))) ?_ ?_ ?_
 ·rw [List.append_assoc]
  refine refd_odd hk ?_
  rw [List.length_append,List.length_singleton]
  omega
 ·rw [List.length_append,List.length_append,List.length_cons,List.length_cons]
  omega
 ·rw [sz_app,sz_app,sz_cons,sz_cons,Str.length_append,Str.length_append,show (⟨#[35]⟩:Str).length=1 from rfl]
  omega
end
--CUT--
def spSpoil16:Sp:=fun vs H Q _=>∃ (l:Addr) (c m:Int) (h:Str ⊕ Str) (ps:List (Str×Str)) (bs:List (Int×Int)),vs=[.ref l,.int ((hdWs h).length:Int),.int c,.int m]∧H l=some (.lst ((hdWs h++flatP ps).map V.str))∧hdOk h∧Pr6 ps bs∧0≤m∧m<2 ^ 33∧∀ p zs H',Same H H'→H' p=some (.lst (zs.map V.str))→Spo zs→Q (.ref p) H'
theorem ok_spoil16 (F:Fun K "_law_spoiled" "_law_spoiled" s__law_spoiled f fd)(g__law_bad_value:Fn P w K mg base "_law_bad_value" 3 ["_law_key","_law_draw","_law_more"] spBadV):FnOk P w K mg base CX0 4 f fd ["_law_words","_law_many","_law_cell","_law_more"] spSpoil16:=by
 refine F.ok sc__law_spoiled (fun vs H Q E h=>?_) (fun cdv A outer s H vs Q E hr h=>?_)
 ·obtain ⟨_,_,_,_,_,_,rfl,_⟩:=h
  rfl
 obtain ⟨l,c,m,h,ps,bs,rfl,hl,hk,pr,m0,m1,q⟩:=h
 obtain ⟨hs,hz,h1,h2⟩:=hd_sg hk
 have pl:=pr.len
 have pq:=pr.q
 have fl:=flatP_len ps
 have wl:((hdWs h++flatP ps).map V.str).length≤14:=by rw [List.length_map,List.length_append,fl]; omega
 obtain ⟨i,ei,i6⟩:∃ i:Nat,m % 6=(i:Int)∧i<6:=⟨(m % 6).toNat,by omega,by omega⟩
 obtain ⟨P1,k,v,P2,eps,lp1⟩:∃ P1 k v P2,ps=P1++(k,v)::P2∧P1.length=i:=by
  refine ⟨ps.take i,(ps[i]'(by omega)).1,(ps[i]'(by omega)).2,ps.drop (i+1),?_,by rw [List.length_take]; omega⟩
  exact (List.take_append_drop i ps).symm.trans (congrArg _ (List.drop_eq_getElem_cons (by omega)))
 have lp2:P1.length+P2.length=5:=by
  rw [eps,List.length_append,List.length_cons] at pl
  omega
 have f1:=flatP_len P1
 have eW:hdWs h++flatP ps=(hdWs h++flatP P1)++k::v::flatP P2:=by
  rw [eps,flatP_app,List.append_assoc]
  rfl
 have lA:(hdWs h++flatP P1).length=(hdWs h).length+2 * i:=by rw [List.length_append,f1,lp1]
 obtain ⟨t0,t1,d1,d2,g0,mid⟩:=cut_at (hdWs h++flatP P1) (flatP P2) k v
 rw [← eW] at t0 t1 d1 d2 g0 mid
 rw [lA] at t0 t1 d1 d2 g0 mid
 have pq':QOk (P1++(k,v)::P2):=eps▸pq
 have hp:(k,v)∈ps:=by rw [eps]; exact List.mem_append_right _ List.mem_cons_self
 have cat:∀ {a b:Addr} {xs ys:List Str} {H1:Hp} {Q':VK},Same H H1→H1 a=some (.lst (xs.map V.str))→H1 b=some (.lst (ys.map V.str))→xs.length≤100→ys.length≤100→(∀ p H',Same H1 H'→Same H H'→H' p=some (.lst ((xs++ys).map V.str))→Q' (.ref p) H')→rCatQ K (.ref a) (.ref b) H1 Q':=fun {a b xs ys H1 Q'} s1 ha hb la lb q'=>by
  refine catQ_go (SqL.of ha) (SqL.of hb) (by rw [List.length_map,List.length_map]; omega) fun p np=>?_
  have s2:=same_new np (.lst (xs.map V.str++ys.map V.str))
  exact q' p _ s2 (s1.trans s2) (by rw [upd_same,List.map_append])
 have slD:∀ {n:Nat} {xs:List Str} {H1:Hp} {Q':VK},Same H H1→((hdWs h++flatP ps).map V.str).drop n=xs.map V.str→(∀ p H',Same H1 H'→Same H H'→H' p=some (.lst (xs.map V.str))→Q' (.ref p) H')→rSlL K (.ref l) (some (n:Int)) none H1 Q':=fun {n xs H1 Q'} s1 e q'=>by
  refine slDropA_go (SqL.of (s1 _ _ hl)) fun p np=>?_
  have s2:=same_new np (.lst (((hdWs h++flatP ps).map V.str).drop n))
  exact q' p _ s2 (s1.trans s2) (by rw [upd_same,e])
 have slT:∀ {n:Nat} {xs:List Str} {H1:Hp} {Q':VK},Same H H1→((hdWs h++flatP ps).map V.str).take n=xs.map V.str→(∀ p H',Same H1 H'→Same H H'→H' p=some (.lst (xs.map V.str))→Q' (.ref p) H')→rSlL K (.ref l) none (some (n:Int)) H1 Q':=fun {n xs H1 Q'} s1 e q'=>by
  refine slTakeA_go (SqL.of (s1 _ _ hl)) fun p np=>?_
  have s2:=same_new np (.lst (((hdWs h++flatP ps).map V.str).take n))
  exact q' p _ s2 (s1.trans s2) (by rw [upd_same,e])
 have one:∀ {x:Str} {H1:Hp} {Q':VK},Same H H1→(∀ p H',Same H1 H'→Same H H'→H' p=some (.lst ([x].map V.str))→Q' (.ref p) H')→LstR [.str x] H1 Q':=fun {x H1 Q'} s1 q'=>by
  refine LstR.go (by simp) fun p np=>?_
  have s2:=same_new np (.lst [.str x])
  exact q' p _ s2 (s1.trans s2) upd_same
 have m2:0≤m / 6:=by omega
 have m3:m / 6<2 ^ 33:=by omega
 refine ⟨_,(@pss_cons _ _ _ _ _ (@ps_set _ _ (4) _ _ _ _ sc__law_spoiled.nd rfl (Or.inl rfl) (@pe_op _ _ _ _ _ _ _ _ op_add (pv 1) (@pe_op _ _ _ _ _ _ _ _ op_mul pe_int (@pe_op _ _ _ _ _ _ _ _ op_mod (pv 3) pe_int))) (by rfl) (by first | exact .inl rfl | exact .inr rfl | assumption)) (@pss_cons _ _ _ _ _ (@ps_set _ _ (3) _ _ _ _ sc__law_spoiled.nd rfl (Or.inl rfl) (@pe_op _ _ _ _ _ _ _ _ op_divW (pv 3) pe_int) (by rfl) (by first | exact .inl rfl | exact .inr rfl | assumption)) (@pss_cons _ _ _ _ _ (@ps_set _ _ (5) _ _ _ _ sc__law_spoiled.nd rfl (Or.inl rfl) (@pe_op _ _ _ _ _ _ _ _ op_mod (pv 2) pe_int) (by rfl) (by first | exact .inl rfl | exact .inr rfl | assumption)) (@pss_cons _ _ _ _ _ (@ps_if _ _ _ _ _ _ _ _ (@pt_cmpR _ _ _ _ _ _ _ _ op_eq (pv 5) pe_int (nomark _)) (@pss_one _ _ _ (@ps_ret _ _ _ _ (@pe_lst _ _ _ _ (@pa_cons _ _ _ _ _ (@pe_ix _ _ _ _ _ _ _ ix_list (@pe_lst _ _ _ _ (@pa_consts _ _ _ rfl)) (@pe_op _ _ _ _ _ _ _ _ op_mod (pv 3) pe_int) (fun _ _=>rfl)) pa_nil (by rfl))))) pss_nil) (@pss_cons _ _ _ _ _ (@ps_if _ _ _ _ _ _ _ _ (@PW.pt _ _ _ (@pw_and _ _ _ _ _ _ _ (@pt_cmpR _ _ _ _ _ _ _ _ op_eq (pv 5) pe_int (nomark _)) (@pw_and _ _ _ _ _ _ _ (@pt_cmpR _ _ _ _ _ _ _ _ op_eq (@pe_ix _ _ _ _ _ _ _ ix_list (pv 0) pe_int (fun _ _=>rfl)) pe_str (nomark _)) (@pw_and1 _ _ _ _ (@pt_cmpR _ _ _ _ _ _ _ _ op_eq (@pe_op _ _ _ _ _ _ _ _ op_mod (pv 3) pe_int) pe_int (nomark _)))))) (@pss_one _ _ _ (@ps_ret _ _ _ _ (@pe_lst _ _ _ _ (@pa_cons _ _ _ _ _ pe_str pa_nil (by rfl))))) pss_nil) (@pss_cons _ _ _ _ _ (@ps_if _ _ _ _ _ _ _ _ (@pt_cmpR _ _ _ _ _ _ _ _ op_eq (pv 5) pe_int (nomark _)) (@pss_cons _ _ _ _ _ (@ps_set _ _ (6) _ _ _ _ sc__law_spoiled.nd rfl (Or.inl rfl) (@pe_lst _ _ _ _ (@pa_consts _ _ _ rfl)) (by rfl) (by first | exact .inl rfl | exact .inr rfl | assumption)) (@pss_one _ _ _ (@ps_ret _ _ _ _ (@pe_op _ _ _ _ _ _ _ _ op_catQ (@pe_lst _ _ _ _ (@pa_cons _ _ _ _ _ (@pe_ix _ _ _ _ _ _ _ ix_list (pv 6) (@pe_op _ _ _ _ _ _ _ _ op_mod (pv 3) pe_int) (fun _ _=>rfl)) pa_nil (by rfl))) (@pe_slice _ _ _ _ _ _ _ _ _ _ sl_list (pv 0) (@po_some _ _ _ pe_int) po_none))))) pss_nil) (@pss_cons _ _ _ _ _ (@ps_if _ _ _ _ _ _ _ _ (@pt_cmpR _ _ _ _ _ _ _ _ op_eq (pv 5) pe_int (nomark _)) (@pss_cons _ _ _ _ _ (@ps_set _ _ (6) _ _ _ _ sc__law_spoiled.nd rfl (Or.inl rfl) (@pe_lst _ _ _ _ (@pa_consts _ _ _ rfl)) (by rfl) (by first | exact .inl rfl | exact .inr rfl | assumption)) (@pss_one _ _ _ (@ps_ret _ _ _ _ (@pe_op _ _ _ _ _ _ _ _ op_catQ (@pe_op _ _ _ _ _ _ _ _ op_catQ (@pe_slice _ _ _ _ _ _ _ _ _ _ sl_list (pv 0) po_none (@po_some _ _ _ pe_int)) (@pe_lst _ _ _ _ (@pa_cons _ _ _ _ _ (@pe_ix _ _ _ _ _ _ _ ix_list (pv 6) (@pe_op _ _ _ _ _ _ _ _ op_mod (pv 3) pe_int) (fun _ _=>rfl)) pa_nil (by rfl)))) (@pe_slice _ _ _ _ _ _ _ _ _ _ sl_list (pv 0) (@po_some _ _ _ (pv 1)) po_none))))) pss_nil) (@pss_cons _ _ _ _ _ (@ps_if _ _ _ _ _ _ _ _ (@pt_cmpR _ _ _ _ _ _ _ _ op_eq (pv 5) pe_int (nomark _)) (@pss_cons _ _ _ _ _ (@ps_set _ _ (7) _ _ _ _ sc__law_spoiled.nd rfl (Or.inl rfl) (@pe_op _ _ _ _ _ _ _ _ op_add (pv 1) (@pe_op _ _ _ _ _ _ _ _ op_mul pe_int (@pe_op _ _ _ _ _ _ _ _ op_mod (pv 3) pe_int))) (by rfl) (by first | exact .inl rfl | exact .inr rfl | assumption)) (@pss_one _ _ _ (@ps_ret _ _ _ _ (@pe_op _ _ _ _ _ _ _ _ op_catQ (@pe_op _ _ _ _ _ _ _ _ op_catQ (@pe_slice _ _ _ _ _ _ _ _ _ _ sl_list (pv 0) po_none (@po_some _ _ _ (pv 7))) (@pe_slice _ _ _ _ _ _ _ _ _ _ sl_list (pv 0) (@po_some _ _ _ (pv 4)) (@po_some _ _ _ (@pe_op _ _ _ _ _ _ _ _ op_add (pv 4) pe_int)))) (@pe_slice _ _ _ _ _ _ _ _ _ _ sl_list (pv 0) (@po_some _ _ _ (pv 7)) po_none))))) pss_nil) (@pss_cons _ _ _ _ _ (@ps_if _ _ _ _ _ _ _ _ (@pt_cmpR _ _ _ _ _ _ _ _ op_eq (pv 5) pe_int (nomark _)) (@pss_one _ _ _ (@ps_ret _ _ _ _ (@pe_op _ _ _ _ _ _ _ _ op_catQ (@pe_slice _ _ _ _ _ _ _ _ _ _ sl_list (pv 0) po_none (@po_some _ _ _ (@pe_op _ _ _ _ _ _ _ _ op_add (pv 4) pe_int))) (@pe_slice _ _ _ _ _ _ _ _ _ _ sl_list (pv 0) (@po_some _ _ _ (@pe_op _ _ _ _ _ _ _ _ op_add (pv 4) pe_int)) po_none)))) pss_nil) (@pss_cons _ _ _ _ _ (@ps_if _ _ _ _ _ _ _ _ (@pt_cmpR _ _ _ _ _ _ _ _ op_eq (pv 5) pe_int (nomark _)) (@pss_cons _ _ _ _ _ (@ps_set _ _ (6) _ _ _ _ sc__law_spoiled.nd rfl (Or.inl rfl) (@pe_lst _ _ _ _ (@pa_consts _ _ _ rfl)) (by rfl) (by first | exact .inl rfl | exact .inr rfl | assumption)) (@pss_one _ _ _ (@ps_ret _ _ _ _ (@pe_op _ _ _ _ _ _ _ _ op_catQ (@pe_op _ _ _ _ _ _ _ _ op_catQ (@pe_slice _ _ _ _ _ _ _ _ _ _ sl_list (pv 0) po_none (@po_some _ _ _ (pv 4))) (@pe_lst _ _ _ _ (@pa_cons _ _ _ _ _ (@pe_ix _ _ _ _ _ _ _ ix_list (pv 6) (@pe_op _ _ _ _ _ _ _ _ op_mod (pv 3) pe_int) (fun _ _=>rfl)) pa_nil (by rfl)))) (@pe_slice _ _ _ _ _ _ _ _ _ _ sl_list (pv 0) (@po_some _ _ _ (@pe_op _ _ _ _ _ _ _ _ op_add (pv 4) pe_int)) po_none))))) pss_nil) (@pss_cons _ _ _ _ _ (@ps_if _ _ _ _ _ _ _ _ (@pt_cmpR _ _ _ _ _ _ _ _ op_eq (pv 5) pe_int (nomark _)) (@pss_one _ _ _ (@ps_ret _ _ _ _ (@pe_op _ _ _ _ _ _ _ _ op_catQ (pv 0) (@pe_lst _ _ _ _ (@pa_cons _ _ _ _ _ (@pe_ix _ _ _ _ _ _ _ ix_list (@pe_lst _ _ _ _ (@pa_consts _ _ _ rfl)) (@pe_op _ _ _ _ _ _ _ _ op_mod (pv 3) pe_int) (fun _ _=>rfl)) pa_nil (by rfl)))))) pss_nil) (@pss_cons _ _ _ _ _ (@ps_if _ _ _ _ _ _ _ _ (@pt_cmpR _ _ _ _ _ _ _ _ op_eq (pv 5) pe_int (nomark _)) (@pss_one _ _ _ (@ps_ret _ _ _ _ (@pe_op _ _ _ _ _ _ _ _ op_catQ (@pe_op _ _ _ _ _ _ _ _ op_catQ (@pe_slice _ _ _ _ _ _ _ _ _ _ sl_list (pv 0) po_none (@po_some _ _ _ (@pe_op _ _ _ _ _ _ _ _ op_add (pv 4) pe_int))) (@pe_lst _ _ _ _ (@pa_cons _ _ _ _ _ (@pe_fn _ _ _ _ _ _ _ _ _ _ _ g__law_bad_value hr (by decide) rfl (@pa_cons _ _ _ _ _ (@pe_ix _ _ _ _ _ _ _ ix_list (pv 0) (pv 4) (fun _ _=>rfl)) (@pa_cons _ _ _ _ _ (@pe_op _ _ _ _ _ _ _ _ op_divW (pv 2) pe_int) (@pa_cons _ _ _ _ _ (pv 3) pa_nil (by rfl)) (by rfl)) (by rfl)) (by decide) (by rfl) (by rfl)) pa_nil (by rfl)))) (@pe_slice _ _ _ _ _ _ _ _ _ _ sl_list (pv 0) (@po_some _ _ _ (@pe_op _ _ _ _ _ _ _ _ op_add (pv 4) pe_int)) po_none)))) pss_nil) (@pss_one _ _ _ (@ps_ret _ _ _ _ (@pe_op _ _ _ _ _ _ _ _ op_catQ (@pe_op _ _ _ _ _ _ _ _ op_catQ (@pe_slice _ _ _ _ _ _ _ _ _ _ sl_list (pv 0) po_none (@po_some _ _ _ (pv 4))) (@pe_lst _ _ _ _ (@pa_cons _ _ _ _ _ (@pe_op _ _ _ _ _ _ _ _ op_addS (@pe_op _ _ _ _ _ _ _ _ op_addS (@pe_slice _ _ _ _ _ _ _ _ _ _ sl_str (@pe_ix _ _ _ _ _ _ _ ix_list (pv 0) (pv 4) (fun _ _=>rfl)) po_none (@po_some _ _ _ pe_int)) pe_str) (@pe_slice _ _ _ _ _ _ _ _ _ _ sl_str (@pe_ix _ _ _ _ _ _ _ ix_list (pv 0) (pv 4) (fun _ _=>rfl)) (@po_some _ _ _ pe_int) po_none)) pa_nil (by rfl)))) (@pe_slice _ _ _ _ _ _ _ _ _ _ sl_list (pv 0) (@po_some _ _ _ (@pe_op _ _ _ _ _ _ _ _ op_add (pv 4) pe_int)) po_none)))))))))))))))),?_⟩
 rw [st__law_spoiled]
 refine seq_hid fun N go=>?_
 walk_at "sv"
 refine ⟨by decide,.inl ⟨by decide,by decide⟩,?_⟩
 rw [ei,show ((hdWs h).length:Int)+2 * (i:Int)=(((hdWs h).length+2 * i:Nat):Int) by omega]
 refine go _ _ ?_
 clear go
 refine seq_hid fun N go=>?_
 walk_at "sv"
 refine ⟨⟨by decide,by decide⟩,?_⟩
 refine go _ _ ?_
 clear go
 refine seq_hid fun N go=>?_
 walk_at "sv"
 refine ⟨by decide,?_⟩
 refine go _ _ ?_
 clear go
 generalize m / 6=n at *
 obtain ⟨a,ea⟩:∃ a,(hdWs h).length+2 * i=a:=⟨_,rfl⟩
 rw [ea] at t0 t1 d1 d2 g0 mid ⊢
 generalize c % 9=y
 refine seq_hid fun N go=>?_
 walk_at "sv"
 refine BrS.dec (fun _=>?_) fun _=>?_
 ·walk_at "sv"
  refine LstR.go (by simp) fun l2 nl2=>?_
  have s2:=same_new nl2 (.lst (lit0.map V.str))
  walk_at "sv"
  refine ⟨by decide,?_⟩
  obtain ⟨j,x,ej,ex,hx⟩:=pick lit0 (n % 5) (by omega) (show n % 5<5 by omega)
  rw [ej]
  refine ixL_go (SqL.of (upd_same (o:=.lst (lit0.map V.str)))) ex ?_
  refine one s2 fun p H' _ s' hp'=>?_
  exact q p _ _ s' hp' (spo0 hx)
 walk_at "sv"
 refine go _ _ ?_
 clear go
 refine seq_hid fun N go=>?_
 suffices rest:N [some (.ref l),some (.int ((hdWs h).length:Int)),some (.int c),some (.int n),some (.int (a:Int)),some (.int y),none,none] H by
  obtain ⟨w0,ew0⟩:∃ w0,((hdWs h++flatP ps).map V.str)[0]?=some (.str w0):=by
   cases h with
   | inl w=>exact ⟨w,rfl⟩
   | inr w=>exact ⟨"call",rfl⟩
  walk_at "sv"
  refine BrA.dec (fun _=>?_) fun _=>?_
  rotate_left
  ·walk_at "sv"
   exact rest
  walk_at "sv"
  refine ixL_go (i:=0) (SqL.of hl) ew0 ?_
  walk_at "sv"
  refine BrA.dec (fun _=>?_) fun _=>?_
  rotate_left
  ·walk_at "sv"
   exact rest
  walk_at "sv"
  refine ⟨by decide,?_⟩
  refine BrS.dec (fun _=>?_) fun _=>?_
  rotate_left
  ·walk_at "sv"
   exact rest
  walk_at "sv"
  refine one (Same.refl _) fun p H' _ s' hp'=>?_
  exact q p _ _ s' hp' spo1a
 refine go _ _ ?_
 clear go
 refine seq_hid fun N go=>?_
 walk_at "sv"
 refine BrS.dec (fun _=>?_) fun _=>?_
 ·walk_at "sv"
  refine LstR.go (by simp) fun l2 nl2=>?_
  have s2:=same_new nl2 (.lst (lit1.map V.str))
  walk_at "sv"
  refine ⟨by decide,?_⟩
  obtain ⟨j,x,ej,ex,hx⟩:=pick lit1 (n % 11) (by omega) (show n % 11<11 by omega)
  rw [ej]
  refine ixL_go (SqL.of (upd_same (o:=.lst (lit1.map V.str)))) ex ?_
  refine one s2 fun p3 H3 s3' s3 h3=>?_
  walk_at "sv"
  refine PartR.go ?_
  refine slD (n:=1) (xs:=(hdWs h).drop 1++flatP ps) s3 (by cases h <;> rfl) fun p4 H4 s4' s4 h4=>?_
  refine cat s4 (s4' _ _ h3) h4 (by simp) (by rw [List.length_append,List.length_drop]; omega) fun p5 H5 _ s5 h5=>?_
  exact q p5 _ _ s5 h5 (spo1 hk pr hx)
 walk_at "sv"
 refine go _ _ ?_
 clear go
 refine seq_hid fun N go=>?_
 walk_at "sv"
 refine BrS.dec (fun _=>?_) fun _=>?_
 ·walk_at "sv"
  refine LstR.go (by simp) fun l2 nl2=>?_
  have s2:=same_new nl2 (.lst (lit2.map V.str))
  walk_at "sv"
  refine PartR.go ?_
  refine slT (n:=1) (xs:=(hdWs h).take 1) s2 (by cases h <;> rfl) fun p3 H3 s3' s3 h3=>?_
  walk_at "sv"
  refine ⟨by decide,?_⟩
  obtain ⟨j,x,ej,ex,hx⟩:=pick lit2 (n % 9) (by omega) (show n % 9<9 by omega)
  rw [ej]
  refine ixL_go (SqL.of (s3' _ _ (upd_same (o:=.lst (lit2.map V.str))))) ex ?_
  refine one s3 fun p4 H4 s4' s4 h4=>?_
  refine cat s4 (s4' _ _ h3) h4 (by rw [List.length_take]; omega) (by simp) fun p5 H5 s5' s5 h5=>?_
  walk_at "sv"
  refine PartR.go ?_
  refine slD (xs:=flatP ps) s5 (by rw [← List.map_drop,List.drop_left]) fun p6 H6 s6' s6 h6=>?_
  refine cat s6 (s6' _ _ h5) h6 (by rw [List.length_append,List.length_take]; simp; omega) (by omega) fun p7 H7 _ s7 h7=>?_
  rw [List.append_assoc] at h7
  exact q p7 _ _ s7 h7 (spo2 hk pr hx)
 walk_at "sv"
 refine go _ _ ?_
 clear go
 refine seq_hid fun N go=>?_
 walk_at "sv"
 refine BrS.dec (fun _=>?_) fun _=>?_
 ·walk_at "sv"
  refine ⟨by decide,.inl ⟨by decide,by decide⟩,?_⟩
  obtain ⟨r,er,r7⟩:∃ r:Nat,n % 7=(r:Int)∧r<7:=⟨(n % 7).toNat,by omega,by omega⟩
  rw [er,show ((hdWs h).length:Int)+2 * (r:Int)=(((hdWs h).length+2 * r:Nat):Int) by omega]
  obtain ⟨ft,fd'⟩:=flatP_take ps r
  have f3:=flatP_len (ps.take r)
  have f4:=flatP_len (ps.drop r)
  have l3:(ps.take r).length≤6:=by rw [List.length_take]; omega
  have l4:(ps.drop r).length≤6:=by rw [List.length_drop]; omega
  walk_at "sv"
  refine PartR.go ?_
  refine slT (xs:=hdWs h++flatP (ps.take r)) (Same.refl _) (by rw [← List.map_take,List.take_append,List.take_of_length_le (Nat.le_add_right _ _),Nat.add_sub_cancel_left,ft]) fun p3 H3 s3' s3 h3=>?_
  walk_at "sv"
  refine PartR.go ?_
  refine PartR.go ?_
  rw [show (a:Int)+2=((a+2:Nat):Int) from rfl]
  refine slMidA_go (SqL.of (s3 _ _ hl)) fun p4 np4=>?_
  rw [Nat.add_sub_cancel_left,mid]
  have s4':=same_new np4 (.lst ([k,v].map V.str))
  have h4:upd H3 p4 (.lst ([k,v].map V.str)) p4=some (.lst ([k,v].map V.str)):=upd_same
  generalize upd H3 p4 (.lst ([k,v].map V.str))=H4 at *
  have s4:=s3.trans s4'
  refine cat s4 (s4' _ _ h3) h4 (by rw [List.length_append]; omega) (by simp) fun p5 H5 s5' s5 h5=>?_
  walk_at "sv"
  refine PartR.go ?_
  refine slD (xs:=flatP (ps.drop r)) s5 (by rw [← List.map_drop,List.drop_append,List.drop_of_length_le (Nat.le_add_right _ _),Nat.add_sub_cancel_left,fd',List.nil_append]) fun p6 H6 s6' s6 h6=>?_
  refine cat s6 (s6' _ _ h5) h6 (by rw [List.length_append,List.length_append]; simp; omega) (by omega) fun p7 H7 _ s7 h7=>?_
  exact q p7 _ _ s7 h7 (spo3 hk pr hp r)
 walk_at "sv"
 refine go _ _ ?_
 clear go
 have e1:(a:Int)+1=((a+1:Nat):Int):=rfl
 have e2:(a:Int)+2=((a+2:Nat):Int):=rfl
 have f2:=flatP_len P2
 have lA':(hdWs h++flatP P1).length≤20:=by rw [lA]; omega
 refine seq_hid fun N go=>?_
 walk_at "sv"
 refine BrS.dec (fun _=>?_) fun _=>?_
 ·walk_at "sv"
  rw [e1,e2]
  refine PartR.go ?_
  refine slT (xs:=hdWs h++flatP P1++[k]) (Same.refl _) t1 fun p3 H3 s3' s3 h3=>?_
  walk_at "sv"
  refine PartR.go ?_
  refine slD (xs:=flatP P2) s3 d2 fun p4 H4 s4' s4 h4=>?_
  refine cat s4 (s4' _ _ h3) h4 (by rw [List.length_append]; simp; omega) (by omega) fun p7 H7 _ s7 h7=>?_
  exact q p7 _ _ s7 h7 (spo4 hk pq' lp2)
 walk_at "sv"
 refine go _ _ ?_
 clear go
 refine seq_hid fun N go=>?_
 walk_at "sv"
 refine BrS.dec (fun _=>?_) fun _=>?_
 ·walk_at "sv"
  refine LstR.go (by simp) fun l2 nl2=>?_
  have s2:=same_new nl2 (.lst (lit5.map V.str))
  walk_at "sv"
  refine PartR.go ?_
  refine slT (xs:=hdWs h++flatP P1) s2 t0 fun p3 H3 s3' s3 h3=>?_
  walk_at "sv"
  refine ⟨by decide,?_⟩
  obtain ⟨j,x,ej,ex,hx⟩:=pick lit5 (n % 10) (by omega) (show n % 10<10 by omega)
  rw [ej]
  refine ixL_go (SqL.of (s3' _ _ (upd_same (o:=.lst (lit5.map V.str))))) ex ?_
  refine one s3 fun p4 H4 s4' s4 h4=>?_
  refine cat s4 (s4' _ _ h3) h4 (by omega) (by simp) fun p5 H5 s5' s5 h5=>?_
  walk_at "sv"
  rw [e1]
  refine PartR.go ?_
  refine slD (xs:=v::flatP P2) s5 d1 fun p6 H6 s6' s6 h6=>?_
  refine cat s6 (s6' _ _ h5) h6 (by rw [List.length_append]; simp; omega) (by rw [List.length_cons]; omega) fun p7 H7 _ s7 h7=>?_
  rw [List.append_assoc] at h7
  exact q p7 _ _ s7 h7 (spo5 hk pq' lp2 hx)
 walk_at "sv"
 refine go _ _ ?_
 clear go
 refine seq_hid fun N go=>?_
 walk_at "sv"
 refine BrS.dec (fun _=>?_) fun _=>?_
 ·walk_at "sv"
  refine LstR.go (by simp) fun l2 nl2=>?_
  have s2:=same_new nl2 (.lst (lit6.map V.str))
  walk_at "sv"
  refine ⟨by decide,?_⟩
  obtain ⟨j,x,ej,ex,hx⟩:=pick lit6 (n % 6) (by omega) (show n % 6<6 by omega)
  rw [ej]
  refine ixL_go (SqL.of (upd_same (o:=.lst (lit6.map V.str)))) ex ?_
  refine one s2 fun p4 H4 s4' s4 h4=>?_
  refine cat s4 (s4 _ _ hl) h4 (by rw [List.length_append]; omega) (by simp) fun p5 H5 s5' s5 h5=>?_
  exact q p5 _ _ s5 h5 (spo6 hk pr hx)
 walk_at "sv"
 refine go _ _ ?_
 clear go
 refine seq_hid fun N go=>?_
 walk_at "sv"
 refine BrS.dec (fun _=>?_) fun _=>?_
 ·walk_at "sv"
  rw [e1,e2]
  refine PartR.go ?_
  refine slT (xs:=hdWs h++flatP P1++[k]) (Same.refl _) t1 fun p3 H3 s3' s3 h3=>?_
  walk_at "sv"
  refine ixL_go (SqL.of (s3 _ _ hl)) g0 ?_
  walk_at "sv"
  refine ⟨⟨by decide,by decide⟩,?_⟩
  refine ⟨k,_,_,rfl,pq'.parts.2.2.1,m2,m3,fun z H4 s4' bz wz=>?_⟩
  refine one (s3.trans s4') fun p5 H5 s5' s5 h5=>?_
  refine cat s5 (s5' _ _ (s4' _ _ h3)) h5 (by rw [List.length_append]; simp; omega) (by simp) fun p6 H6 s6' s6 h6=>?_
  walk_at "sv"
  refine PartR.go ?_
  refine slD (xs:=flatP P2) s6 d2 fun p7 H7 s7' s7 h7=>?_
  refine cat s7 (s7' _ _ h6) h7 (by rw [List.length_append,List.length_append]; simp; omega) (by omega) fun p8 H8 _ s8 h8=>?_
  rw [List.append_assoc,List.append_assoc] at h8
  exact q p8 _ _ s8 h8 (spo7 hk pq' lp2 bz wz)
 walk_at "sv"
 refine go _ _ ?_
 clear go
 obtain ⟨_,_,kw,_,kl,_⟩:=pq'.parts
 obtain ⟨c1,c2⟩:=key_cut k kw
 obtain ⟨_,c4⟩:=litB_ok c1
 have k8:k.length≤1000:=by omega
 walk_at "sv"
 refine PartR.go ?_
 refine slT (xs:=hdWs h++flatP P1) (Same.refl _) t0 fun p3 H3 s3' s3 h3=>?_
 walk_at "sv"
 refine ixL_go (SqL.of (s3 _ _ hl)) g0 ?_
 walk_at "sv"
 refine PartR.go ?_
 refine ⟨k,rfl,Nat.le_trans k8 (by decide),?_⟩
 walk_at "sv"
 rw [lit_hash]
 refine addS_go (by rw [show (⟨#[35]⟩:Str).length=1 from rfl]; omega) ?_
 walk_at "sv"
 refine ixL_go (SqL.of (s3 _ _ hl)) g0 ?_
 walk_at "sv"
 refine PartR.go ?_
 refine ⟨k,rfl,Nat.le_trans k8 (by decide),?_⟩
 walk_at "sv"
 refine addS_go (by rw [Str.length_append,show (⟨#[35]⟩:Str).length=1 from rfl]; omega) ?_
 refine one s3 fun p5 H5 s5' s5 h5=>?_
 refine cat s5 (s5' _ _ h3) h5 (by omega) (by simp) fun p6 H6 s6' s6 h6=>?_
 walk_at "sv"
 rw [e1]
 refine PartR.go ?_
 refine slD (xs:=v::flatP P2) s6 d1 fun p7 H7 s7' s7 h7=>?_
 refine cat s7 (s7' _ _ h6) h7 (by rw [List.length_append]; simp; omega) (by rw [List.length_cons]; omega) fun p8 H8 _ s8 h8=>?_
 rw [List.append_assoc] at h8
 exact q p8 _ _ s8 h8 (spo8 hk pq' lp2)
--CUT--
section
variable {C_NoRow C_SieveError C_NoAddress C_NoName C_NoRule:Addr}
theorem look_hit {f:Str}{v:V}{r:List (Str×V)}:((f,v)::r).lookup f=some v:=by
 rw [List.lookup_cons,beq_self_eq_true]
def spRefd (T:Addr):Sp:=fun vs H Q _=>∃ (z:Str) (ws:List Str),vs=[.str z]∧z.length≤900∧wordsT z=ws∧wsOk ws∧Refd ws∧TabOk T H∧∀ H',SameB T H H'→TabOk T H'→Q (.bl true) H'
theorem ok_refd {T:Addr}(F:Fun K "_law_refused" "_law_refused" s__law_refused f fd)(gx_read_rule:FnX P w K mg base "read_rule" 10 ["row"] (spRRule K C_NoRow T))(g__law_whole:Fn P w K mg base "_law_whole" 1 ["_law_found"] spWhole)(m_NoRow:mg "NoRow"=some (.ref C_NoRow))(m_SieveError:mg "SieveError"=some (.ref C_SieveError))(m_NoAddress:mg "NoAddress"=some (.ref C_NoAddress))(m_NoName:mg "NoName"=some (.ref C_NoName))(m_NoRule:mg "NoRule"=some (.ref C_NoRule))(b_isinstance:mg "isinstance"=none)(b_ValueError:mg "ValueError"=none)(Z:ExcI K C_NoRow)(na:NoAttr K C_NoRow "row")(f_k2:PySem.W.kitCls K (.ref C_NoRow) (.ref C_SieveError)=some true)(hb_SieveError:PySem.W.mroIn K C_SieveError (.type "BaseException")=some true)
  (i0:PySem.W.kitOne K (.ref C_NoRow) (.ref C_NoRow)=some true) (i1:PySem.W.kitOne K (.ref C_NoRow) (.type "ValueError")=some true) (i2:PySem.W.kitOne K (.ref C_NoRow) (.ref C_NoAddress)=some false) (i3:PySem.W.kitOne K (.ref C_NoRow) (.ref C_NoName)=some false) (i4:PySem.W.kitOne K (.ref C_NoRow) (.ref C_NoRule)=some false):FnOk P w K mg base CX0 11 f fd ["_law_row"] (spRefd T):=by
 refine F.ok sc__law_refused (fun vs H Q E h=>?_) (fun cdv A outer s H vs Q E hr h=>?_)
 ·obtain ⟨_,_,rfl,_⟩:=h
  rfl
 obtain ⟨z,ws,rfl,hz,ew,wok,rf,tab,q⟩:=h
 let R1:RX:=fun cls dd σ' H'=>cls=.ref C_NoRow∧(∃ d,dd=some d∧SameB T H H'∧TabOk T H'∧H' d=some (.xd [("row",.int 1)]))∧σ'=[some (.str z),some .non,none]
 have hm1:∀ cls dd σ H,R1 cls dd σ H→∃ C',cls=.ref C'∧PySem.W.kitCls K (.ref C') (.ref C_SieveError)=some true:=fun cls dd σ H r=>⟨_,r.1,f_k2⟩
 refine ⟨_,(@pss_cons _ _ _ _ _ (@ps_set _ _ (1) _ _ _ _ sc__law_refused.nd rfl (Or.inl rfl) pe_non (by rfl) (by first | exact .inl rfl | exact .inr rfl | assumption)) (@pss_cons _ _ _ _ _ (@ps_tryAs _ _ _ _ _ _ _ _ _ _ _ _ (2) (R1) ⟨rfl,rfl,rfl⟩ rfl m_SieveError hm1 hb_SieveError sc__law_refused.nd rfl rfl (fun _=>(@pss_one _ _ _ (@ps_expr _ _ _ _ (@pe_fnT _ _ _ _ _ _ _ _ _ _ _ _ _ gx_read_rule ⟨rfl,rfl,rfl⟩ hr (by decide) rfl (@pa_cons _ _ _ _ _ (pv 0) pa_nil (by rfl)) (by decide) (by rfl) (by rfl)) (by rfl)))) (fun _ _=>(@pss_one _ _ _ (@ps_set _ _ (1) _ _ _ _ sc__law_refused.nd rfl (Or.inl rfl) (pv 2) (by rfl) (by first | exact .inl rfl | exact .inr rfl | assumption)))) (by decide)) (@pss_cons _ _ _ _ _ (@ps_if _ _ _ _ _ _ _ _ (@PW.pt _ _ _ (@pw_or _ _ _ _ _ _ _ (@pt_not _ _ _ _ (@pt_val _ _ _ (@pe_callB _ _ _ _ _ _ _ _ _ call_isiE rfl b_isinstance bo_isinstance (@pa_cons _ _ _ _ _ (pv 1) (@pa_cons _ _ _ _ _ (@pe_glob _ _ (.ref C_NoRow) _ _ rfl m_NoRow rfl (by decide)) pa_nil (by rfl)) (by rfl)) (by decide) (by decide) (by rfl) (by rfl)) (by intro _; rfl))) (@pw_or1 _ _ _ _ (@pt_not _ _ _ _ (@pt_val _ _ _ (@pe_callB _ _ _ _ _ _ _ _ _ call_isiE rfl b_isinstance bo_isinstance (@pa_cons _ _ _ _ _ (pv 1) (@pa_cons _ _ _ _ _ (@pe_bltn _ _ (.ty "ValueError") (.type "ValueError") _ rfl b_ValueError bo_ValueError rfl (by decide) (by decide)) pa_nil (by rfl)) (by rfl)) (by decide) (by decide) (by rfl) (by rfl)) (by intro _; rfl)))))) (@pss_one _ _ _ (@ps_ret _ _ _ _ pe_bl)) pss_nil) (@pss_cons _ _ _ _ _ (@ps_if _ _ _ _ _ _ _ _ (@PW.pt _ _ _ (@pw_or _ _ _ _ _ _ _ (@pt_val _ _ _ (@pe_callB _ _ _ _ _ _ _ _ _ call_isiE rfl b_isinstance bo_isinstance (@pa_cons _ _ _ _ _ (pv 1) (@pa_cons _ _ _ _ _ (@pe_glob _ _ (.ref C_NoAddress) _ _ rfl m_NoAddress rfl (by decide)) pa_nil (by rfl)) (by rfl)) (by decide) (by decide) (by rfl) (by rfl)) (by intro _; rfl)) (@pw_or _ _ _ _ _ _ _ (@pt_val _ _ _ (@pe_callB _ _ _ _ _ _ _ _ _ call_isiE rfl b_isinstance bo_isinstance (@pa_cons _ _ _ _ _ (pv 1) (@pa_cons _ _ _ _ _ (@pe_glob _ _ (.ref C_NoName) _ _ rfl m_NoName rfl (by decide)) pa_nil (by rfl)) (by rfl)) (by decide) (by decide) (by rfl) (by rfl)) (by intro _; rfl)) (@pw_or1 _ _ _ _ (@pt_val _ _ _ (@pe_callB _ _ _ _ _ _ _ _ _ call_isiE rfl b_isinstance bo_isinstance (@pa_cons _ _ _ _ _ (pv 1) (@pa_cons _ _ _ _ _ (@pe_glob _ _ (.ref C_NoRule) _ _ rfl m_NoRule rfl (by decide)) pa_nil (by rfl)) (by rfl)) (by decide) (by decide) (by rfl) (by rfl)) (by intro _; rfl)))))) (@pss_one _ _ _ (@ps_ret _ _ _ _ pe_bl)) pss_nil) (@pss_one _ _ _ (@ps_ret _ _ _ _ (@pe_and _ _ _ _ _ _ _ (@pe_fn _ _ _ _ _ _ _ _ _ _ _ g__law_whole hr (by decide) rfl (@pa_cons _ _ _ _ _ (@pe_fldE _ _ _ _ _ (pv 1) rfl) pa_nil (by rfl)) (by decide) (by rfl) (by rfl)) (@pe_one _ _ _ _ _ (@pe_cmpR _ _ _ _ _ _ _ _ op_eq (@pe_fldE _ _ _ _ _ (pv 1) rfl) pe_int (nomark _)))))))))),?_⟩
 rw [st__law_refused]
 walk_at "sv"
 refine ⟨?_,fun cls dd σ' H' xa r hx=>?_⟩
 ·walk_at "sv"
  exact ⟨z,ws,rfl,hz,ew,wok,tab,fun h bs ru=>absurd ⟨h,bs,ru⟩ rf,fun _ d H' sb tk hd=>⟨rfl,⟨d,rfl,sb,tk,hd⟩,rfl⟩⟩
 ·obtain ⟨rfl,⟨d,rfl,sb,tk,hd⟩,rfl⟩:=r
  have ie:IsExc (upd H' xa (excO xa (.ref C_NoRow) (some d))) xa C_NoRow (some d):=IsExc.of upd_same
  have s1:=same_new hx (excO xa (.ref C_NoRow) (some d))
  have hd2:=s1 _ _ hd
  generalize upd H' xa (excO xa (.ref C_NoRow) (some d))=H1 at *
  have xd:∀ d',some d=some d'→∃ fs,H1 d'=some (.xd fs):=fun d' e=>⟨_,by cases e; exact hd2⟩
  walk_at "sv"
  refine ⟨xa,C_NoRow,some d,.ref C_NoRow,true,rfl,.inr ⟨_,rfl⟩,ie,xd,Z,i0,?_⟩
  walk_at "sv"
  refine ⟨xa,C_NoRow,some d,.ty "ValueError",true,rfl,.inl ⟨_,rfl⟩,ie,xd,Z,i1,?_⟩
  walk_at "sv"
  refine ⟨xa,C_NoRow,some d,.ref C_NoAddress,false,rfl,.inr ⟨_,rfl⟩,ie,xd,Z,i2,?_⟩
  walk_at "sv"
  refine ⟨xa,C_NoRow,some d,.ref C_NoName,false,rfl,.inr ⟨_,rfl⟩,ie,xd,Z,i3,?_⟩
  walk_at "sv"
  refine ⟨xa,C_NoRow,some d,.ref C_NoRule,false,rfl,.inr ⟨_,rfl⟩,ie,xd,Z,i4,?_⟩
  walk_at "sv"
  refine ⟨xa,C_NoRow,d,_,.int 1,rfl,ie,hd2,Z,na,look_hit,?_⟩
  refine spWhole.go ?_
  walk_at "sv"
  refine ⟨xa,C_NoRow,d,_,.int 1,rfl,ie,hd2,Z,na,look_hit,?_⟩
  walk_at "sv"
  exact q _ (sb.trans (Same.sb s1)) (tk.same s1)
end
--CUT--
def wordsS:List Str:=["pass","stop","back","call","chain","default","turn","kind","from","fromdoor","to","todoor"]
theorem words_at {i:Nat}(h:i<12):∃ z:Str,(wordsS.map V.str)[i]?=some (.str z)∧z.length≤1000∧PyData.strOk z=true:=by
 have e:i=0∨i=1∨i=2∨i=3∨i=4∨i=5∨i=6∨i=7∨i=8∨i=9∨i=10∨i=11:=by omega
 rcases e with rfl | rfl | rfl | rfl | rfl | rfl | rfl | rfl | rfl | rfl | rfl | rfl <;> exact ⟨_,rfl,by decide,by decide +kernel⟩
def abc:Str:="abcdefghijklmnopqrstuvwxyz"
theorem abc_len:abc.cps.toList.length=26:=by decide
def letS (d:Int):Str:=⟨#[abc.cps.toList.getD (d % 26).toNat 0]⟩
def letV:V→V
 | .int d=>.str (letS d)
 | _=>.non
theorem let_at (d:Int):atI abc.cps.toList (d % 26)=some (abc.cps.toList.getD (d % 26).toNat 0):=by
 have m0:=Int.emod_nonneg d (show (26:Int)≠0 by decide)
 have m1:=Int.emod_lt_of_pos d (show (0:Int)<26 by decide)
 obtain ⟨n,en⟩:=Int.eq_ofNat_of_zero_le m0
 rw [en,Int.toNat_natCast]
 have hn:n<abc.cps.toList.length:=by rw [abc_len]; omega
 refine atI_nat ?_
 rw [List.getD_eq_getElem?_getD,List.getElem?_eq_getElem hn]
 rfl
theorem let_ok (d:Int):(letS d).length=1∧PyData.strOk (letS d)=true:=by
 refine ⟨rfl,?_⟩
 have m0:=Int.emod_nonneg d (show (26:Int)≠0 by decide)
 have m1:=Int.emod_lt_of_pos d (show (0:Int)<26 by decide)
 unfold letS
 generalize (d % 26).toNat=k
 have al:∀ c∈abc.cps.toList,c<1114112:=by decide
 have:abc.cps.toList.getD k 0<1114112:=by
  rw [List.getD_eq_getElem?_getD]
  cases e:abc.cps.toList[k]? with
  | none=>decide
  | some c=>exact al c (List.mem_of_getElem? e)
 show (#[abc.cps.toList.getD k 0]:Array Nat).all _=true
 generalize abc.cps.toList.getD k 0=c at this
 simp [this]
theorem strOk_app (a b:Str):PyData.strOk (a++b)=(PyData.strOk a && PyData.strOk b):=by
 show (a.cps++b.cps).all _=_
 rw [Array.all_append]
 rfl
theorem join_small:∀ ws:List Str,(∀ x∈ws,x.length=1∧PyData.strOk x=true)→(Str.join "" ws).length=ws.length∧PyData.strOk (Str.join "" ws)=true∧(ws.map (·.length)).sum=ws.length
 | [],_=>⟨rfl,by decide +kernel,rfl⟩
 | [x],h=>by
  obtain ⟨h1,h2⟩:=h x List.mem_cons_self
  exact ⟨h1,h2,by simp [h1]⟩
 | x::y::r,h=>by
  obtain ⟨h1,h2⟩:=h x List.mem_cons_self
  obtain ⟨i1,i2,i3⟩:=join_small (y::r) fun z hz=>h z (List.mem_cons_of_mem _ hz)
  have e:Str.join "" (x::y::r)=x++""++Str.join "" (y::r):=rfl
  refine ⟨?_,?_,?_⟩
  ·rw [e,Str.length_append,Str.length_append,i1,h1,show ("":Str).length=0 from rfl,List.length_cons (a:=x)]
   omega
  ·rw [e,strOk_app,strOk_app,h2,i2]
   decide +kernel
  ·rw [List.map_cons,List.sum_cons,i3,h1,List.length_cons (a:=x)]
   omega
theorem let_is (d:Int):isLet (abc.cps.toList.getD (d % 26).toNat 0)=true:=by
 have m0:=Int.emod_nonneg d (show (26:Int)≠0 by decide)
 have m1:=Int.emod_lt_of_pos d (show (0:Int)<26 by decide)
 have hk:(d % 26).toNat<abc.cps.toList.length:=by
  rw [abc_len]
  omega
 generalize (d % 26).toNat=k at *
 rw [List.getD_eq_getElem?_getD,List.getElem?_eq_getElem hk]
 have al:∀ c∈abc.cps.toList,isLet c=true:=by decide +kernel
 exact al _ (List.getElem_mem hk)
theorem join_lets:∀ (ds:List Int),∀ c∈(Str.join "" (ds.map letS)).cps.toList,isLet c=true
 | [],c,hc=>by
  have hc:c∈([]:List Nat):=hc
  cases hc
 | [d],c,hc=>by
  have hc:c∈[abc.cps.toList.getD (d % 26).toNat 0]:=hc
  rw [List.mem_singleton.mp hc]
  exact let_is d
 | d::e::ds,c,hc=>by
  have h:Str.join "" ((d::e::ds).map letS)=letS d++""++Str.join "" ((e::ds).map letS):=rfl
  rw [h,app_list,app_list] at hc
  rcases List.mem_append.mp hc with hc | hc
  ·rcases List.mem_append.mp hc with hc | hc
   ·have hc:c∈[abc.cps.toList.getD (d % 26).toNat 0]:=hc
    rw [List.mem_singleton.mp hc]
    exact let_is d
   ·have hc:c∈([]:List Nat):=hc
    cases hc
  ·exact join_lets (e::ds) c hc
theorem gtup2' {a:Addr}{x y:V}{i j:Nat}{σ:L2.St}{H:Hp}{R:L2.St→Hp→Prop}(h:SqT K H a [x,y])(q:R ((σ.set i (some x)).set j (some y)) H):gTup K 2 (gCons (gName i) (gCons (gName j) gNil)) (.ref a) σ H R:=⟨a,_,rfl,h,rfl,_,_,rfl,_,_,rfl,rfl,q⟩
def hdD (bs:List (Int×Int)):Str ⊕ Str→PyData
 | .inl w=>.tuple [.str w,boxD bs]
 | .inr n=>.tuple [.str "call",boxD bs,.str n]
def hdSt:Str ⊕ Str→Prop
 | .inl w=>PyData.strOk w=true
 | .inr n=>PyData.strOk n=true
theorem hd_dt {H:Hp}{t p:Addr}{bs:List (Int×Int)}{h:Str ⊕ Str}(ht:H t=some (.tup (hdOut p h)))(hp:IsBox H p bs):Dt H (.ref t) (hdD bs h):=by
 cases h with
 | inl w=>exact .tup (.inl ht) (.cons (.str w) (.cons hp.dt .nil))
 | inr n=>exact .tup (.inl ht) (.cons (.str _) (.cons hp.dt (.cons (.str n) .nil)))
theorem hd_ne {H:Hp}{Q:VK}{t p t2 p2:Addr}{bs:List (Int×Int)}{h:Str ⊕ Str}(st:hdSt h)(ht:H t=some (.tup (hdOut p h)))(hp:IsBox H p bs)(ht2:H t2=some (.tup (hdOut p2 h)))(hp2:IsBox H p2 bs)(q:Q (.bl false) H):rEqD true (.ref t) (.ref t2) H Q:=by
 have d:=boxD_deep bs
 have l:=boxD_lay bs
 have b:=(box_eqv bs bs).mpr rfl
 have c:PyData.strOk "call"=true:=by decide +kernel
 have sh:SeqAt.shaped (hdD bs h)=true∧PyData.eqv (hdD bs h) (hdD bs h)=true:=by
  cases h with
  | inl w =>
   have st:PyData.strOk w=true:=st
   refine ⟨shaped_of ?_ ?_,?_⟩
   ·simp [hdD,PyData.canLay0,PyData.canLayAll0,l,st]
   ·simp [hdD,PyData.depth,PyData.depthAll]
    omega
   ·simp [hdD,PyData.eqv,PyData.eqvAll,b]
  | inr n =>
   have st:PyData.strOk n=true:=st
   refine ⟨shaped_of ?_ ?_,?_⟩
   ·simp [hdD,PyData.canLay0,PyData.canLayAll0,l,st,c]
   ·simp [hdD,PyData.depth,PyData.depthAll]
    omega
   ·simp [hdD,PyData.eqv,PyData.eqvAll,b]
 refine ⟨_,_,hd_dt ht hp,hd_dt ht2 hp2,sh.1,sh.1,?_⟩
 rw [if_pos rfl,sh.2]
 exact q
def kws:List Str:=["pass","stop","back","call"]
theorem kw_at {j:Nat}(h:j<4):∃ kw:Str,(kws.map V.str)[j]?=some (.str kw)∧(kw="call"∨kw∈sing)∧PyData.strOk kw=true:=by
 have e:j=0∨j=1∨j=2∨j=3:=by omega
 rcases e with rfl | rfl | rfl | rfl
 ·exact ⟨"pass",rfl,.inr (by decide +kernel),by decide +kernel⟩
 ·exact ⟨"stop",rfl,.inr (by decide +kernel),by decide +kernel⟩
 ·exact ⟨"back",rfl,.inr (by decide +kernel),by decide +kernel⟩
 ·exact ⟨"call",rfl,.inl rfl,by decide +kernel⟩
theorem good_row {h:Str ⊕ Str}{ps:List (Str×Str)}{bs:List (Int×Int)}(hk:hdOk h)(pr:Pr6 ps bs):wordsT (J (hdWs h++flatP ps))=hdWs h++flatP ps∧wsOk (hdWs h++flatP ps)∧(hdWs h++flatP ps).length≤20∧sz (hdWs h++flatP ps)≤860:=by
 obtain ⟨hs,hz,h1,h2⟩:=hd_sg hk
 have fl:=flatP_len ps
 have fz:=pr.q.sz
 have pl:=pr.len
 have al:=all_app hs pr.q.sg
 have l:(hdWs h++flatP ps).length≤20:=by rw [List.length_append,fl]; omega
 have z:sz (hdWs h++flatP ps)≤860:=by rw [sz_app]; omega
 refine ⟨J_words al fun e=>?_,⟨by omega,fun x hx=>⟨by have:=sz_mem hx; omega,fun c hc=>Nat.lt_trans ((al x hx).2 c hc).2.2 (by decide)⟩⟩,l,z⟩
 rw [(List.append_eq_nil_iff.mp e).1] at h1
 cases h1
theorem SameB.lst {T a:Addr}{H H':Hp}{xs:List V}(s:SameB T H H')(tk:TabOk T H)(h:H a=some (.lst xs)):H' a=some (.lst xs):=s a _ (fun z=>by
 obtain ⟨qs,e2,_⟩:=tk
 rw [z,e2] at h
 cases h) h
theorem box_to {H H':Hp}{p:Addr}{bs:List (Int×Int)}(h:IsBox H p bs)(k:∀ a xs,H a=some (.tup xs)→H' a=some (.tup xs)):IsBox H' p bs:=by
 obtain ⟨vs,e,st⟩:=h
 exact ⟨vs,k _ _ e,st.mono k⟩
theorem join_row {p:Addr}{zs:List Str}{H:Hp}{Q:VK}(h:H p=some (.lst (zs.map V.str)))(l:zs.length≤20)(s:sz zs≤860)(q:(J zs).length≤900→Q (.str (J zs)) H):rJoin K (.str ⟨#[32]⟩) [.ref p] H Q:=by
 refine join_go (SqL.of h) (joinOk_small ?_) (q ?_)
 ·have:(zs.map (·.length)).sum≤860:=s
  rw [show (⟨#[32]⟩:Str).length=1 from rfl]
  omega
 ·have:=J_len zs
  have:sz zs=(zs.map Str.length).sum:=rfl
  omega
section
variable {C_NoRow:Addr}
theorem ok_law {T:Addr}(F:Fun K "law" "law" s_law f fd)(g__law_cell_at:Fn P w K mg base "_law_cell_at" 1 ["_law_script","_law_k"] (spCell K))(g__law_stream:Fn P w K mg base "_law_stream" 1 ["_law_cell","_law_many"] spStream)(g__law_pairs:Fn P w K mg base "_law_pairs" 2 ["_law_cell"] spPairs16)(g__law_spoiled:Fn P w K mg base "_law_spoiled" 4 ["_law_words","_law_many","_law_cell","_law_more"] spSpoil16)(g__law_refused:Fn P w K mg base "_law_refused" 11 ["_law_row"] (spRefd T))(g_read_rule:Fn P w K mg base "read_rule" 10 ["row"] (calmSp (spRRule K C_NoRow T)))
  (b_len:mg "len"=none) (b_range:mg "range"=none) (b_max:mg "max"=none) (b_min:mg "min"=none) (b_list:mg "list"=none) (b_tuple:mg "tuple"=none):FnOk P w K mg base CX0 12 f fd ["_law_script"] (spLawT K T):=by
 refine F.ok sc_law (fun vs H Q E h=>?_) (fun cdv A outer s H vs Q E hr h=>?_)
 ·obtain ⟨_,_,rfl,_⟩:=h
  rfl
 obtain ⟨sc,ns,rfl,hS,h63,hT,q⟩:=h
 have tab:TabOk T H:=⟨_,hT,.inl rfl⟩
 clear hT
 refine ⟨_,(@pss_cons _ _ _ _ _ (@ps_for _ _ _ _ _ _ _ _ PassesOwn.never rfl (@pi_rangeS _ _ _ _ _ _ _ _ (4) (by decide) (by decide) rfl b_range (@pa_cons _ _ _ _ _ pe_int (@pa_cons _ _ _ _ _ (@pe_callB _ _ _ _ _ _ _ _ _ (call_maxR rfl) rfl b_max bo_max (@pa_cons _ _ _ _ _ pe_int (@pa_cons _ _ _ _ _ (@pe_callB _ _ _ _ _ _ _ _ _ (call_minR rfl) rfl b_min bo_min (@pa_cons _ _ _ _ _ (@pe_callB _ _ _ _ _ _ _ _ _ call_lenR rfl b_len bo_len (@pa_cons _ _ _ _ _ (pv 0) pa_nil (by rfl)) (by decide) (by decide) (by rfl) (by rfl)) (@pa_cons _ _ _ _ _ pe_int pa_nil (by rfl)) (by rfl)) (by decide) (by decide) (by rfl) (by rfl)) pa_nil (by rfl)) (by rfl)) (by decide) (by decide) (by rfl) (by rfl)) (@pa_cons _ _ _ _ _ pe_int pa_nil (by rfl)) (by rfl)) (by rfl)) (by rfl) (by rfl)) (@pg_name _ _ (1) _ sc_law.nd rfl (Or.inl rfl) (by first | exact .inl rfl | exact .inr rfl | assumption)) (@pss_cons _ _ _ _ _ (@ps_set _ _ (2) _ _ _ _ sc_law.nd rfl (Or.inl rfl) (@pe_fn _ _ _ _ _ _ _ _ _ _ _ g__law_cell_at hr (by decide) rfl (@pa_cons _ _ _ _ _ (pv 0) (@pa_cons _ _ _ _ _ (pv 1) pa_nil (by rfl)) (by rfl)) (by decide) (by rfl) (by rfl)) (by rfl) (by first | exact .inl rfl | exact .inr rfl | assumption)) (@pss_cons _ _ _ _ _ (@ps_set _ _ (3) _ _ _ _ sc_law.nd rfl (Or.inl rfl) (@pe_lst _ _ _ _ (@pa_cons _ _ _ _ _ (@pe_ix _ _ _ _ _ _ _ ix_list (@pe_lst _ _ _ _ (@pa_cons _ _ _ _ _ pe_str (@pa_cons _ _ _ _ _ pe_str (@pa_cons _ _ _ _ _ pe_str (@pa_cons _ _ _ _ _ pe_str pa_nil (by rfl)) (by rfl)) (by rfl)) (by rfl))) (@pe_op _ _ _ _ _ _ _ _ op_mod (pv 2) pe_int) (fun _ _=>rfl)) pa_nil (by rfl))) (by rfl) (by first | exact .inl rfl | exact .inr rfl | assumption)) (@pss_cons _ _ _ _ _ (@ps_if _ _ _ _ _ _ _ _ (@pt_cmpR _ _ _ _ _ _ _ _ op_eq (@pe_ix _ _ _ _ _ _ _ ix_list (pv 3) pe_int (fun _ _=>rfl)) pe_str (nomark _)) (@pss_cons _ _ _ _ _ (@ps_set _ _ (4) _ _ _ _ sc_law.nd rfl (Or.inr rfl) pe_str (by rfl) (by first | exact .inl rfl | exact .inr rfl | assumption)) (@pss_one _ _ _ (@ps_expr _ _ _ _ (@pe_bm _ _ _ _ _ _ _ _ _ _ _ _ PySem.F.plainAttrs_list PySem.F.slot_list_append PySem.F.type_list_append mt_append (pv 3) (@pa_cons _ _ _ _ _ (@pe_bm _ _ _ _ _ _ _ _ _ _ _ _ PySem.F.plainAttrs_str PySem.F.slot_str_join PySem.F.type_str_join mt_join pe_str (@pa_cons _ _ _ _ _ (@pe_comp _ _ (["_law_draw"]) ([4]) _ _ _ _ _ _ _ _ _ rfl (COk.of (out:=defScope s_law) (N:=["_law_script","_law_k","_law_cell","_law_head","_law_letters","_law_pairs_here","_law_box","_law_words","_law_key","_law_word","_law_more","_law_spoiled_here"]) rfl rfl (by decide +kernel)) (@pi_list _ _ _ _ (@pe_fn _ _ _ _ _ _ _ _ _ _ _ g__law_stream hr (by decide) rfl (@pa_cons _ _ _ _ _ (@pe_op _ _ _ _ _ _ _ _ op_divW (pv 2) pe_int) (@pa_cons _ _ _ _ _ (@pe_op _ _ _ _ _ _ _ _ op_add pe_int (@pe_op _ _ _ _ _ _ _ _ op_mod (@pe_op _ _ _ _ _ _ _ _ op_divW (pv 2) pe_int) pe_int)) pa_nil (by rfl)) (by rfl)) (by decide) (by rfl) (by rfl))) (fun _ _ _=>(@pg_name _ _ (0) _ (show List.Nodup (["_law_draw","_law_letters"]:List Str) by decide +kernel) rfl (Or.inl rfl) (by first | exact .inl rfl | exact .inr rfl | assumption))) (fun _ _ _=>pifs_nil) (fun _ _ _=>(@pe_ix _ _ _ _ _ _ _ ix_str (pv 1) (@pe_op _ _ _ _ _ _ _ _ op_mod (pv 0) pe_int) (fun _ _=>rfl))) (by intro _; rfl)) pa_nil (by rfl)) (by rfl) (by rfl) (by rfl) (by rfl) (by rfl)) pa_nil (by rfl)) (by rfl) (by rfl) (by rfl) (by rfl) (by rfl)) (by rfl)))) pss_nil) (@pss_cons _ _ _ _ _ (@ps_asg _ _ _ _ _ _ (@pe_fn _ _ _ _ _ _ _ _ _ _ _ g__law_pairs hr (by decide) rfl (@pa_cons _ _ _ _ _ (@pe_fn _ _ _ _ _ _ _ _ _ _ _ g__law_cell_at hr (by decide) rfl (@pa_cons _ _ _ _ _ (pv 0) (@pa_cons _ _ _ _ _ (@pe_op _ _ _ _ _ _ _ _ op_add (pv 1) pe_int) pa_nil (by rfl)) (by rfl)) (by decide) (by rfl) (by rfl)) pa_nil (by rfl)) (by decide) (by rfl) (by rfl)) (@pg_tup _ _ _ _ _ _ rfl (@pgs_cons _ _ _ _ _ (@pg_name _ _ (5) _ sc_law.nd rfl (Or.inl rfl) (by first | exact .inl rfl | exact .inr rfl | assumption)) (@pgs_cons _ _ _ _ _ (@pg_name _ _ (6) _ sc_law.nd rfl (Or.inl rfl) (by first | exact .inl rfl | exact .inr rfl | assumption)) pgs_nil (by rfl)) (by rfl)) (by rfl) (by rfl)) (by rfl) (by rfl) (by rfl)) (@pss_cons _ _ _ _ _ (@ps_set _ _ (7) _ _ _ _ sc_law.nd rfl (Or.inl rfl) (@pe_callTy _ _ _ _ _ _ _ _ _ call_listR rfl b_list bo_list (@pa_cons _ _ _ _ _ (pv 3) pa_nil (by rfl)) (by decide) (by decide) (by rfl) (by rfl)) (by rfl) (by first | exact .inl rfl | exact .inr rfl | assumption)) (@pss_cons _ _ _ _ _ (@ps_for _ _ _ _ _ _ _ _ PassesOwn.never rfl (@pi_list _ _ _ _ (pv 5)) (@pg_tup _ _ _ _ _ _ rfl (@pgs_cons _ _ _ _ _ (@pg_name _ _ (8) _ sc_law.nd rfl (Or.inl rfl) (by first | exact .inl rfl | exact .inr rfl | assumption)) (@pgs_cons _ _ _ _ _ (@pg_name _ _ (9) _ sc_law.nd rfl (Or.inl rfl) (by first | exact .inl rfl | exact .inr rfl | assumption)) pgs_nil (by rfl)) (by rfl)) (by rfl) (by rfl)) (@pss_one _ _ _ (@ps_set _ _ (7) _ _ _ _ sc_law.nd rfl (Or.inl rfl) (@pe_op _ _ _ _ _ _ _ _ op_catQ (pv 7) (@pe_lst _ _ _ _ (@pa_cons _ _ _ _ _ (pv 8) (@pa_cons _ _ _ _ _ (pv 9) pa_nil (by rfl)) (by rfl)))) (by rfl) (by first | exact .inl rfl | exact .inr rfl | assumption))) (by intro _; rfl)) (@pss_cons _ _ _ _ _ (@ps_set _ _ (10) _ _ _ _ sc_law.nd rfl (Or.inl rfl) (@pe_ix _ _ _ _ _ _ _ ix_list (@pe_fn _ _ _ _ _ _ _ _ _ _ _ g__law_stream hr (by decide) rfl (@pa_cons _ _ _ _ _ (@pe_fn _ _ _ _ _ _ _ _ _ _ _ g__law_cell_at hr (by decide) rfl (@pa_cons _ _ _ _ _ (pv 0) (@pa_cons _ _ _ _ _ (@pe_op _ _ _ _ _ _ _ _ op_add (pv 1) pe_int) pa_nil (by rfl)) (by rfl)) (by decide) (by rfl) (by rfl)) (@pa_cons _ _ _ _ _ pe_int pa_nil (by rfl)) (by rfl)) (by decide) (by rfl) (by rfl)) pe_int (fun _ _=>rfl)) (by rfl) (by first | exact .inl rfl | exact .inr rfl | assumption)) (@pss_cons _ _ _ _ _ (@ps_set _ _ (11) _ _ _ _ sc_law.nd rfl (Or.inl rfl) (@pe_fn _ _ _ _ _ _ _ _ _ _ _ g__law_spoiled hr (by decide) rfl (@pa_cons _ _ _ _ _ (pv 7) (@pa_cons _ _ _ _ _ (@pe_callB _ _ _ _ _ _ _ _ _ call_lenR rfl b_len bo_len (@pa_cons _ _ _ _ _ (pv 3) pa_nil (by rfl)) (by decide) (by decide) (by rfl) (by rfl)) (@pa_cons _ _ _ _ _ (@pe_fn _ _ _ _ _ _ _ _ _ _ _ g__law_cell_at hr (by decide) rfl (@pa_cons _ _ _ _ _ (pv 0) (@pa_cons _ _ _ _ _ (@pe_op _ _ _ _ _ _ _ _ op_add (pv 1) pe_int) pa_nil (by rfl)) (by rfl)) (by decide) (by rfl) (by rfl)) (@pa_cons _ _ _ _ _ (pv 10) pa_nil (by rfl)) (by rfl)) (by rfl)) (by rfl)) (by decide) (by rfl) (by rfl)) (by rfl) (by first | exact .inl rfl | exact .inr rfl | assumption)) (@pss_cons _ _ _ _ _ (@ps_if _ _ _ _ _ _ _ _ (@pt_not _ _ _ _ (@pt_val _ _ _ (@pe_fn _ _ _ _ _ _ _ _ _ _ _ g__law_refused hr (by decide) rfl (@pa_cons _ _ _ _ _ (@pe_bm _ _ _ _ _ _ _ _ _ _ _ _ PySem.F.plainAttrs_str PySem.F.slot_str_join PySem.F.type_str_join mt_join pe_str (@pa_cons _ _ _ _ _ (pv 11) pa_nil (by rfl)) (by rfl) (by rfl) (by rfl) (by rfl) (by rfl)) pa_nil (by rfl)) (by decide) (by rfl) (by rfl)) (by intro _; rfl))) (@pss_one _ _ _ (@ps_ret _ _ _ _ pe_bl)) pss_nil) (@pss_one _ _ _ (@ps_if _ _ _ _ _ _ _ _ (@pt_cmpR _ _ _ _ _ _ _ _ (op_neD hr.units) (@pe_fn _ _ _ _ _ _ _ _ _ _ _ g_read_rule hr (by decide) rfl (@pa_cons _ _ _ _ _ (@pe_bm _ _ _ _ _ _ _ _ _ _ _ _ PySem.F.plainAttrs_str PySem.F.slot_str_join PySem.F.type_str_join mt_join pe_str (@pa_cons _ _ _ _ _ (pv 7) pa_nil (by rfl)) (by rfl) (by rfl) (by rfl) (by rfl) (by rfl)) pa_nil (by rfl)) (by decide) (by rfl) (by rfl)) (@pe_op _ _ _ _ _ _ _ _ op_catA (@pe_tup _ _ _ _ _ (@pa_cons _ _ _ _ _ (@pe_ix _ _ _ _ _ _ _ ix_list (pv 3) pe_int (fun _ _=>rfl)) (@pa_cons _ _ _ _ _ (pv 6) pa_nil (by rfl)) (by rfl))) (@pe_callTy _ _ _ _ _ _ _ _ _ call_tupleR rfl b_tuple bo_tuple (@pa_cons _ _ _ _ _ (@pe_slice _ _ _ _ _ _ _ _ _ _ sl_list (pv 3) (@po_some _ _ _ pe_int) po_none) pa_nil (by rfl)) (by decide) (by decide) (by rfl) (by rfl))) (nomark _)) (@pss_one _ _ _ (@ps_ret _ _ _ _ pe_bl)) pss_nil))))))))))) (by intro _; rfl)) (@pss_one _ _ _ (@ps_ret _ _ _ _ pe_bl))),?_⟩
 rw [st_law]
 walk_at "sv"
 refine LenR.lst hS ?_
 walk_at "sv"
 rw [List.length_map]
 refine RngS.go (by omega) (by omega) ?_
 refine ForR.step (fun i σ H'=>SqL K H' sc (ns.map V.int)∧TabOk T H'∧∃ x1 x2 x3 x4 x5 x6 x7 x8 x9 x10 x11:Option V,σ=[some (.ref sc),x1,x2,x3,x4,x5,x6,x7,x8,x9,x10,x11]) ⟨hS,tab,_,_,_,_,_,_,_,_,_,_,_,rfl⟩ (fun i σ H1 hi pv=>?_) (fun σ H1 pv=>?_)
 rotate_left
 ·obtain ⟨_,tk,_,_,_,_,_,_,_,_,_,_,_,rfl⟩:=pv
  obtain ⟨qs,e2,_⟩:=tk
  walk_at "sv"
  exact q _ _ e2
 obtain ⟨hS1,tk1,x1,x2,x3,x4,x5,x6,x7,x8,x9,x10,x11,rfl⟩:=pv
 refine seq_hid fun N go=>?_
 walk_at "sv"
 refine spCell.go hS1 (by omega) ?_
 refine go _ _ ?_
 clear go
 generalize cell ns (0+(i:Int) * 4)=c at *
 refine seq_hid fun N go=>?_
 walk_at "sv"
 refine LstR.go (by simp) fun lk nk=>?_
 have s2:=same_new nk (.lst (kws.map V.str))
 have hk2:upd H1 lk (.lst [.str "pass",.str "stop",.str "back",.str "call"]) lk=some (.lst (kws.map V.str)):=upd_same
 have s2:Same H1 (upd H1 lk (.lst [.str "pass",.str "stop",.str "back",.str "call"])):=s2
 generalize upd H1 lk (.lst [.str "pass",.str "stop",.str "back",.str "call"])=H2 at *
 walk_at "sv"
 refine ⟨by decide,?_⟩
 obtain ⟨j,ej,lj⟩:∃ j:Nat,c % 4=j∧j<4:=⟨(c % 4).toNat,by omega,by omega⟩
 rw [ej]
 obtain ⟨kw,ekw,kwo,kws'⟩:=kw_at lj
 refine ixL_go (SqL.of hk2) ekw ?_
 refine LstR.go (by simp) fun lh nh=>?_
 have s3:=same_new nh (.lst [.str kw])
 have hh3:upd H2 lh (.lst [.str kw]) lh=some (.lst [.str kw]):=upd_same
 have put:∀ {H':Hp} {o:HO},Same H2 H'→Same H2 (upd H' lh o):=fun s a o e=>(upd_ne (ne_of_none e nh)).trans (s _ _ e)
 generalize upd H2 lh (.lst [.str kw])=H3 at *
 refine go _ _ ?_
 clear go
 refine seq_hid fun N go=>?_
 suffices rest:∀ (h:Str ⊕ Str) (H4:Hp) (y:Option V),Same H2 H4→H4 lh=some (.lst ((hdWs h).map V.str))→hdOk h→hdSt h→N [some (.ref sc),some (.int (0+(i:Int) * 4)),some (.int c),some (.ref lh),y,x5,x6,x7,x8,x9,x10,x11] H4 by
  walk_at "sv"
  refine ixL_go (i:=0) (SqL.of hh3) rfl ?_
  walk_at "sv"
  refine BrS.dec (fun c1=>?_) fun c1=>?_
  rotate_left
  ·walk_at "sv"
   exact rest (.inl kw) H3 _ s3 hh3 (kwo.resolve_left c1) kws'
  walk_at "sv"
  refine ⟨ty_lst hh3,?_⟩
  refine ⟨⟨by decide,by decide⟩,⟨by decide,by decide⟩,by decide,?_⟩
  obtain ⟨k,ek,k12⟩:∃ k:Nat,c / 4 % 12=(k:Int)∧k<12:=⟨(c / 4 % 12).toNat,by omega,by omega⟩
  rw [ek,show (1:Int)+(k:Int)=((k+1:Nat):Int) by omega]
  refine ⟨_,k+1,rfl,by omega,fun ld ds H5 nd s5 hd dl al=>?_⟩
  refine IlR.go (SqL.of hd) ?_
  refine CmpR.mapS letV itl (by rw [List.length_map]; omega) (fun H' sm=>sm.seq (SqL.of hd)) (fun x H' Q' hx sm q'=>?_) (fun D H6 hD s6 hl6=>?_)
  ·obtain ⟨d,_,rfl⟩:=List.mem_map.mp hx
   walk_at "sv"
   refine ⟨by decide,?_⟩
   exact ⟨abc,_,_,rfl,rfl,by decide,let_at d,q' _ (Same.refl _)⟩
  have ew:(ds.map V.int).map letV=(ds.map letS).map V.str:=by
   rw [List.map_map,List.map_map]
   rfl
  rw [ew] at hl6
  have js:=join_small (ds.map letS) fun x hx=>by
   obtain ⟨d,_,rfl⟩:=List.mem_map.mp hx
   exact let_ok d
  walk_at "sv"
  refine join_go (SqL.of hl6) (joinOk_small (by rw [js.2.2,List.length_map,show ("":Str).length=0 from rfl]; omega)) ?_
  have jl:=js.1
  rw [List.length_map,dl] at jl
  have nmk:nmOk (Str.join "" (ds.map letS))=true:=by
   unfold nmOk
   rw [jl,decide_eq_true (show 1≤k+1 by omega),decide_eq_true (show k+1≤12 by omega),Bool.true_and,Bool.true_and,List.all_map]
   exact List.all_eq_true.mpr fun c hc=>join_lets ds c hc
  have hh6:=(s5.trans s6) _ _ hh3
  refine app_go hh6 (by simp) ?_
  refine rest (.inr (Str.join "" (ds.map letS))) _ _ (put (s3.trans (s5.trans s6))) ?_ nmk js.2.1
  rw [upd_same,c1]
  rfl
 intro h H4 y4 s4 hh4 hok hst
 refine go _ _ ?_
 clear go
 obtain ⟨_,_,hl1,hl2⟩:=hd_sg hok
 have s14:=s2.trans s4
 have hS4:=s14.seq hS1
 have tk4:=tk1.same s14
 refine seq_hid fun N go=>?_
 walk_at "sv"
 refine spCell.go hS4 (by omega) ?_
 refine ⟨_,rfl,fun t lp pb us ps bs H5 s5 ht hlp rows hbx pr=>?_⟩
 refine gtup2' (SqT.of ht) ?_
 walk_at "sv"
 refine go _ _ ?_
 clear go
 have pl:=pr.len
 have ul:=All2.len rows
 refine seq_hid fun N go=>?_
 walk_at "sv"
 refine LstOf.lst (SqL.of (s5 _ _ hh4)) fun lw nlw=>?_
 have s6:=same_new nlw (.lst ((hdWs h).map V.str))
 have hw6:upd H5 lw (.lst ((hdWs h).map V.str)) lw=some (.lst ((hdWs h).map V.str)):=upd_same
 generalize upd H5 lw (.lst ((hdWs h).map V.str))=H6 at *
 refine go _ _ ?_
 clear go
 refine seq_hid fun N go=>?_
 walk_at "sv"
 refine IlR.go (SqL.of (s6 _ _ hlp)) ?_
 refine ForR.items (xs:=us) itl (fun i' σ H'=>Same H6 H'∧∃ (l:Addr) (y1 y2:Option V),H' l=some (.lst ((hdWs h++flatP (ps.take i')).map V.str))∧σ=[some (.ref sc),some (.int (0+(i:Int) * 4)),some (.int c),some (.ref lh),y4,some (.ref lp),some (.ref pb),some (.ref l),y1,y2,x10,x11]) ⟨Same.refl _,lw,_,_,by rw [hw6]; congr 2; show _=(hdWs h++[]).map V.str; rw [List.append_nil],rfl⟩ (fun i' σ H' pv=>SqL.of (pv.1 _ _ (s6 _ _ hlp))) (fun i' v σ H7 hv pv=>?_) (fun σ H7 pv=>?_)
 ·obtain ⟨s7,l,y1,y2,hl7,rfl⟩:=pv
  obtain ⟨p,ep,t',rfl,ht'⟩:=All2.at rows hv
  have li:=(List.getElem?_eq_some_iff.mp ep).1
  refine gtup2' (SqT.of (s7 _ _ (s6 _ _ ht'))) ?_
  walk_at "sv"
  refine LstR.go (by simp) fun l2 nl2=>?_
  have s8:=same_new nl2 (.lst [.str p.1,.str p.2])
  refine catQ_go (SqL.of (s8 _ _ hl7)) (SqL.of upd_same) (by rw [List.length_map,List.length_append,flatP_len,List.length_take]; simp; omega) fun l3 nl3=>?_
  refine ⟨(s7.trans s8).trans (same_new nl3 _),l3,_,_,?_,rfl⟩
  rw [upd_same,List.take_add_one,ep,Option.toList_some,flatP_app,← List.append_assoc,List.map_append (l₂:=flatP [p])]
  rfl
 obtain ⟨s7,l,y1,y2,hl7,rfl⟩:=pv
 rw [ul,List.take_length] at hl7
 refine go _ _ ?_
 clear go
 have s47:=s5.trans (s6.trans s7)
 have hS7:=s47.seq hS4
 have tk7:=tk4.same s47
 have hh7:=s47 _ _ hh4
 have hbx7:=(hbx.same s6).same s7
 refine seq_hid fun N go=>?_
 walk_at "sv"
 refine spCell.go hS7 (by omega) ?_
 refine ⟨_,2,rfl,by decide,fun ld ds H8 nd s8 hd dl al=>?_⟩
 obtain ⟨m,em,em'⟩:=ints_at (show 1<ds.length by omega)
 have mb:=al m (List.mem_of_getElem? em)
 refine ixL_go (i:=1) (SqL.of hd) em' ?_
 refine go _ _ ?_
 clear go
 refine seq_hid fun N go=>?_
 walk_at "sv"
 refine LenR.lst (SqL.of (s8 _ _ hh7)) ?_
 rw [List.length_map]
 walk_at "sv"
 refine spCell.go (s8.seq hS7) (by omega) ?_
 refine ⟨l,_,m,h,ps,bs,rfl,s8 _ _ hl7,hok,pr,mb.1,by omega,fun p zs H9 s9 hp9 spo=>?_⟩
 refine go _ _ ?_
 clear go
 have s79:=s8.trans s9
 have tk9:=tk7.same s79
 refine seq_hid fun N go=>?_
 walk_at "sv"
 rw [lit_blank]
 refine join_row hp9 spo.len spo.sum fun zl=>?_
 refine ⟨J zs,_,rfl,zl,rfl,spo.ok,spo.ref,tk9,fun H10 sb10 tk10=>?_⟩
 walk_at "sv"
 refine go _ _ ?_
 clear go
 obtain ⟨gw,gok,gl,gz⟩:=good_row hok pr
 have hl10:=sb10.lst tk9 (s79 _ _ hl7)
 have hh10:=sb10.lst tk9 (s79 _ _ hh7)
 have hbx10:=box_to (hbx7.same s79) fun a xs e=>sb10.tup tk9 e
 have hS10:=sb10.seqL tk9 (s79.seq hS7)
 walk_at "sv"
 rw [lit_blank]
 refine join_row hl10 gl gz fun zl=>?_
 have chk:RuOk (hdWs h++flatP ps) h bs:=⟨ps,rfl,hok,⟨rfl,fun p hp=>(pr.q p hp).1,pr.key.nodup_iff.mpr pairWs_nd⟩,pr.box⟩
 refine ⟨_,_,rfl,zl,gw,gok,tk10,fun h' bs' ru t' p' H11 sb11 tk11 hb11 ht11=>?_,fun no=>absurd ⟨_,_,chk⟩ no⟩
 obtain ⟨rfl,rfl⟩:=ruOk_uni chk ru
 have hh11:=sb11.lst tk10 hh10
 have hbx11:=box_to hbx10 fun a xs e=>sb11.tup tk10 e
 obtain ⟨w0,wr,ehd⟩:∃ w0 wr,hdWs h'=w0::wr:=by
  cases h' with
  | inl w=>exact ⟨w,[],rfl⟩
  | inr n=>exact ⟨"call",[n],rfl⟩
 have eo:∀ p,[V.str w0,.ref p]++wr.map V.str=hdOut p h':=fun p=>by
  cases h' with
  | inl w=>cases ehd; rfl
  | inr n=>cases ehd; rfl
 rw [ehd] at hh11
 walk_at "sv"
 refine ixL_go (i:=0) (SqL.of hh11) rfl ?_
 refine TupR.go (by simp) fun ta nta=>?_
 have s12:=same_new nta (.tup [.str w0,.ref pb])
 have hta:upd H11 ta (.tup [.str w0,.ref pb]) ta=some (.tup [.str w0,.ref pb]):=upd_same
 generalize upd H11 ta (.tup [.str w0,.ref pb])=H12 at *
 walk_at "sv"
 refine PartR.go ?_
 refine slDropA_go (k:=1) (SqL.of (s12 _ _ hh11)) fun lt nlt=>?_
 have s13:=same_new nlt (.lst (wr.map V.str))
 have hlt:upd H12 lt (.lst (((w0::wr).map V.str).drop 1)) lt=some (.lst (wr.map V.str)):=upd_same
 have s13:Same H12 (upd H12 lt (.lst (((w0::wr).map V.str).drop 1))):=s13
 generalize upd H12 lt (.lst (((w0::wr).map V.str).drop 1))=H13 at *
 walk_at "sv"
 refine TupOf.lst (SqL.of hlt) fun tb ntb=>?_
 have s14':=same_new ntb (.tup (wr.map V.str))
 have htb:upd H13 tb (.tup (wr.map V.str)) tb=some (.tup (wr.map V.str)):=upd_same
 generalize upd H13 tb (.tup (wr.map V.str))=H14 at *
 have wrl:wr.length≤2:=by
  rw [ehd,List.length_cons] at hl2
  omega
 refine catA_go ((s13.trans s14') _ _ hta) htb (by rw [List.length_map]; simp; omega) fun tc H15 s15 htc=>?_
 rw [eo] at htc
 have sA:=s12.trans ((s13.trans s14').trans s15)
 refine hd_ne hst (sA _ _ ht11) (hb11.same sA) htc (hbx11.same sA) ?_
 walk_at "sv"
 exact ⟨sA.seq (sb11.seqL tk10 hS10),tk11.same sA,_,_,_,_,_,_,_,_,_,_,_,rfl⟩
end
end
theorem asm {l:PySem.W.OpenLaw}{w:World}{K:PySem.W.Frag}{mg:Str→Option Value}{fa:Addr}(hfa:mg "law"=some (.ref fa)){C_SieveError:Addr}{C_NoAddress:Addr}{C_NoRow:Addr}{C_NoName:Addr}{C_NoRule:Addr}{cT TT:Addr}(D_is_number:Def K mg "is_number" s_is_number)(D_read_address:Def K mg "read_address" s_read_address)(D_read_number:Def K mg "read_number" s_read_number)(D_read_place:Def K mg "read_place" s_read_place)(D_beginning:Def K mg "beginning" s_beginning)(D_every:Def K mg "every" s_every)(D_words_of:Def K mg "words_of" s_words_of)(D_is_name:Def K mg "is_name" s_is_name)(D_read_ends:Def K mg "read_ends" s_read_ends)(D_read_numbers:DefT K mg "read_numbers" s_read_numbers cT TT)(D_read_addresses:Def K mg "read_addresses" s_read_addresses)(D_pair_values:Def K mg "pair_values" s_pair_values)(D_read_pairs:Def K mg "read_pairs" s_read_pairs)(D_read_box:Def K mg "read_box" s_read_box)(D_read_words:Def K mg "read_words" s_read_words)(D_read_rule:Def K mg "read_rule" s_read_rule)(D__law_cell_at:Def K mg "_law_cell_at" s__law_cell_at)(D__law_whole:Def K mg "_law_whole" s__law_whole)(D__law_stream:Def K mg "_law_stream" s__law_stream)(D__law_address:Def K mg "_law_address" s__law_address)(D__law_pairs:Def K mg "_law_pairs" s__law_pairs)(D__law_bad_number:Def K mg "_law_bad_number" s__law_bad_number)(D__law_bad_address:Def K mg "_law_bad_address" s__law_bad_address)(D__law_bad_value:Def K mg "_law_bad_value" s__law_bad_value)(D__law_spoiled:Def K mg "_law_spoiled" s__law_spoiled)(D__law_refused:Def K mg "_law_refused" s__law_refused)(D_law:Def K mg "law" s_law)(c_FIGURES:∃ u,mg "FIGURES"=some u∧RelV (.str figs) u)(c_PART_COUNT:∃ u,mg "PART_COUNT"=some u∧RelV (.int 4) u)(c_PART_SIZE:∃ u,mg "PART_SIZE"=some u∧RelV (.int 256) u)(c_ALONE:∃ u,mg "ALONE"=some u∧RelV (.int 1) u)(c_ADDRESS_BITS:∃ u,mg "ADDRESS_BITS"=some u∧RelV (.int 32) u)(c_GREATEST_ADDRESS:∃ u,mg "GREATEST_ADDRESS"=some u∧RelV (.int 4294967295) u)(c_GREATEST_TURN:∃ u,mg "GREATEST_TURN"=some u∧RelV (.int 3) u)(c_GREATEST_KIND:∃ u,mg "GREATEST_KIND"=some u∧RelV (.int 255) u)(c_GREATEST_DOOR:∃ u,mg "GREATEST_DOOR"=some u∧RelV (.int 65535) u)(c_PAIR_WORDS:∃ a,mg "PAIR_WORDS"=some (.ref a)∧∀ H,SqT K H a (pairWs.map V.str))(c_ADDRESS_WORDS:∃ a,mg "ADDRESS_WORDS"=some (.ref a)∧∀ H,SqT K H a (adrWs.map V.str))(c_SINGLE_HEADS:∃ a,mg "SINGLE_HEADS"=some (.ref a)∧∀ H,SqT K H a (sing.map V.str))(c_LETTERS:∃ u,mg "LETTERS"=some u∧RelV (.str letsT) u)(c_MOST_LETTERS:∃ u,mg "MOST_LETTERS"=some u∧RelV (.int 12) u)(b_len:mg "len"=none)(b_range:mg "range"=none)(b_isinstance:mg "isinstance"=none)(b_int:mg "int"=none)(b_bool:mg "bool"=none)(b_str:mg "str"=none)(b_all:mg "all"=none)(b_max:mg "max"=none)(b_min:mg "min"=none)(b_tuple:mg "tuple"=none)(b_list:mg "list"=none)(b_zip:mg "zip"=none)(b_ValueError:mg "ValueError"=none)(m_SieveError:mg "SieveError"=some (.ref C_SieveError))(m_NoAddress:mg "NoAddress"=some (.ref C_NoAddress))(m_NoRow:mg "NoRow"=some (.ref C_NoRow))(m_NoName:mg "NoName"=some (.ref C_NoName))(m_NoRule:mg "NoRule"=some (.ref C_NoRule))(Z_NoAddress:ExcI K C_NoAddress)(f_s_NoAddress:PySem.W.subIn K (.ref C_NoAddress) (.ref C_SieveError)=some true)(f_exc_NoAddress:PySem.W.excIn K C_NoAddress [.type "ValueError",.type "Exception",.type "BaseException",.type "object"] "ValueError.__new__"=true)(f_d:PySem.W.hasDictIn K C_SieveError=true)(f_t:PySem.W.typeIn K (.ref C_SieveError)=some (.type "type"))(hb_SieveError:PySem.W.mroIn K C_SieveError (.type "BaseException")=some true)(Z_NoRow:ExcI K C_NoRow)(f_s_NoRow:PySem.W.subIn K (.ref C_NoRow) (.ref C_SieveError)=some true)(xb_SieveError:ExcB K C_SieveError)(xs_NoRow:ExcS K C_NoRow)(na_NoRow:PySem.W.findIn K (.ref C_NoRow) "row"=some none)(f_d_NoAddress:PySem.W.hasDictIn K C_NoAddress=true)(f_t_NoAddress:PySem.W.typeIn K (.ref C_NoAddress)=some (.type "type"))(f_s_NoAddress_NoAddress:PySem.W.subIn K (.ref C_NoAddress) (.ref C_NoAddress)=some true)(hb_NoAddress:PySem.W.mroIn K C_NoAddress (.type "BaseException")=some true)(f_d_NoRow:PySem.W.hasDictIn K C_NoRow=true)(f_t_NoRow:PySem.W.typeIn K (.ref C_NoRow)=some (.type "type"))(f_s_NoRow_NoRow:PySem.W.subIn K (.ref C_NoRow) (.ref C_NoRow)=some true)(hb_NoRow:PySem.W.mroIn K C_NoRow (.type "BaseException")=some true)(i_NoRow_NoAddress:PySem.W.kitOne K (.ref C_NoRow) (.ref C_NoAddress)=some false)(i_NoRow_NoName:PySem.W.kitOne K (.ref C_NoRow) (.ref C_NoName)=some false)(i_NoRow_ValueError:PySem.W.kitOne K (.ref C_NoRow) (.type "ValueError")=some true)(i_NoRow_NoRow:PySem.W.kitOne K (.ref C_NoRow) (.ref C_NoRow)=some true)(i_NoRow_NoRule:PySem.W.kitOne K (.ref C_NoRow) (.ref C_NoRule)=some false)  (XD_NoRow:XDef K mg "NoRow" C_NoRow "NoRow.__init__" s_NoRow___init__) :
  ∃ (c T:Addr) (fd:FuncData),DefT K mg "read_numbers" s_read_numbers c T∧(∀ (s:Shared) (v:Value),BindsTo s fd ⟨[v],[]⟩ [("_law_script",v)])∧∀ base:Heap,K.In base→base.Ns mainGlobals mg→BltAt mg base→FnOk l.prog w K mg base CX0 12 fa fd ["_law_script"] (spLawT K T):=by
 obtain ⟨f,fd,F,m⟩:=D_law.ex
 cases (hfa.symm.trans m)
 obtain ⟨oc,od,kV,doc,pm,an,cdv,ct,osl,e,lk,hcd⟩:=id F.ex
 subst e
 refine ⟨cT,TT,PySem.W.fnOf "law" "law" (defArgs s_law) (defBody s_law) (defScope s_law) .none kV doc pm an cdv ct,D_read_numbers,fun s v=>.of_eq rfl,fun base _ _ hB=>?_⟩
 have X_NoRow:XcI l.prog w K mg base "NoRow" C_NoRow 1 ["self","row"] (spXRow C_NoRow):=XD_NoRow.xci (fun _ _ _ _ _ _ us hl=>by obtain ⟨a0,a1,rfl⟩:=Sv.us2 hl; rfl) fun N _ _ k F=>ok_NoRow_init F m_SieveError xb_SieveError k xs_NoRow na_NoRow
 have XH_NoRow:XcH l.prog w K mg base "NoRow" C_NoRow 1 ["self","row"] (spXRow C_NoRow):=XD_NoRow.xch (fun _ _ _ _ _ _ us hl=>by obtain ⟨a0,a1,rfl⟩:=Sv.us2 hl; rfl) fun N _ _ k F=>ok_NoRow_initH F m_SieveError xb_SieveError k xs_NoRow na_NoRow
 have g_is_number:Fn l.prog w K mg base "is_number" 1 ["word","greatest"] spIsNum:=D_is_number.fn (fun _ _ _ _ _ _ us hl=>by obtain ⟨a0,a1,rfl⟩:=Sv.us2 hl; rfl) fun _ _ F=>ok_is_number F c_FIGURES b_len b_all b_int b_str
 have g_read_address:FnX l.prog w K mg base "read_address" 2 ["text"] (spRead C_NoAddress):=D_read_address.fnX (fun _ _ _ _ _ _ us hl=>by obtain ⟨a0,rfl⟩:=Sv.us1 hl; rfl) fun _ _ F=>ok_read F g_is_number ⟨m_NoAddress,_,_,_,_,PySem.F.excBase_ValueError,f_exc_NoAddress⟩ c_PART_COUNT c_PART_SIZE b_len b_all b_int
 have g_read_number:FnX l.prog w K mg base "read_number" 3 ["word","greatest"] (spRdNum C_NoRow):=D_read_number.fnX (fun _ _ _ _ _ _ us hl=>by obtain ⟨a0,a1,rfl⟩:=Sv.us2 hl; rfl) fun _ _ F=>ok_rdnum F g_is_number X_NoRow c_ALONE b_int
 have g_read_place:FnX l.prog w K mg base "read_place" 3 ["word"] (spRdPl C_NoRow):=D_read_place.fnX (fun _ _ _ _ _ _ us hl=>by obtain ⟨a0,rfl⟩:=Sv.us1 hl; rfl) fun _ _ F=>ok_rdpl F g_read_address XH_NoRow m_NoAddress c_ALONE (kitCls_ref f_d_NoAddress f_t_NoAddress f_s_NoAddress_NoAddress) hb_NoAddress
 have g_beginning:Fn l.prog w K mg base "beginning" 1 ["address","bits"] spBeg:=D_beginning.fn (fun _ _ _ _ _ _ us hl=>by obtain ⟨a0,a1,rfl⟩:=Sv.us2 hl; rfl) fun _ _ F=>ok_beginning F c_GREATEST_ADDRESS
 have g_every:Fn l.prog w K mg base "every" 1 [] spEvery:=D_every.fn (fun _ _ _ _ _ _ us hl=>match us,hl with | [],_=>rfl) fun _ _ F=>ok_every F c_GREATEST_ADDRESS c_GREATEST_DOOR c_GREATEST_TURN c_GREATEST_KIND
 have g_words_of:Fn l.prog w K mg base "words_of" 1 ["row"] spWordsOf:=D_words_of.fn (fun _ _ _ _ _ _ us hl=>by obtain ⟨a0,rfl⟩:=Sv.us1 hl; rfl) fun _ _ F=>ok_words F
 have g_is_name:Fn l.prog w K mg base "is_name" 1 ["word"] spIsName:=D_is_name.fn (fun _ _ _ _ _ _ us hl=>by obtain ⟨a0,rfl⟩:=Sv.us1 hl; rfl) fun _ _ F=>ok_is_name F c_LETTERS c_MOST_LETTERS b_len b_all
 have g_read_ends:FnX l.prog w K mg base "read_ends" 5 ["word","read_end"] (spREndsX l.prog w K mg base C_NoRow):=D_read_ends.fnX (fun _ _ _ _ _ _ us hl=>by obtain ⟨a0,a1,rfl⟩:=Sv.us2 hl; rfl) fun _ _ F=>ok_rends F X_NoRow c_ALONE b_len
 have g_read_numbers:FnX l.prog w K mg base "read_numbers" 6 ["word","greatest"] (spRNs C_NoRow TT):=by
  obtain ⟨f1,fd1,F1,m1,hc1⟩:=D_read_numbers.ex
  exact ⟨⟨f1,fd1,ok_rnums F1 hc1 D_read_numbers.hd hB g_read_ends g_read_number,m1,F1.kp,F1.binds (fun _ _ _ _ _ _ us hl=>by obtain ⟨a0,a1,rfl⟩:=Sv.us2 hl; rfl)⟩⟩
 have g_read_addresses:FnX l.prog w K mg base "read_addresses" 6 ["word"] (spRAs C_NoRow):=D_read_addresses.fnX (fun _ _ _ _ _ _ us hl=>by obtain ⟨a0,rfl⟩:=Sv.us1 hl; rfl) fun _ _ F=>ok_raddrs F g_read_ends g_read_place g_read_number g_beginning c_ADDRESS_BITS
 have g_pair_values:FnX l.prog w K mg base "pair_values" 3 ["words","pair_words"] (spPV K C_NoRow):=D_pair_values.fnX (fun _ _ _ _ _ _ us hl=>by obtain ⟨a0,a1,rfl⟩:=Sv.us2 hl; rfl) fun _ _ F=>ok_pv F X_NoRow c_ALONE b_len b_range
 have g_read_pairs:FnX l.prog w K mg base "read_pairs" 7 ["words","pair_words","whole_box"] (spRPairs K C_NoRow TT):=D_read_pairs.fnX (fun _ _ _ _ _ _ us hl=>by obtain ⟨a0,a1,a2,rfl⟩:=Sv.us3 hl; rfl) fun _ _ F=>ok_rpairs F g_pair_values g_read_addresses g_read_numbers c_ADDRESS_WORDS b_zip b_tuple
 have g_read_box:FnX l.prog w K mg base "read_box" 8 ["words"] (spRB K C_NoRow TT):=D_read_box.fnX (fun _ _ _ _ _ _ us hl=>by obtain ⟨a0,rfl⟩:=Sv.us1 hl; rfl) fun _ _ F=>ok_rbox F g_read_pairs g_every c_PAIR_WORDS
 have g_read_words:FnX l.prog w K mg base "read_words" 9 ["words"] (spRWords K C_NoRow TT):=D_read_words.fnX (fun _ _ _ _ _ _ us hl=>by obtain ⟨a0,rfl⟩:=Sv.us1 hl; rfl) fun _ _ F=>ok_rwords F g_read_box g_is_name X_NoRow c_ALONE c_SINGLE_HEADS b_len
 have g_read_rule:Fn l.prog w K mg base "read_rule" 10 ["row"] (calmSp (spRRule K C_NoRow TT)):=D_read_rule.fn (fun _ _ _ _ _ _ us hl=>by obtain ⟨a0,rfl⟩:=Sv.us1 hl; rfl) fun _ _ F=>calm_ok (ok_rrule F g_read_words g_words_of)
 have gx_read_rule:FnX l.prog w K mg base "read_rule" 10 ["row"] (spRRule K C_NoRow TT):=D_read_rule.fnX (fun _ _ _ _ _ _ us hl=>by obtain ⟨a0,rfl⟩:=Sv.us1 hl; rfl) fun _ _ F=>ok_rrule F g_read_words g_words_of
 have g__law_cell_at:Fn l.prog w K mg base "_law_cell_at" 1 ["_law_script","_law_k"] (spCell K):=D__law_cell_at.fn (fun _ _ _ _ _ _ us hl=>by obtain ⟨a0,a1,rfl⟩:=Sv.us2 hl; rfl) fun _ _ F=>ok_cell F b_len
 have g__law_whole:Fn l.prog w K mg base "_law_whole" 1 ["_law_found"] spWhole:=D__law_whole.fn (fun _ _ _ _ _ _ us hl=>by obtain ⟨a0,rfl⟩:=Sv.us1 hl; rfl) fun _ _ F=>ok_whole F b_isinstance b_int b_bool
 have g__law_stream:Fn l.prog w K mg base "_law_stream" 1 ["_law_cell","_law_many"] spStream:=D__law_stream.fn (fun _ _ _ _ _ _ us hl=>by obtain ⟨a0,a1,rfl⟩:=Sv.us2 hl; rfl) fun _ _ F=>ok_stream F b_range
 have g__law_address:Fn l.prog w K mg base "_law_address" 1 ["_law_number"] spAddr:=D__law_address.fn (fun _ _ _ _ _ _ us hl=>by obtain ⟨a0,rfl⟩:=Sv.us1 hl; rfl) fun _ _ F=>ok_addr F b_str
 have g__law_pairs:Fn l.prog w K mg base "_law_pairs" 2 ["_law_cell"] spPairs16:=D__law_pairs.fn (fun _ _ _ _ _ _ us hl=>by obtain ⟨a0,rfl⟩:=Sv.us1 hl; rfl) fun _ _ F=>ok_pairs16 F g__law_stream g__law_address b_range b_min b_max b_str b_tuple
 have g__law_bad_number:Fn l.prog w K mg base "_law_bad_number" 1 ["_law_top","_law_draw","_law_more"] spBadN:=D__law_bad_number.fn (fun _ _ _ _ _ _ us hl=>by obtain ⟨a0,a1,a2,rfl⟩:=Sv.us3 hl; rfl) fun _ _ F=>ok_badN F b_str
 have g__law_bad_address:Fn l.prog w K mg base "_law_bad_address" 2 ["_law_draw","_law_more"] spBadA:=D__law_bad_address.fn (fun _ _ _ _ _ _ us hl=>by obtain ⟨a0,a1,rfl⟩:=Sv.us2 hl; rfl) fun _ _ F=>ok_badA F g__law_address b_str
 have g__law_bad_value:Fn l.prog w K mg base "_law_bad_value" 3 ["_law_key","_law_draw","_law_more"] spBadV:=D__law_bad_value.fn (fun _ _ _ _ _ _ us hl=>by obtain ⟨a0,a1,a2,rfl⟩:=Sv.us3 hl; rfl) fun _ _ F=>ok_badV F g__law_bad_address g__law_bad_number
 have g__law_spoiled:Fn l.prog w K mg base "_law_spoiled" 4 ["_law_words","_law_many","_law_cell","_law_more"] spSpoil16:=D__law_spoiled.fn (fun _ _ _ _ _ _ us hl=>by obtain ⟨a0,a1,a2,a3,rfl⟩:=Sv.us4 hl; rfl) fun _ _ F=>ok_spoil16 F g__law_bad_value
 have g__law_refused:Fn l.prog w K mg base "_law_refused" 11 ["_law_row"] (spRefd TT):=D__law_refused.fn (fun _ _ _ _ _ _ us hl=>by obtain ⟨a0,rfl⟩:=Sv.us1 hl; rfl) fun _ _ F=>ok_refd F gx_read_rule g__law_whole m_NoRow m_SieveError m_NoAddress m_NoName m_NoRule b_isinstance b_ValueError Z_NoRow na_NoRow (kitCls_ref f_d f_t f_s_NoRow) hb_SieveError i_NoRow_NoRow i_NoRow_ValueError i_NoRow_NoAddress i_NoRow_NoName i_NoRow_NoRule
 exact ok_law F g__law_cell_at g__law_stream g__law_pairs g__law_spoiled g__law_refused g_read_rule b_len b_range b_max b_min b_list b_tuple
theorem walk {l:PySem.W.OpenLaw}{q:Program}{loose:List Str}{XP:(Str→Option Value)→Heap→Prop}{YP:World→Heap→Prop}{d:DefRec}{K:Params→PySem.W.Frag}(hn:l.most=some 63)(hdf:d.params.defaults=[])
  (hY:∀ (w:World) (h:Heap),YP w h→(K w.params).In h) (hd':((PyProof.Rows.recsOf q).find? (fun d=>d.name == ("read_numbers":Str))).isSome=true)
  (F:∀ (w:World) (mg:Str→Option Value) (fa:Addr) (h:Heap),(K w.params).In h→h.Ns mainGlobals mg→mg d.name=some (.ref fa) →
   ∃ (c T:Addr) (fd:FuncData),DefT (K w.params) mg "read_numbers" s_read_numbers c T∧(∀ (s:Shared) (u:Value),BindsTo s fd ⟨[u],[]⟩ [("_law_script",u)])∧∀ base:Heap,(K w.params).In base→base.Ns mainGlobals mg→BltAt mg base→FnOk l.prog w (K w.params) mg base CX0 12 fa fd ["_law_script"] (spLawT (K w.params) T)) :
  PySem.W.WalkO q loose XP YP l.row.toRowW d [] (fun f vs=>PySem.call f vs):=walkT hn hdf ⟨rfl,by decide,by decide,rfl⟩ hY hd' F
namespace Hd
open PySem PySem.W
noncomputable section
def en (P:Params)(x:Str)(n:Nat)(v:Value):DictEntry:=⟨PyData.keyHash P x,.str x n,v⟩
def tO (xs:List Value):Obj:=⟨.type "tuple",none,.seq ⟨xs⟩ 0,⟨[]⟩⟩
def dO (es:List DictEntry)(n:Nat):Obj:=⟨.type "dict",none,.dict ⟨es⟩ n,⟨[]⟩⟩
def nO (xs:List Value):Obj:=⟨.none,none,.fields ⟨xs⟩,⟨[]⟩⟩
def nF (n q:Str)(s:Stmt):Obj:=⟨.none,none,.func ⟨n,q,defArgs s,.stmts (defBody s),defScope s,0,[],.none,.none,.none,.none,none,.none,.none,0⟩,⟨[]⟩⟩
def uF (n q:Str)(s:Stmt)(a b c d e f:Value):Obj:=⟨.type "function",none,.func ⟨n,q,defArgs s,.stmts (defBody s),defScope s,3,[],a,b,c,d,none,e,f,0⟩,⟨[]⟩⟩
def cO (n:Str)(a:Nat)(q:Str)(b c:Nat)(x1 x2 x3 x4 x5:Int)(r1:Nat)(v:Bool)(x6:Int)(r2:Nat)(u1 u2 u3 u4:Value)(x7 x8:Int)(d:Nat):Obj:=⟨.type "code",none,.fields ⟨[.str n a,.str q b,.str "/claim/cut.py" c,.int x1 0,.int x2 0,.int x3 0,.int x4 0,.int x5 0,.ref r1,.bool v,.int x6 0,.ref r2,u1,u2,u3,u4,.int x7 0,.int x8 0,.str "/claim/cut.py" d]⟩,⟨[]⟩⟩
def rO (a b c:Nat)(v:Value):Obj:=⟨.type "frame",none,.plain,⟨[some (.ref a),some (.ref b),some (.ref c),none,some v,none,some (.ref 0)]⟩⟩
def alt (l:List Obj):Bool→List Obj:=@List.rec Obj (fun _=>Bool→List Obj) (fun _=>[]) (fun x _ ih b=>@Bool.rec (fun _=>List Obj) (ih true) (x::ih false) b) l
def mkT (n:Nat):List Obj→BT:=@Nat.rec (fun _=>List Obj→BT) (fun _=>.nil) (fun _ ih l=>@List.rec Obj (fun _=>BT) .nil (fun x r _=>.node x (ih (alt r true)) (ih (alt r false))) l) n
def cF (n:Str)(a:Nat)(q:Str)(l k:Int)(r t:Nat):Obj:=cO n a q (a+1) (a+2) l k 0 0 3 r true 181 (r+1) .none (.ref (r+2)) (.ref (r+3)) (.ref (r+4)) (t:Int) l (t+1)
def cG (n:Str)(a:Nat)(q:Str)(l k:Int)(r t:Nat):Obj:=cO n a q (a+1) (a+2) l k 0 0 3 r true 181 (r+1) .none .none .none (.ref (r+2)) (t:Int) l (t+1)
def cH (n:Str)(a:Nat)(l:Int)(r t:Nat):Obj:=cO n a n (a+1) (a+2) l 0 0 0 0 r false 181 (r+1) .none .none .none .none (t:Int) l (t+1)
def uG (n q:Str)(s:Stmt)(d:Value)(e:Nat):Obj:=uF n q s .none .none .none d (.ref e) .none
def uH (n:Str)(s:Stmt)(d:Value)(e:Nat):Obj:=uG n n s d e
def nG (n:Str)(s:Stmt):Obj:=nF n n s
def sO (r:Nat):Obj:=⟨.type "super",none,.fields ⟨[.ref r,.ref r,.ref r]⟩,⟨[]⟩⟩
def bO (r:Nat):Obj:=⟨.type "builtin_function_or_method",none,.fields ⟨[.builtin "object.__init_subclass__",.ref r]⟩,⟨[]⟩⟩
def sq (l:List Str):Nat→List Value:=@List.rec Str (fun _=>Nat→List Value) (fun _=>[]) (fun x _ ih a=>.str x a::ih (a+1)) l
def tS (l:List Str)(a:Nat):Obj:=tO (sq l a)
def t3 (l:List (Int×Int×Nat)):List Value:=@List.rec (Int×Int×Nat) (fun _=>List Value) [] (fun x _ ih=>.int x.1 0::.int x.2.1 0::.ref x.2.2::ih) l
def m0:Value:=.str "sieve.errors" 187
def m1:Value:=.str "sieve.words" 289
def m2:Value:=.str "sieve.addresses" 315
def m3:Value:=.str "sieve.bits" 327
def m4:Value:=.str "sieve.rules" 343
def m5:Value:=.str "sieve.texts" 359
def m6:Value:=.str "law_sieve_k16_rows_refused" 460
def z0:Obj:=cH "<module>" 182 1 11 185
def z1:Obj:=rO 13 3 3 (.str "__main__" 164)
def z2 (P:Params):Obj:=dO [en P "__name__" 165 (.str "sieve.texts" 359),en P "__doc__" 166 .none,en P "__package__" 167 .none,en P "__loader__" 168 (.builtin "__main__.__loader__#opaque"),en P "__spec__" 169 .none,en P "__annotations__" 170 (.ref 6),en P "__builtins__" 171 (.ref 4),en P "__file__" 173 (.str "/claim/cut.py" 172),en P "__cached__" 174 .none,en P "SieveError" 206 (.ref 24),en P "NoAddress" 222 (.ref 37),en P "NoRow" 247 (.ref 56),en P "NoRule" 263 (.ref 68),en P "NoName" 288 (.ref 87),en P "FIGURES" 292 (.str "0123456789" 291),en P "LETTERS" 294 (.str "abcdefghijklmnopqrstuvwxyz" 293),en P "MOST_LETTERS" 296 (.int 12 295),en P "words_of" 302 (.ref 94),en P "is_name" 308 (.ref 99),en P "is_number" 314 (.ref 104),en P "PART_COUNT" 318 (.int 4 317),en P "PART_SIZE" 320 (.int 256 319),en P "read_address" 326 (.ref 109),en P "ADDRESS_BITS" 330 (.int 32 329),en P "GREATEST_ADDRESS" 332 (.int 4294967295 331),en P "beginning" 342 (.ref 116),en P "GREATEST_TURN" 346 (.int 3 345),en P "GREATEST_KIND" 348 (.int 255 347),en P "GREATEST_DOOR" 350 (.int 65535 349),en P "every" 358 (.ref 123),en P "ALONE" 362 (.int 1 361),en P "SINGLE_HEADS" 366 (.ref 124),en P "PAIR_WORDS" 373 (.ref 125),en P "ADDRESS_WORDS" 376 (.ref 126),en P "read_number" 384 (.ref 133)] 35
def z3:Obj:=nO (t3 [(2,0,20),(4,0,33),(6,0,45),(11,0,64),(13,0,76),(22,0,93),(24,0,98),(26,0,103),(37,0,108),(48,0,115),(56,0,122),(65,0,132)])
def z4:Obj:=tO [.type "ValueError"]
def z5:Obj:=⟨.type "builtin_function_or_method",none,(.fields ⟨[.builtin "type.__prepare__",.type "type"]⟩),⟨[]⟩⟩
def z6 (P:Params):Obj:=dO [en P "__module__" 196 (.str "sieve.errors" 187),en P "__qualname__" 198 (.str "SieveError" 197),en P "__firstlineno__" 200 (.int 2 199),en P "__static_attributes__" 201 (.ref 22)] 4
def z7:Obj:=cH "SieveError" 191 2 18 194
def z8:Obj:=rO 20 3 17 (.str "sieve.errors" 187)
def z9 (P:Params):Obj:=dO [en P "__module__" 196 (.str "sieve.errors" 187),en P "__firstlineno__" 200 (.int 2 199),en P "__static_attributes__" 201 (.ref 22),en P "__weakref__" 203 (.ref 25),en P "__doc__" 204 .none] 3
def za:Obj:=⟨.type "type",none,(.cls ⟨"SieveError",[.type "ValueError"],[.ref 24,.type "ValueError",.type "Exception",.type "BaseException",.type "object"],23,"SieveError",true,[],[.ref 37,.ref 56,.ref 68,.ref 87],false,none,false⟩),⟨[(some (.ref 15)),none,(some (.str "SieveError" 189)),(some (.str "SieveError" 197)),(some (.builtin "ValueError.__new__")),(some (.bool true))]⟩⟩
def zb:Obj:=⟨.type "getset_descriptor",none,(.fields ⟨[.str "__weakref__" 202,.ref 24,.builtin "ExceptionGroup.__weakref__",.none]⟩),⟨[]⟩⟩
def zc:Obj:=sO 24
def zd:Obj:=bO 24
def ze:Obj:=tO [.ref 24]
def zf (P:Params):Obj:=dO [en P "__module__" 214 (.str "sieve.errors" 187),en P "__qualname__" 216 (.str "NoAddress" 215),en P "__firstlineno__" 218 (.int 4 217),en P "__static_attributes__" 219 (.ref 35)] 4
def z10:Obj:=cH "NoAddress" 209 4 31 212
def z11:Obj:=rO 33 3 30 (.str "sieve.errors" 187)
def z12 (P:Params):Obj:=dO [en P "__module__" 214 (.str "sieve.errors" 187),en P "__firstlineno__" 218 (.int 4 217),en P "__static_attributes__" 219 (.ref 35),en P "__doc__" 220 .none] 2
def z13:Obj:=⟨.type "type",none,(.cls ⟨"NoAddress",[.ref 24],[.ref 37,.ref 24,.type "ValueError",.type "Exception",.type "BaseException",.type "object"],36,"NoAddress",true,[],[],false,none,false⟩),⟨[(some (.ref 28)),none,(some (.str "NoAddress" 207)),(some (.str "NoAddress" 215)),(some (.builtin "ValueError.__new__")),(some (.bool true))]⟩⟩
def z14:Obj:=sO 37
def z15:Obj:=bO 37
def z16 (P:Params):Obj:=dO [en P "__module__" 230 (.str "sieve.errors" 187),en P "__qualname__" 232 (.str "NoRow" 231),en P "__firstlineno__" 234 (.int 6 233),en P "__init__" 242 (.ref 53),en P "__static_attributes__" 244 (.ref 54)] 5
def z17:Obj:=nO (t3 [(8,4,52)])
def z18:Obj:=cH "NoRow" 225 6 43 228
def z19:Obj:=rO 45 3 42 (.str "sieve.errors" 187)
def z1a:Obj:=tS ["self","row"] 238
def z1b:Obj:=nF "__init__" "NoRow.__init__" s_NoRow___init__
def z1c:Obj:=cF "__init__" 235 "NoRow.__init__" 8 2 47 240
def z1d:Obj:=uG "__init__" "NoRow.__init__" s_NoRow___init__ m0 52
def z1e:Obj:=tS ["row"] 243
def z1f (P:Params):Obj:=dO [en P "__module__" 230 (.str "sieve.errors" 187),en P "__firstlineno__" 234 (.int 6 233),en P "__init__" 242 (.ref 53),en P "__static_attributes__" 244 (.ref 54),en P "__doc__" 245 .none] 2
def z20:Obj:=⟨.type "type",none,(.cls ⟨"NoRow",[.ref 24],[.ref 56,.ref 24,.type "ValueError",.type "Exception",.type "BaseException",.type "object"],55,"NoRow",true,[],[],false,none,false⟩),⟨[(some (.ref 40)),none,(some (.str "NoRow" 223)),(some (.str "NoRow" 231)),(some (.builtin "ValueError.__new__")),(some (.bool true))]⟩⟩
def z21:Obj:=sO 56
def z22:Obj:=bO 56
def z23 (P:Params):Obj:=dO [en P "__module__" 255 (.str "sieve.errors" 187),en P "__qualname__" 257 (.str "NoRule" 256),en P "__firstlineno__" 259 (.int 11 258),en P "__static_attributes__" 260 (.ref 66)] 4
def z24:Obj:=cH "NoRule" 250 11 62 253
def z25:Obj:=rO 64 3 61 (.str "sieve.errors" 187)
def z26 (P:Params):Obj:=dO [en P "__module__" 255 (.str "sieve.errors" 187),en P "__firstlineno__" 259 (.int 11 258),en P "__static_attributes__" 260 (.ref 66),en P "__doc__" 261 .none] 2
def z27:Obj:=⟨.type "type",none,(.cls ⟨"NoRule",[.ref 24],[.ref 68,.ref 24,.type "ValueError",.type "Exception",.type "BaseException",.type "object"],67,"NoRule",true,[],[],false,none,false⟩),⟨[(some (.ref 59)),none,(some (.str "NoRule" 248)),(some (.str "NoRule" 256)),(some (.builtin "ValueError.__new__")),(some (.bool true))]⟩⟩
def z28:Obj:=sO 68
def z29:Obj:=bO 68
def z2a (P:Params):Obj:=dO [en P "__module__" 271 (.str "sieve.errors" 187),en P "__qualname__" 273 (.str "NoName" 272),en P "__firstlineno__" 275 (.int 13 274),en P "__init__" 283 (.ref 84),en P "__static_attributes__" 285 (.ref 85)] 5
def z2b:Obj:=nO (t3 [(15,4,83)])
def z2c:Obj:=cH "NoName" 266 13 74 269
def z2d:Obj:=rO 76 3 73 (.str "sieve.errors" 187)
def z2e:Obj:=tS ["self","name"] 279
def z2f:Obj:=nF "__init__" "NoName.__init__" s_NoName___init__
def z30:Obj:=cF "__init__" 276 "NoName.__init__" 15 2 78 281
def z31:Obj:=uG "__init__" "NoName.__init__" s_NoName___init__ m0 83
def z32:Obj:=tS ["name"] 284
def z33 (P:Params):Obj:=dO [en P "__module__" 271 (.str "sieve.errors" 187),en P "__firstlineno__" 275 (.int 13 274),en P "__init__" 283 (.ref 84),en P "__static_attributes__" 285 (.ref 85),en P "__doc__" 286 .none] 2
def z34:Obj:=⟨.type "type",none,(.cls ⟨"NoName",[.ref 24],[.ref 87,.ref 24,.type "ValueError",.type "Exception",.type "BaseException",.type "object"],86,"NoName",true,[],[],false,none,false⟩),⟨[(some (.ref 71)),none,(some (.str "NoName" 264)),(some (.str "NoName" 272)),(some (.builtin "ValueError.__new__")),(some (.bool true))]⟩⟩
def z35:Obj:=sO 87
def z36:Obj:=bO 87
def z37:Obj:=nG "words_of" s_words_of
def z38:Obj:=cG "words_of" 297 "words_of" 22 1 90 300
def z39:Obj:=uH "words_of" s_words_of m1 93
def z3a:Obj:=nG "is_name" s_is_name
def z3b:Obj:=cG "is_name" 303 "is_name" 24 1 95 306
def z3c:Obj:=uH "is_name" s_is_name m1 98
def z3d:Obj:=nG "is_number" s_is_number
def z3e:Obj:=cG "is_number" 309 "is_number" 26 2 100 312
def z3f:Obj:=uH "is_number" s_is_number m1 103
def z40:Obj:=nG "read_address" s_read_address
def z41:Obj:=cG "read_address" 321 "read_address" 37 1 105 324
def z42:Obj:=uH "read_address" s_read_address m2 108
def z43:Obj:=tS ["address","bits","free_bits","high"] 336
def z44:Obj:=nG "beginning" s_beginning
def z45:Obj:=cF "beginning" 333 "beginning" 48 2 110 340
def z46:Obj:=uH "beginning" s_beginning m3 115
def z47:Obj:=tS ["addresses","doors"] 354
def z48:Obj:=nG "every" s_every
def z49:Obj:=cF "every" 351 "every" 56 0 117 356
def z4a:Obj:=uH "every" s_every m4 122
def z4b:Obj:=tS ["pass","stop","back"] 363
def z4c:Obj:=tS ["turn","kind","from","fromdoor","to","todoor"] 367
def z4d:Obj:=tS ["from","to"] 374
def z4e:Obj:=tS ["word","greatest"] 380
def z4f:Obj:=nG "read_number" s_read_number
def z50:Obj:=cF "read_number" 377 "read_number" 65 2 127 382
def z51:Obj:=uH "read_number" s_read_number m5 132
def z52 (P:Params):Obj:=dO [en P "__name__" 165 (.str "law_sieve_k16_rows_refused" 460),en P "__doc__" 166 .none,en P "__package__" 167 .none,en P "__loader__" 168 (.builtin "__main__.__loader__#opaque"),en P "__spec__" 169 .none,en P "__annotations__" 170 (.ref 6),en P "__builtins__" 171 (.ref 4),en P "__file__" 173 (.str "/claim/cut.py" 172),en P "__cached__" 174 .none,en P "SieveError" 206 (.ref 24),en P "NoAddress" 222 (.ref 37),en P "NoRow" 247 (.ref 56),en P "NoRule" 263 (.ref 68),en P "NoName" 288 (.ref 87),en P "FIGURES" 292 (.str "0123456789" 291),en P "LETTERS" 294 (.str "abcdefghijklmnopqrstuvwxyz" 293),en P "MOST_LETTERS" 296 (.int 12 295),en P "words_of" 302 (.ref 94),en P "is_name" 308 (.ref 99),en P "is_number" 314 (.ref 104),en P "PART_COUNT" 318 (.int 4 317),en P "PART_SIZE" 320 (.int 256 319),en P "read_address" 326 (.ref 109),en P "ADDRESS_BITS" 330 (.int 32 329),en P "GREATEST_ADDRESS" 332 (.int 4294967295 331),en P "beginning" 342 (.ref 116),en P "GREATEST_TURN" 346 (.int 3 345),en P "GREATEST_KIND" 348 (.int 255 347),en P "GREATEST_DOOR" 350 (.int 65535 349),en P "every" 358 (.ref 123),en P "ALONE" 362 (.int 1 361),en P "SINGLE_HEADS" 366 (.ref 124),en P "PAIR_WORDS" 373 (.ref 125),en P "ADDRESS_WORDS" 376 (.ref 126),en P "read_number" 384 (.ref 133),en P "read_place" 391 (.ref 140),en P "read_ends" 397 (.ref 145),en P "read_numbers" 406 (.ref 152),en P "read_addresses" 414 (.ref 159),en P "pair_values" 425 (.ref 166),en P "read_pairs" 438 (.ref 173),en P "read_box" 445 (.ref 180),en P "read_words" 452 (.ref 187),en P "read_rule" 459 (.ref 194),en P "_law_cell_at" 469 (.ref 201),en P "_law_whole" 476 (.ref 208),en P "_law_stream" 487 (.ref 215),en P "_law_address" 496 (.ref 222),en P "_law_pairs" 512 (.ref 229),en P "_law_bad_number" 523 (.ref 236),en P "_law_bad_address" 534 (.ref 243),en P "_law_bad_value" 544 (.ref 250),en P "_law_spoiled" 558 (.ref 257),en P "_law_refused" 567 (.ref 264),en P "law" 573 (.ref 269)] 55
def z53:Obj:=nO (t3 [(2,0,20),(4,0,33),(6,0,45),(11,0,64),(13,0,76),(22,0,93),(24,0,98),(26,0,103),(37,0,108),(48,0,115),(56,0,122),(65,0,132),(69,0,139),(74,0,144),(79,0,151),(81,0,158),(86,0,165),(96,0,172),(107,0,179),(109,0,186),(115,0,193),(118,0,200),(122,0,207),(124,0,214),(131,0,221),(136,0,228),(152,0,235),(158,0,242),(166,0,249),(171,0,256),(198,0,263),(209,0,268)])
def z54:Obj:=tS ["word"] 388
def z55:Obj:=nG "read_place" s_read_place
def z56:Obj:=cF "read_place" 385 "read_place" 69 1 134 389
def z57:Obj:=uH "read_place" s_read_place m5 139
def z58:Obj:=nG "read_ends" s_read_ends
def z59:Obj:=cG "read_ends" 392 "read_ends" 74 2 141 395
def z5a:Obj:=uH "read_ends" s_read_ends m5 144
def z5b:Obj:=tS ["word","greatest"] 401
def z5c:Obj:=tS ["greatest"] 403
def z5d:Obj:=nG "read_numbers" s_read_numbers
def z5e:Obj:=cF "read_numbers" 398 "read_numbers" 79 2 146 404
def z5f:Obj:=uH "read_numbers" s_read_numbers m5 151
def z60:Obj:=tS ["word","sides"] 410
def z61:Obj:=nG "read_addresses" s_read_addresses
def z62:Obj:=cF "read_addresses" 407 "read_addresses" 81 1 153 412
def z63:Obj:=uH "read_addresses" s_read_addresses m5 158
def z64:Obj:=tS ["words","pair_words","told","place","word"] 418
def z65:Obj:=nG "pair_values" s_pair_values
def z66:Obj:=cF "pair_values" 415 "pair_values" 86 2 160 423
def z67:Obj:=uH "pair_values" s_pair_values m5 165
def z68:Obj:=tS ["words","pair_words","whole_box","told","stretches","word","whole"] 429
def z69:Obj:=nG "read_pairs" s_read_pairs
def z6a:Obj:=cF "read_pairs" 426 "read_pairs" 96 3 167 436
def z6b:Obj:=uH "read_pairs" s_read_pairs m5 172
def z6c:Obj:=tS ["words"] 442
def z6d:Obj:=nG "read_box" s_read_box
def z6e:Obj:=cF "read_box" 439 "read_box" 107 1 174 443
def z6f:Obj:=uH "read_box" s_read_box m5 179
def z70:Obj:=tS ["words"] 449
def z71:Obj:=nG "read_words" s_read_words
def z72:Obj:=cF "read_words" 446 "read_words" 109 1 181 450
def z73:Obj:=uH "read_words" s_read_words m5 186
def z74:Obj:=tS ["row"] 456
def z75:Obj:=nG "read_rule" s_read_rule
def z76:Obj:=cF "read_rule" 453 "read_rule" 115 1 188 457
def z77:Obj:=uH "read_rule" s_read_rule m5 193
def z78:Obj:=tS ["_law_script","_law_k"] 465
def z79:Obj:=nG "_law_cell_at" s__law_cell_at
def z7a:Obj:=cF "_law_cell_at" 462 "_law_cell_at" 118 2 195 467
def z7b:Obj:=uH "_law_cell_at" s__law_cell_at m6 200
def z7c:Obj:=tS ["_law_found"] 473
def z7d:Obj:=nG "_law_whole" s__law_whole
def z7e:Obj:=cF "_law_whole" 470 "_law_whole" 122 1 202 474
def z7f:Obj:=uH "_law_whole" s__law_whole m6 207
def z80:Obj:=tS ["_law_cell","_law_many","_law_found","_law_number","_law_k"] 480
def z81:Obj:=nG "_law_stream" s__law_stream
def z82:Obj:=cF "_law_stream" 477 "_law_stream" 124 2 209 485
def z83:Obj:=uH "_law_stream" s__law_stream m6 214
def z84:Obj:=tS ["_law_number","_law_words","_law_size"] 491
def z85:Obj:=nG "_law_address" s__law_address
def z86:Obj:=cF "_law_address" 488 "_law_address" 131 1 216 494
def z87:Obj:=uH "_law_address" s__law_address m6 221
def z88:Obj:=tS ["_law_cell","_law_draws","_law_tops","_law_keys","_law_pairs_here","_law_box","_law_k","_law_x","_law_y","_law_start"] 500
def z89:Obj:=nG "_law_pairs" s__law_pairs
def z8a:Obj:=cF "_law_pairs" 497 "_law_pairs" 136 1 223 510
def z8b:Obj:=uH "_law_pairs" s__law_pairs m6 228
def z8c:Obj:=tS ["_law_top","_law_draw","_law_more","_law_x","_law_some"] 516
def z8d:Obj:=nG "_law_bad_number" s__law_bad_number
def z8e:Obj:=cF "_law_bad_number" 513 "_law_bad_number" 152 3 230 521
def z8f:Obj:=uH "_law_bad_number" s__law_bad_number m6 235
def z90:Obj:=tS ["_law_draw","_law_more","_law_x","_law_one","_law_some"] 527
def z91:Obj:=nG "_law_bad_address" s__law_bad_address
def z92:Obj:=cF "_law_bad_address" 524 "_law_bad_address" 158 2 237 532
def z93:Obj:=uH "_law_bad_address" s__law_bad_address m6 242
def z94:Obj:=tS ["_law_key","_law_draw","_law_more","_law_top"] 538
def z95:Obj:=nG "_law_bad_value" s__law_bad_value
def z96:Obj:=cF "_law_bad_value" 535 "_law_bad_value" 166 3 244 542
def z97:Obj:=uH "_law_bad_value" s__law_bad_value m6 249
def z98:Obj:=tS ["_law_words","_law_many","_law_cell","_law_more","_law_at","_law_way","_law_some","_law_other"] 548
def z99:Obj:=nG "_law_spoiled" s__law_spoiled
def z9a:Obj:=cF "_law_spoiled" 545 "_law_spoiled" 171 4 251 556
def z9b:Obj:=uH "_law_spoiled" s__law_spoiled m6 256
def z9c:Obj:=tS ["_law_row","_law_told","e"] 562
def z9d:Obj:=nG "_law_refused" s__law_refused
def z9e:Obj:=cF "_law_refused" 559 "_law_refused" 198 1 258 565
def z9f:Obj:=uH "_law_refused" s__law_refused m6 263
def za0:Obj:=nG "law" s_law
def za1:Obj:=cG "law" 568 "law" 209 1 265 571
def za2:Obj:=uH "law" s_law m6 268
abbrev hp:Program:=PySem.Challenge.pw_sieve_k16_rows_refused
def hEnv:Env:={ scope:=PySem.Challenge.pw_sieve_k16_rows_refused.main.scope,locals:=mainNs,globals:=mainNs,cells:=[],code:=.ref 13,frame:=some 14 }
def hB:List Stmt:=behindTheImports PySem.Challenge.pw_sieve_k16_rows_refused
abbrev hC:Code:=.body hB hEnv
abbrev hF:List Frame:=[topFrame ⟨0,0,0,0⟩]
abbrev hAnn:Option Value:=(some (.ref 6))
def hA (P:Params):Heap:=⟨⟨[(boot_o_0 P),(boot_o_1 P),(boot_o_2 P),(boot_o_3 P),(boot_o_4 P),(boot_o_5 P),(boot_o_6 P),(boot_o_7 P),(boot_o_8 P),(boot_o_9 P),(boot_o_10 P),(boot_o_7 P),(boot_o_8 P),z0,z1]⟩,{}⟩
def ls0 (P:Params):List Obj:=[(boot_o_0 P),(boot_o_1 P),(boot_o_2 P),(boot_o_3 P),(boot_o_4 P),(boot_o_5 P),(boot_o_6 P),(boot_o_7 P),(boot_o_8 P),(boot_o_9 P),(boot_o_10 P),(boot_o_7 P),(boot_o_8 P),z0,z1]
def tr0 (P:Params):BT:=mkT 14 (ls0 P)
def ls1 (P:Params):List Obj:=(((ls0 P).set 3 (z2 P)).set 12 z3)++[z4,z5,(z6 P),(boot_o_7 P),(boot_o_8 P),z7,z8,(boot_o_7 P),(z9 P),za,zb,zc,zd,ze,z5,(zf P),(boot_o_7 P),(boot_o_8 P),z10,z11,(boot_o_7 P),(z12 P),z13,z14,z15,ze,z5,(z16 P),(boot_o_7 P),z17,z18,z19,(boot_o_7 P),(boot_o_8 P),z1a,(boot_o_7 P),z1b,z1c,z1d,z1e,(z1f P),z20,z21,z22,ze,z5,(z23 P),(boot_o_7 P),(boot_o_8 P),z24,z25,(boot_o_7 P),(z26 P),z27,z28,z29,ze,z5,(z2a P),(boot_o_7 P),z2b,z2c,z2d,(boot_o_7 P),(boot_o_8 P),z2e,(boot_o_7 P),z2f,z30,z31,z32,(z33 P),z34,z35,z36,(boot_o_7 P),(boot_o_8 P),z37,z38,z39,(boot_o_7 P),(boot_o_8 P),z3a,z3b,z3c,(boot_o_7 P),(boot_o_8 P),z3d,z3e,z3f,(boot_o_7 P),(boot_o_8 P),z40,z41,z42,(boot_o_7 P),(boot_o_8 P),z43,(boot_o_7 P),z44,z45,z46,(boot_o_7 P),(boot_o_8 P),z47,(boot_o_7 P),z48,z49,z4a,z4b,z4c,z4d,(boot_o_7 P),(boot_o_8 P),z4e,(boot_o_7 P),z4f,z50,z51]
def tr1 (P:Params):BT:=mkT 14 (ls1 P)
def gr1:List Stmt:=(hB.drop 0).take 32
def ls2 (P:Params):List Obj:=(((ls1 P).set 3 (z52 P)).set 12 z53)++[(boot_o_7 P),(boot_o_8 P),z54,(boot_o_7 P),z55,z56,z57,(boot_o_7 P),(boot_o_8 P),z58,z59,z5a,(boot_o_7 P),(boot_o_8 P),z5b,z5c,z5d,z5e,z5f,(boot_o_7 P),(boot_o_8 P),z60,(boot_o_7 P),z61,z62,z63,(boot_o_7 P),(boot_o_8 P),z64,(boot_o_7 P),z65,z66,z67,(boot_o_7 P),(boot_o_8 P),z68,(boot_o_7 P),z69,z6a,z6b,(boot_o_7 P),(boot_o_8 P),z6c,(boot_o_7 P),z6d,z6e,z6f,(boot_o_7 P),(boot_o_8 P),z70,(boot_o_7 P),z71,z72,z73,(boot_o_7 P),(boot_o_8 P),z74,(boot_o_7 P),z75,z76,z77,(boot_o_7 P),(boot_o_8 P),z78,(boot_o_7 P),z79,z7a,z7b,(boot_o_7 P),(boot_o_8 P),z7c,(boot_o_7 P),z7d,z7e,z7f,(boot_o_7 P),(boot_o_8 P),z80,(boot_o_7 P),z81,z82,z83,(boot_o_7 P),(boot_o_8 P),z84,(boot_o_7 P),z85,z86,z87,(boot_o_7 P),(boot_o_8 P),z88,(boot_o_7 P),z89,z8a,z8b,(boot_o_7 P),(boot_o_8 P),z8c,(boot_o_7 P),z8d,z8e,z8f,(boot_o_7 P),(boot_o_8 P),z90,(boot_o_7 P),z91,z92,z93,(boot_o_7 P),(boot_o_8 P),z94,(boot_o_7 P),z95,z96,z97,(boot_o_7 P),(boot_o_8 P),z98,(boot_o_7 P),z99,z9a,z9b,(boot_o_7 P),(boot_o_8 P),z9c,(boot_o_7 P),z9d,z9e,z9f,(boot_o_7 P),(boot_o_8 P),za0,za1,za2]
def tr2 (P:Params):BT:=mkT 14 (ls2 P)
def gr2:List Stmt:=(hB.drop 32).take 21
def hZ (P:Params):Heap:=⟨⟨(ls2 P)⟩,{}⟩
theorem pre (w:World):(fun os=>topGo treeTable hp w 11 hAnn 12 ⟨boot_heap w.params,Array.mk [],boot_drawn,boot_toks,os⟩ (topStub hp))=fun os=>some (⟨hA w.params,Array.mk [],{},187,os⟩,⟨denote treeTable hC,hC,⟨0,0,0,0⟩,hF⟩):=by kernel_rfl
theorem blk (w:World):(fun os=>segRun treeTable hp w 11 hAnn 1 1 ⟨hA w.params,Array.mk [],{},187,os⟩ (blockOf hB hEnv hC ⟨0,0,0,0⟩ hF))=fun os=>some (.next,SharedT.abs ⟨tr0 w.params,15,{},Array.mk [],{},187,os⟩,hC,⟨0,0,0,0⟩):=by kernel_rfl
theorem pc1 (w:World):(fun os=>segRunT treeTable hp w 11 hAnn 1 1493 ⟨tr0 w.params,15,{},Array.mk [],{},187,os⟩ (PySem.W.piecesOf gr1 hEnv hC ⟨0,0,0,0⟩ hF))=fun os=>some (.next,⟨tr1 w.params,134,{},Array.mk [],{},385,os⟩,hC,⟨65,0,68,20⟩):=by kernel_rfl
theorem pc2 (w:World):(fun os=>segRunT treeTable hp w 11 hAnn 1 633 ⟨tr1 w.params,134,{},Array.mk [],{},385,os⟩ (PySem.W.piecesOf gr2 hEnv hC ⟨65,0,68,20⟩ hF))=fun os=>some (.next,⟨tr2 w.params,270,{},Array.mk [],{},574,os⟩,hC,⟨209,0,226,15⟩):=by kernel_rfl
theorem fin (w:World):(fun os=>topRun treeTable hp w 11 hAnn 2 (SharedT.abs ⟨tr2 w.params,270,{},Array.mk [],{},574,os⟩) ⟨doneF .next,hC,⟨209,0,226,15⟩,hF⟩)=fun os=>some ⟨hZ w.params,Array.mk [],{},574,os⟩:=by kernel_rfl
theorem bodyEq:hB=gr1++(gr2++[]):=by kernel_rfl
abbrev hM:Nat:=(12+(1+(1493+(633+2))))
theorem rest (w:World)(os:OsState):topRun treeTable hp w 11 hAnn (1493+(633+2)) (SharedT.abs ⟨tr0 w.params,15,{},Array.mk [],{},187,os⟩) (restOf hB hEnv hC ⟨0,0,0,0⟩ hF)=some ⟨hZ w.params,Array.mk [],{},574,os⟩:=by
 have h:topRun treeTable hp w 11 hAnn (1493+(633+2)) (SharedT.abs ⟨tr0 w.params,15,{},Array.mk [],{},187,os⟩) (restOf (gr1++(gr2++[])) hEnv hC ⟨0,0,0,0⟩ hF)=some ⟨hZ w.params,Array.mk [],{},574,os⟩:=piece_app (segRun_of (congrFun (pc1 w) os)) (piece_app (segRun_of (congrFun (pc2 w) os)) (piece_nil (congrFun (fin w) os)))
 rw [← bodyEq] at h
 exact h
theorem run (w:World)(os:OsState):topRun treeTable hp w 11 hAnn hM ⟨boot_heap w.params,Array.mk [],boot_drawn,boot_toks,os⟩ (topStub hp)=some ⟨hZ w.params,Array.mk [],{},574,os⟩:=go_top (congrFun (pre w) os) (piece_block (congrFun (blk w) os) (rest w os))
theorem opn:∀ w:World,(fencedOpening treeTable hp w 4374).map (fun s=>(s.heap,s.gens,s.drawn,s.toks))=some (boot_heap w.params,Array.mk [],boot_drawn,boot_toks):=boot_open (by kernel_rfl) (by decide) (fun s=>by kernel_rfl)
theorem siz (w:World):((boot_heap w.params).isNs mainGlobals && (Array.mk []:Array GenState).size == 0,(boot_heap w.params).objs.size,(boot_heap w.params).nsMap mainGlobals "__annotations__")=(true,11,hAnn):=by kernel_rfl
end
end Hd
def kept:List Nat:=[1,2,3,4,5,7,8,9,10,11,12,14,15,16,18,19,20,22,23,24,25,27,28,29,30,31,32,33,34,35,36,37,38,39,40,42,43,44,45,46,47,48,49,50,51,52]
def view:Program:={ PySem.Challenge.pw_sieve_k16_rows_refused with main:={ PySem.Challenge.pw_sieve_k16_rows_refused.main with body:=kept.filterMap fun i=>PySem.Challenge.pw_sieve_k16_rows_refused.main.body[i]? } }
abbrev theRow:PySem.W.OpenRow:=PySem.W.OpenLaw.row PySem.Challenge.rw_sieve_k16_rows_refused
noncomputable section
open PySem PySem.W PyProof.Rows Hd
variable (w:World)(os:OsState)
def xt:Shared→Bool:=fun s=>xlAt view [] s && recOk (RowW.records (OpenRow.toRowW theRow)) s
abbrev sZ:Shared:=⟨hZ w.params,Array.mk [],{},574,os⟩
theorem lk0:seen (List.map (fun x=>x.name) (recsOf view)) (ownsOf view) [] { heap:=(sZ w os).heap,drawn:={},toks:=(sZ w os).toks,os:=os }=(openGood view []).1:=by kernel_rfl
theorem lk1:(sZ w os).heap.bltView=(openGood view []).2.1:=by kernel_rfl
theorem lk2:((sZ w os).heap.keysOk (looseW view []) (List.map (fun x=>x.name) (recsOf view)) (List.map (fun x=>x.fst) (litsOf view)) (List.map (fun x=>x.name) (clssOf view (looseW view []))) && (sZ w os).heap.accountedOkI (importedModules hp.main.body) && (sZ w os).heap.isNs mainGlobals && (sZ w os).heap.isNs builtinsNs && tablesOk view (sZ w os).heap && xt (sZ w os) && if true=true then (sZ w os).gens.size == 0 else !leftWithCleanup (sZ w os).gens)=(openGood view []).2.2.1:=by kernel_rfl
theorem lk3:tabsOk view (sZ w os)=(openGood view []).2.2.2.1:=by kernel_rfl
theorem lk4:pinSeenD view (drecsOf view) (sZ w os)=(openGood view []).2.2.2.2.1:=by kernel_rfl
theorem lk5:plainSeenE view (looseW view []) (sZ w os)=(openGood view []).2.2.2.2.2.1:=by kernel_rfl
theorem lk6:plainSeenD view [] (sZ w os)=(openGood view []).2.2.2.2.2.2.1:=by kernel_rfl
theorem lk7:wideSeen view (sZ w os)=(openGood view []).2.2.2.2.2.2.2.1:=by kernel_rfl
theorem lk8:clsSeenW view [] (sZ w os)=(openGood view []).2.2.2.2.2.2.2.2:=by kernel_rfl
theorem pr2 {α β:Type}{a:α}{b:β}{p:α×β}(h:a=p.1)(k:b=p.2):(a,b)=p:=Prod.ext h k
theorem lk:openSeen view [] (importedModules hp.main.body) xt true (sZ w os)=openGood view []:=pr2 (lk0 w os) (pr2 (lk1 w os) (pr2 (lk2 w os) (pr2 (lk3 w os) (pr2 (lk4 w os) (pr2 (lk5 w os) (pr2 (lk6 w os) (pr2 (lk7 w os) (lk8 w os))))))))
theorem lkA:(staticsOk (importedModules hp.main.body) (boot_heap w.params) (sZ w os).heap && namesBound hp (sZ w os).heap && gensDone (sZ w os) && laidKept (boot_heap w.params) (sZ w os).heap)=true:=by kernel_rfl
end
end K16
open PySem PySem.W PyProof.Rows
local macro_rules | `(tactic| o_head $H)=>`(tactic| (
  refine holds_open (r:=K16.theRow) (q:=K16.view) (loose:=[]) (N:=4374) (YP:=Hook.says $H) (Ya:=Hook.val $H) (Yf:=Hook.obs $H)
    (XP:=XL K16.view []) (Xt:=K16.xt) ?left (Hook.of $H) (Hook.keeps $H)
    (fun s e=>xl_of s (Bool.and_eq_true_iff.mp e).1) XL.keeps (by rfl) (by rfl) (by rfl)
    (fun s e=>recFacts_of (Bool.and_eq_true_iff.mp e).2) (by rfl) (by assumption) (by decide +kernel) ⟨rfl,rfl,rfl,rfl,rfl,by decide +kernel⟩ ?wit ?go
  (case left=>(refine LeftO.of_pieces (p:=K16.Hd.hp) (q:=K16.view) (loose:=[]) (Xt:=K16.xt) (g0:=true) (H₀:=boot_heap) (H₁:=K16.Hd.hZ) (gs₀:=Array.mk []) (gs₁:=Array.mk []) (d₀:=boot_drawn) (d₁:={}) (k₀:=boot_toks) (k₁:=574) (m₀:=11) (ann:=K16.Hd.hAnn) (M:=K16.Hd.hM) K16.Hd.opn K16.Hd.siz K16.Hd.run (by decide) ?looks; (case looks=>(intro w; refine funext fun os=>K16.pr2 (K16.lkA w os) (K16.pr2 (K16.lk w os) ?_); kernel_rfl))))
  (case wit=>w_witness2)))
set_option maxRecDepth 100000 in
set_option maxHeartbeats 0 in
theorem PySem.Challenge.cw_sieve_k16_rows_refused_holds : PySem.Challenge.rw_sieve_k16_rows_refused.Holds := by
  w_on; o_law; k_head
  k_fill
  refine K16.walk (l:=PySem.Challenge.rw_sieve_k16_rows_refused) rfl rfl (fun w h Y=>PySem.W.km_in_of Y) (by kernel_rfl) ?F
  case F =>
    intro w mg fa h KX G hmg
    refine' K16.asm hmg ?D0 ?D1 ?D2 ?D3 ?D4 ?D5 ?D6 ?D7 ?D8 ?D9 ?D10 ?D11 ?D12 ?D13 ?D14 ?D15 ?D16 ?D17 ?D18 ?D19 ?D20 ?D21 ?D22 ?D23 ?D24 ?D25 ?D26 ?c0 ?c1 ?c2 ?c3 ?c4 ?c5 ?c6 ?c7 ?c8 ?c9 ?c10 ?c11 ?c12 ?c13 ?b0 ?b1 ?b2 ?b3 ?b4 ?b5 ?b6 ?b7 ?b8 ?b9 ?b10 ?b11 ?b12 ?m0 ?m1 ?m2 ?m3 ?m4 ?f0 ?f1 ?f2 ?f3 ?f4 ?f5 ?f6 ?f7 ?f8 ?f9 ?f10 ?f11 ?f12 ?f13 ?f14 ?f15 ?f16 ?f17 ?f18 ?f19 ?f20 ?f21 ?f22 ?f23 ?x0
    case D0=>(refine' Sv.mk_def KX G ?a ?l ?c ?k); (case a=>k_is); (case l=>k_is); (case c=>k_is); (case k=>k_is)
    case D1=>(refine' Sv.mk_def KX G ?a ?l ?c ?k); (case a=>k_is); (case l=>k_is); (case c=>k_is); (case k=>k_is)
    case D2=>(refine' Sv.mk_def KX G ?a ?l ?c ?k); (case a=>k_is); (case l=>k_is); (case c=>k_is); (case k=>k_is)
    case D3=>(refine' Sv.mk_def KX G ?a ?l ?c ?k); (case a=>k_is); (case l=>k_is); (case c=>k_is); (case k=>k_is)
    case D4=>(refine' Sv.mk_def KX G ?a ?l ?c ?k); (case a=>k_is); (case l=>k_is); (case c=>k_is); (case k=>k_is)
    case D5=>(refine' Sv.mk_def KX G ?a ?l ?c ?k); (case a=>k_is); (case l=>k_is); (case c=>k_is); (case k=>k_is)
    case D6=>(refine' Sv.mk_def KX G ?a ?l ?c ?k); (case a=>k_is); (case l=>k_is); (case c=>k_is); (case k=>k_is)
    case D7=>(refine' Sv.mk_def KX G ?a ?l ?c ?k); (case a=>k_is); (case l=>k_is); (case c=>k_is); (case k=>k_is)
    case D8=>(refine' Sv.mk_def KX G ?a ?l ?c ?k); (case a=>k_is); (case l=>k_is); (case c=>k_is); (case k=>k_is)
    case D9=>(refine' K16.mk_defT KX G ?a ?l ?c ?k ?lc ?no ?ne); (case a=>k_is); (case l=>k_is); (case c=>k_is); (case k=>k_is); (case lc=>k_is); (case no=>first | k_is | kernel_rfl); (case ne=>decide)
    case D10=>(refine' Sv.mk_def KX G ?a ?l ?c ?k); (case a=>k_is); (case l=>k_is); (case c=>k_is); (case k=>k_is)
    case D11=>(refine' Sv.mk_def KX G ?a ?l ?c ?k); (case a=>k_is); (case l=>k_is); (case c=>k_is); (case k=>k_is)
    case D12=>(refine' Sv.mk_def KX G ?a ?l ?c ?k); (case a=>k_is); (case l=>k_is); (case c=>k_is); (case k=>k_is)
    case D13=>(refine' Sv.mk_def KX G ?a ?l ?c ?k); (case a=>k_is); (case l=>k_is); (case c=>k_is); (case k=>k_is)
    case D14=>(refine' Sv.mk_def KX G ?a ?l ?c ?k); (case a=>k_is); (case l=>k_is); (case c=>k_is); (case k=>k_is)
    case D15=>(refine' Sv.mk_def KX G ?a ?l ?c ?k); (case a=>k_is); (case l=>k_is); (case c=>k_is); (case k=>k_is)
    case D16=>(refine' Sv.mk_def KX G ?a ?l ?c ?k); (case a=>k_is); (case l=>k_is); (case c=>k_is); (case k=>k_is)
    case D17=>(refine' Sv.mk_def KX G ?a ?l ?c ?k); (case a=>k_is); (case l=>k_is); (case c=>k_is); (case k=>k_is)
    case D18=>(refine' Sv.mk_def KX G ?a ?l ?c ?k); (case a=>k_is); (case l=>k_is); (case c=>k_is); (case k=>k_is)
    case D19=>(refine' Sv.mk_def KX G ?a ?l ?c ?k); (case a=>k_is); (case l=>k_is); (case c=>k_is); (case k=>k_is)
    case D20=>(refine' Sv.mk_def KX G ?a ?l ?c ?k); (case a=>k_is); (case l=>k_is); (case c=>k_is); (case k=>k_is)
    case D21=>(refine' Sv.mk_def KX G ?a ?l ?c ?k); (case a=>k_is); (case l=>k_is); (case c=>k_is); (case k=>k_is)
    case D22=>(refine' Sv.mk_def KX G ?a ?l ?c ?k); (case a=>k_is); (case l=>k_is); (case c=>k_is); (case k=>k_is)
    case D23=>(refine' Sv.mk_def KX G ?a ?l ?c ?k); (case a=>k_is); (case l=>k_is); (case c=>k_is); (case k=>k_is)
    case D24=>(refine' Sv.mk_def KX G ?a ?l ?c ?k); (case a=>k_is); (case l=>k_is); (case c=>k_is); (case k=>k_is)
    case D25=>(refine' Sv.mk_def KX G ?a ?l ?c ?k); (case a=>k_is); (case l=>k_is); (case c=>k_is); (case k=>k_is)
    case D26=>(refine' Sv.mk_def KX G ?a ?l ?c ?k); (case a=>k_is); (case l=>k_is); (case c=>k_is); (case k=>k_is)
    case c0=>(refine' ⟨_,PySem.W.mg_of KX G ?a,?r⟩); (case a=>k_is); (case r=>exact ⟨_,rfl⟩)
    case c1=>(refine' ⟨_,PySem.W.mg_of KX G ?a,?r⟩); (case a=>k_is); (case r=>exact ⟨_,rfl⟩)
    case c2=>(refine' ⟨_,PySem.W.mg_of KX G ?a,?r⟩); (case a=>k_is); (case r=>exact ⟨_,rfl⟩)
    case c3=>(refine' ⟨_,PySem.W.mg_of KX G ?a,?r⟩); (case a=>k_is); (case r=>exact ⟨_,rfl⟩)
    case c4=>(refine' ⟨_,PySem.W.mg_of KX G ?a,?r⟩); (case a=>k_is); (case r=>exact ⟨_,rfl⟩)
    case c5=>(refine' ⟨_,PySem.W.mg_of KX G ?a,?r⟩); (case a=>k_is); (case r=>exact ⟨_,rfl⟩)
    case c6=>(refine' ⟨_,PySem.W.mg_of KX G ?a,?r⟩); (case a=>k_is); (case r=>exact ⟨_,rfl⟩)
    case c7=>(refine' ⟨_,PySem.W.mg_of KX G ?a,?r⟩); (case a=>k_is); (case r=>exact ⟨_,rfl⟩)
    case c8=>(refine' ⟨_,PySem.W.mg_of KX G ?a,?r⟩); (case a=>k_is); (case r=>exact ⟨_,rfl⟩)
    case c9=>(refine' Sv.mk_tup KX G ?a ?l ?z ?v); (case a=>k_is); (case l=>k_is); (case z=>decide); (case v=>exact (.cons ⟨_,rfl⟩ (.cons ⟨_,rfl⟩ (.cons ⟨_,rfl⟩ (.cons ⟨_,rfl⟩ (.cons ⟨_,rfl⟩ (.cons ⟨_,rfl⟩ .nil)))))))
    case c10=>(refine' Sv.mk_tup KX G ?a ?l ?z ?v); (case a=>k_is); (case l=>k_is); (case z=>decide); (case v=>exact (.cons ⟨_,rfl⟩ (.cons ⟨_,rfl⟩ .nil)))
    case c11=>(refine' Sv.mk_tup KX G ?a ?l ?z ?v); (case a=>k_is); (case l=>k_is); (case z=>decide); (case v=>exact (.cons ⟨_,rfl⟩ (.cons ⟨_,rfl⟩ (.cons ⟨_,rfl⟩ .nil))))
    case c12=>(refine' ⟨_,PySem.W.mg_of KX G ?a,?r⟩); (case a=>k_is); (case r=>exact ⟨_,rfl⟩)
    case c13=>(refine' ⟨_,PySem.W.mg_of KX G ?a,?r⟩); (case a=>k_is); (case r=>exact ⟨_,rfl⟩)
    case b0=>(refine' PySem.W.mg_none_of KX G ?a); (case a=>k_is)
    case b1=>(refine' PySem.W.mg_none_of KX G ?a); (case a=>k_is)
    case b2=>(refine' PySem.W.mg_none_of KX G ?a); (case a=>k_is)
    case b3=>(refine' PySem.W.mg_none_of KX G ?a); (case a=>k_is)
    case b4=>(refine' PySem.W.mg_none_of KX G ?a); (case a=>k_is)
    case b5=>(refine' PySem.W.mg_none_of KX G ?a); (case a=>k_is)
    case b6=>(refine' PySem.W.mg_none_of KX G ?a); (case a=>k_is)
    case b7=>(refine' PySem.W.mg_none_of KX G ?a); (case a=>k_is)
    case b8=>(refine' PySem.W.mg_none_of KX G ?a); (case a=>k_is)
    case b9=>(refine' PySem.W.mg_none_of KX G ?a); (case a=>k_is)
    case b10=>(refine' PySem.W.mg_none_of KX G ?a); (case a=>k_is)
    case b11=>(refine' PySem.W.mg_none_of KX G ?a); (case a=>k_is)
    case b12=>(refine' PySem.W.mg_none_of KX G ?a); (case a=>k_is)
    case m0=>(refine' PySem.W.mg_of KX G ?a); (case a=>k_is)
    case m1=>(refine' PySem.W.mg_of KX G ?a); (case a=>k_is)
    case m2=>(refine' PySem.W.mg_of KX G ?a); (case a=>k_is)
    case m3=>(refine' PySem.W.mg_of KX G ?a); (case a=>k_is)
    case m4=>(refine' PySem.W.mg_of KX G ?a); (case a=>k_is)
    case f0=>(constructor <;> first | k_is | kernel_rfl)
    case f1=>k_is
    case f2=>k_exc
    case f3=>k_is
    case f4=>k_is
    case f5=>k_is
    case f6=>(constructor <;> first | k_is | kernel_rfl)
    case f7=>k_is
    case f8=>(constructor <;> first | k_is | kernel_rfl)
    case f9=>(constructor <;> first | k_is | kernel_rfl)
    case f10=>k_is
    case f11=>k_is
    case f12=>k_is
    case f13=>k_is
    case f14=>k_is
    case f15=>k_is
    case f16=>k_is
    case f17=>k_is
    case f18=>k_is
    case f19=>kit_is
    case f20=>kit_is
    case f21=>kit_is
    case f22=>kit_is
    case f23=>kit_is
    case x0=>(refine' Sv.mk_xdef KX G ?a ?lk ?tl ?ns ?ini ?l ?c ?k); (case a=>k_is); (case lk=>k_is); (case tl=>kernel_rfl); (case ns=>kernel_rfl); (case ini=>k_is); (case l=>k_is); (case c=>k_is); (case k=>k_is)
