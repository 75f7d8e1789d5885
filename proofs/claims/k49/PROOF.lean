import PyProof.Rows.All
import PyProof.ExcArgs
import PyProof.FitsBits
import Wide.All
import OpenK.AllK
import Wide.FinOn
import Lean
import PyProof.EqAt
import PyProof.EqKinds
import PyProof.TupleCall
import PyProof.NeData
import PyProof.ZipIter
import PyProof.EnumMake
import KE.BitLaws
import KE.IntBitsLaws
import KE.KIntText
import KE.IntTextLaws
import PyProof.ExcClass3
import PyProof.ExcInit
import PyProof.InstStoreFacts
import PyProof.DictWalks
import KE.KDictList
import PyProof.Rows.SumAny
import PyProof.StrBlockI
import PyProof.SliceStr2
import KE.KRevIter
import PyProof.Rows.GenSrcRange
import PyProof.ListRange
import PyProof.AutoSeq1
import PyProof.ReprHeadsTuple
import PyProof.StrBlock2
import PySem.Challenge.RW_sieve_k49_parcels_at_a_gate
set_option Elab.async false
set_option linter.all false
set_option maxRecDepth 100000
-- CHANGE: your row's module here,as the last of these rows
/- signs: qa = pa_cons, qb = pss_cons, qc = pe_int, qd0 = pa_nil, qe = upd_same, qf = pss_one, qg = defScope, qh = same_new, qi = pe_ix, qj = FnScope, qk = look_skip, ql = ps_set, qm = ix_tup, qn0 = pg_name, qo = pe_tup, qp = ix_list, qq0 = ps_ret, qr0 = pointD_shaped, qs0 = pe_op, qt = seq_hid, qu0 = upd_ne, qv = pt_cmpR, qw = pss_nil, qx0 = pe_fld, qy0 = ne_of_none, qz0 = hasKey, qa1 = nomark, qb1 = pgs_cons, qc1 = inClass, qd1 = start, qe1 = ixL_go, qf1 = op_mod, qg1 = callsOf, qh1 = pe_callB, qi1 = pe_lst, qj1 = pe_fn, qk1 = depthAll_of, ql1 = put_skip, qm1 = turnOf, qn1 = fin_bl, qo1 = ps_if, qp1 = bool_eq_dec, qq1 = pe_methA, qr1 = pe_str, qs1 = small1000, qt1 = freeOf, qu1 = keyIs_shape, qv1 = r6s_same, qw1 = ps_expr, qx1 = point_eqv, qy1 = op_divW, qz1 = mod_in, qa2 = ps_fld, qb2 = canLayAll_of, qc2 = sfld_new, qd2 = pi_list, qe2 = hv_same, qf2 = op_add, qg2 = hv_low, qh2 = defBody -/
namespace L2
open PySem PySem.Spec PyProof.Rows
abbrev Key:=Sum Int Str
def keyIs:Key→Value→Bool
  | .inl k,v=>Value.isInt k v
  | .inr x,v=>Value.isStrOf x v
def keyH (w:World):Key→Int
  | .inl k=>hashInt k
  | .inr x=>hashStr w x
theorem qu1:∀ {k:Key} {v:Value},keyIs k v=true→(∃ i t,k=Sum.inl i∧v=Value.int i t)∨(∃ x t,k=Sum.inr x∧v=Value.str x t)
  | .inl i,v,h=>by
    obtain ⟨t,e⟩:=Value.isInt_shape (k:=i) (v:=v) h
    exact .inl ⟨i,t,rfl,e⟩
  | .inr x,v,h=>by
    obtain ⟨t,e⟩:=Value.isStrOf_shape (x:=x) (v:=v) h
    exact .inr ⟨x,t,rfl,e⟩
theorem keyIs_int (i:Int)(t:Tok):keyIs (.inl i) (.int i t)=true:=by simp [keyIs,Value.isInt]
theorem keyIs_str (x:Str)(t:Tok):keyIs (.inr x) (.str x t)=true:=by simp [keyIs,Value.isStrOf]
theorem key_ll (a b:Int):decide ((Sum.inl a:Key)=Sum.inl b)=(a == b):=by
  by_cases e:a=b
  · subst e; simp
  · have h:¬ (Sum.inl a:Key)=Sum.inl b:=fun q=>e (Sum.inl.inj q)
    rw [decide_eq_false h]
    exact (beq_eq_false_iff_ne.mpr e).symm
theorem key_rr (a b:Str):decide ((Sum.inr a:Key)=Sum.inr b)=decide (a=b):=by
  by_cases e:a=b
  · subst e; simp
  · have h:¬ (Sum.inr a:Key)=Sum.inr b:=fun q=>e (Sum.inr.inj q)
    rw [decide_eq_false h,decide_eq_false e]
theorem key_lr (a:Int)(b:Str):decide ((Sum.inl a:Key)=Sum.inr b)=false:=decide_eq_false (fun q=>nomatch q)
theorem key_rl (a:Str)(b:Int):decide ((Sum.inr a:Key)=Sum.inl b)=false:=decide_eq_false (fun q=>nomatch q)
def mixKind (prog:Program)(w:World):PySem.KeyKind prog w Key where
  is:=keyIs
  hash:=keyH w
  inj:=fun v a b ha hb=>by
    rcases qu1 ha with ⟨i,t,rfl,rfl⟩ | ⟨x,t,rfl,rfl⟩
    · rcases qu1 hb with ⟨j,u,rfl,e⟩ | ⟨y,u,rfl,e⟩
      · injection e with e1 _; rw [e1]
      · exact nomatch e
    · rcases qu1 hb with ⟨j,u,rfl,e⟩ | ⟨y,u,rfl,e⟩
      · exact nomatch e
      · injection e with e1 _; rw [e1]
  byValue:=fun k v h=>by
    rcases qu1 h with ⟨i,t,rfl,rfl⟩ | ⟨x,t,rfl,rfl⟩ <;> rfl
  pyHash:=fun hv h=>by
    rcases qu1 hv with ⟨i,t,rfl,rfl⟩ | ⟨x,t,rfl,rfl⟩
    · exact wpAny_pyHash_int h
    · exact wpAny_pyHash_str h
  eqBool:=fun hu hv h=>by
    rcases qu1 hu with ⟨i,t,rfl,rfl⟩ | ⟨x,t,rfl,rfl⟩
    · rcases qu1 hv with ⟨j,u,rfl,rfl⟩ | ⟨y,u,rfl,rfl⟩
      · rw [key_ll] at h; exact wpAny_eqBool_int h
      · rw [key_lr] at h; exact SeqAt.EqAt.int_str i t y u _ _ _ _ h
    · rcases qu1 hv with ⟨j,u,rfl,rfl⟩ | ⟨y,u,rfl,rfl⟩
      · rw [key_rl] at h; exact SeqAt.EqAt.str_int x t j u _ _ _ _ h
      · rw [key_rr] at h; exact wpAny_eqBool_str h
  «strs»:=fun k x t v h=>by
    rcases qu1 h with ⟨i,u,rfl,e⟩ | ⟨y,u,rfl,e⟩
    · exact nomatch e
    · injection e with e1 _
      subst e1
      cases v <;> rfl
theorem mixKind_is (prog:Program)(w:World)(k:Key)(v:Value):(mixKind prog w).is k v=keyIs k v:=rfl
theorem mixKind_int (prog:Program)(w:World)(i:Int)(t:Tok):(mixKind prog w).is (.inl i) (.int i t)=true:=keyIs_int i t
theorem mixKind_str (prog:Program)(w:World)(x:Str)(t:Tok):(mixKind prog w).is (.inr x) (.str x t)=true:=keyIs_str x t
end L2
namespace L2
open PySem PySem.Spec PyProof.Rows
inductive V where
  | non | bl (b:Bool) | int (i:Int) | str (x:Str) | byt (b:Array UInt8) | flt (b:UInt64) | ref (a:Addr) | ty (n:String)
  deriving DecidableEq
def RelV:V→Value→Prop
  | .non,u=>u=Value.none
  | .bl b,u=>u=Value.bool b
  | .int i,u=>∃ t,u=Value.int i t
  | .str x,u=>∃ t,u=Value.str x t
  | .byt b,u=>∃ t,u=Value.bytes b t
  | .flt b,u=>∃ t,u=Value.float b t
  | .ref a,u=>u=Value.ref a
  | .ty n,u=>u=Value.type n
abbrev Vals:List V→List Value→Prop:=Paired RelV
theorem Vals.length {xs:List V}{us:List Value}(r:Vals xs us):xs.length=us.length:=Paired.length r
theorem Vals.get:∀ {xs:List V} {us:List Value} {i:Nat} {x:V},Vals xs us→xs[i]?=some x→∃ u,us[i]?=some u∧RelV x u
  | _,_,_,_,.nil,e=>by simp at e
  | _,_,0,_,.cons r _,e=>by simp at e; subst e; exact ⟨_,rfl,r⟩
  | _,_,i+1,x,.cons _ t,e=>by
    obtain ⟨u,h1,h2⟩:=Vals.get (i:=i) (x:=x) t (by simpa using e)
    exact ⟨u,by simpa using h1,h2⟩
theorem Vals.append:∀ {xs ys:List V} {us ws:List Value},Vals xs us→Vals ys ws→Vals (xs++ys) (us++ws)
  | _,_,_,_,.nil,s=>s
  | _,_,_,_,.cons r t,s=>.cons r (Vals.append t s)
theorem Vals.take:∀ {xs:List V} {us:List Value} (n:Nat),Vals xs us→Vals (xs.take n) (us.take n)
  | _,_,0,_=>.nil
  | _,_,_+1,.nil=>.nil
  | _,_,n+1,.cons r t=>.cons r (Vals.take n t)
theorem Vals.drop:∀ {xs:List V} {us:List Value} (n:Nat),Vals xs us→Vals (xs.drop n) (us.drop n)
  | _,_,0,r=>r
  | _,_,_+1,.nil=>.nil
  | _,_,n+1,.cons _ t=>Vals.drop n t
def RelO:Option V→Option Value→Prop
  | some v,some u=>RelV v u
  | none,none=>True
  | _,_=>False
def KV {κ:Type}:List (κ×V)→List (κ×Value)→Prop:=Paired fun (p:κ×V) (q:κ×Value)=>p.1=q.1∧RelV p.2 q.2
def kV:Key→V
  | .inl i=>.int i
  | .inr x=>.str x
inductive HO where
  | lst (xs:List V)
  | tup (xs:List V)
  | dK (kvs:List (Key×V)) | dT (kvs:List (List Key×V))
  | set (S:Int→Bool) (n:Nat)
  | ins (C dx:Addr) (fs:List (Str×V))
  | own (x:Addr)
  | xd (fs:List (Str×V))
  | met (f x:Addr)
  | rng (lo hi:Int)
  | frz (o:Obj) (u:HO)
  | tbl (ps:Array Value)
  | ext (φ:Heap→Prop)
abbrev Hp:=Addr→Option HO
def upd (H:Hp)(a:Addr)(o:HO):Hp:=fun b=>if b=a then some o else H b
theorem qe {H:Hp}{a:Addr}{o:HO}:upd H a o a=some o:=by unfold upd; rw [if_pos rfl]
theorem qu0 {H:Hp}{a b:Addr}{o:HO}(h:b≠a):upd H a o b=H b:=by unfold upd; rw [if_neg h]
theorem upd_upd {H:Hp}{a:Addr}{o u:HO}:upd (upd H a o) a u=upd H a u:=by
  funext b; unfold upd; split <;> rfl
theorem ne_of {H:Hp}{a b:Addr}{o u:HO}(h:H a=some o)(h':H b=some u)(d:o≠u):a≠b:=by
  intro e; subst e; rw [h] at h'; exact d (Option.some.inj h')
theorem qy0 {H:Hp}{a b:Addr}{o:HO}(h:H a=some o)(h':H b=none):a≠b:=by
  intro e; subst e; rw [h] at h'; cases h'
section
variable (P:Program)(w:World)
def ObjOk (H:Hp)(h:Heap)(a:Addr):HO→Prop
  | .lst xs=>xs.length≤sizeLine∧∃ (its:List Value) (n:Nat),Vals xs its∧h.get? a=some { cls:=.type "list",data:=.seq its.toArray n }
  | .tup xs=>xs.length≤sizeLine∧∃ its:List Value,Vals xs its∧IsTup h a its.toArray
  | .dK kvs=>kvs.length≤sizeLine∧(a == sysModules)=false∧∃ vs,KV kvs vs∧h.DictOf (mixKind P w) a vs
  | .dT kvs=>kvs.length≤sizeLine∧(a == sysModules)=false∧∃ xs:List (List Key×Addr×Value),
      Paired (fun (p:List Key×V) (q:List Key×Addr×Value)=>p.1=q.1∧H q.2.1=some (.tup (p.1.map kV))∧RelV p.2 q.2.2) kvs xs ∧
      ∃ o es ep,h.get? a=some o∧o.ExactDict∧o.data=.dict es ep∧es.toList=xs.map (entryOfKey (tupleKind (mixKind P w)))∧(xs.map (·.1)).Nodup
  | .set S n=>h.SetOf (intKind P w) a S n
  | .ins C dx fs=>H dx=some (.own a)∧fs.length≤1000∧dx≠a∧h.get? a=some (PySem.W.instObj C dx) ∧
      ∃ mA,h.Ns1 dx mA∧(∀ f,RelO (fs.lookup f) (mA f))∧PySem.Within mA (fs.map (·.1))
  | .own _=>∃ o,h.get? a=some o
  | .xd fs=>∃ mA,h.Ns1 a mA∧∀ f,RelO (fs.lookup f) (mA f)
  | .rng lo hi=>∃ t u v,h.get? a=some { cls:=.type "range",data:=.fields #[.int lo t,.int hi u,.int 1 v] }
  | .frz o u=>h.get? a=some o∧ObjOk H h a u
  | .tbl ps=>h.get? a=some { cls:=.none,data:=.fields ps }
  | .met f x=>h.get? a=some (PySem.W.methodObj (.ref f) (.ref x))
  | .ext φ=>φ h∧(∃ o,h.get? a=some o)∧∀ h1 h2:Heap,φ h1→(∀ o,h1.get? a=some o→h2.get? a=some o)→φ h2
def HOk (H:Hp)(h:Heap):Prop:=∀ a o,H a=some o→ObjOk P w H h a o
end
section
variable {P:Program}{w:World}{H H':Hp}{h h':Heap}{a:Addr}{o:HO}
theorem ObjOk.lt (x:ObjOk P w H h a o):a<h.objs.size:=by
  cases o with
  | lst xs=>obtain ⟨_,_,_,_,e⟩:=x; exact Heap.lt_size e
  | tup xs=>obtain ⟨_,_,_,p⟩:=x; exact p.lt
  | dK kvs=>obtain ⟨_,_,_,_,o,_,_,e,_⟩:=x; exact Heap.lt_size e
  | dT kvs=>obtain ⟨_,_,_,_,o,_,_,e,_⟩:=x; exact Heap.lt_size e
  | set S n=>obtain ⟨o,_,_,_,e,_⟩:=x; exact Heap.lt_size e
  | ins C dx fs=>obtain ⟨_,_,_,e,_⟩:=x; exact Heap.lt_size e
  | own y=>obtain ⟨_,e⟩:=x; exact Heap.lt_size e
  | xd fs=>obtain ⟨_,⟨_,_,_,e,_⟩,_⟩:=x; exact Heap.lt_size e
  | rng lo hi=>obtain ⟨_,_,_,e⟩:=x; exact Heap.lt_size e
  | frz ob u=>obtain ⟨e,_⟩:=x; exact Heap.lt_size e
  | tbl ps=>exact Heap.lt_size (show h.get? a=some _ from x)
  | met f y=>exact Heap.lt_size (show h.get? a=some _ from x)
  | ext φ=>obtain ⟨_,⟨_,e⟩,_⟩:=x; exact Heap.lt_size e
theorem Paired.mapP {α β:Type}{F G:α→β→Prop}:∀ {l₁:List α} {l₂:List β},Paired F l₁ l₂→(∀ a b,F a b→G a b)→Paired G l₁ l₂
  | _,_,.nil,_=>.nil
  | _,_,.cons r t,f=>.cons (f _ _ r) (Paired.mapP t f)
theorem ObjOk.stay (x:ObjOk P w H h a o)(k:∀ b u,(b=a∨H b=some (.own a))→h.get? b=some u→h'.get? b=some u)
    (ho:∀ b,H b=some (.own a)→H' b=some (.own a)) (ht:∀ b xs,H b=some (.tup xs)→H' b=some (.tup xs)):ObjOk P w H' h' a o:=by
  induction o with
  | lst xs=>obtain ⟨z,its,n,r,e⟩:=x; exact ⟨z,its,n,r,k _ _ (.inl rfl) e⟩
  | tup xs=>obtain ⟨z,its,r,ob,e,c⟩:=x; exact ⟨z,its,r,ob,k _ _ (.inl rfl) e,c⟩
  | dK kvs=>obtain ⟨z,y,vs,r,ob,es,ep,e,c⟩:=x; exact ⟨z,y,vs,r,ob,es,ep,k _ _ (.inl rfl) e,c⟩
  | dT kvs =>
    obtain ⟨z,y,xs,r,ob,es,ep,e,c⟩:=x
    exact ⟨z,y,xs,Paired.mapP r fun p q z=>⟨z.1,ht _ _ z.2.1,z.2.2⟩,ob,es,ep,k _ _ (.inl rfl) e,c⟩
  | set S n=>obtain ⟨ob,es,ep,t,e,c⟩:=x; exact ⟨ob,es,ep,t,k _ _ (.inl rfl) e,c⟩
  | ins C dx fs =>
    obtain ⟨d,z,ne,e,mA,⟨od,es,ep,e2,c⟩,r⟩:=x
    exact ⟨ho _ d,z,ne,k _ _ (.inl rfl) e,mA,⟨od,es,ep,k _ _ (.inr d) e2,c⟩,r⟩
  | own y=>obtain ⟨ob,e⟩:=x; exact ⟨ob,k _ _ (.inl rfl) e⟩
  | xd fs=>obtain ⟨mA,⟨od,es,ep,e,c⟩,r⟩:=x; exact ⟨mA,⟨od,es,ep,k _ _ (.inl rfl) e,c⟩,r⟩
  | rng lo hi=>obtain ⟨t,u,v,e⟩:=x; exact ⟨t,u,v,k _ _ (.inl rfl) e⟩
  | frz ob u ih=>obtain ⟨e,q⟩:=x; exact ⟨k _ _ (.inl rfl) e,ih q⟩
  | tbl ps =>
    have e:h.get? a=some { cls:=.none,data:=.fields ps }:=x
    show h'.get? a=some { cls:=.none,data:=.fields ps }
    exact k a _ (.inl rfl) e
  | met f y =>
    have e:h.get? a=some (PySem.W.methodObj (.ref f) (.ref y)):=x
    show h'.get? a=some (PySem.W.methodObj (.ref f) (.ref y))
    exact k a _ (.inl rfl) e
  | ext φ=>obtain ⟨p,⟨o,e⟩,st⟩:=x; exact ⟨st _ _ p fun o q=>k _ _ (.inl rfl) q,⟨o,k _ _ (.inl rfl) e⟩,st⟩
theorem HOk.lt (x:HOk P w H h)(e:H a=some o):a<h.objs.size:=(x a o e).lt
theorem HOk.fresh (x:HOk P w H h)(e:h.objs.size≤a):H a=none:=by
  cases q:H a with
  | none=>rfl
  | some u=>exact absurd (Nat.lt_of_lt_of_le (x.lt q) e) (Nat.lt_irrefl _)
theorem HOk.kept (x:HOk P w H h)(k:∀ b u,h.get? b=some u→h'.get? b=some u):HOk P w H h':=fun a o e =>
  (x a o e).stay (fun b u _ q=>k b u q) (fun _ q=>q) fun _ _ q=>q
theorem HOk.laid (x:HOk P w H h)(k:∀ b u,h.get? b=some u→h'.get? b=some u)(hp:h.objs.size≤a)(new:ObjOk P w (upd H a o) h' a o):HOk P w (upd H a o) h':=fun b u e=>by
  have hn:=x.fresh hp
  by_cases hb:b=a
  · subst hb; rw [qe] at e; cases e; exact new
  · rw [qu0 hb] at e
    exact (x b u e).stay (fun c v _ q=>k c v q) (fun c q=>by rw [qu0 (qy0 q hn)]; exact q) fun c xs q=>by rw [qu0 (qy0 q hn)]; exact q
end
def Rd (H:Hp)(a:Addr)(u:HO):Prop:=H a=some u∨∃ o,H a=some (.frz o u)
theorem Rd.of {H:Hp}{a:Addr}{u:HO}(h:H a=some u):Rd H a u:=.inl h
theorem Rd.ok {P:Program}{w:World}{H:Hp}{h:Heap}{a:Addr}{u:HO}(r:Rd H a u)(x:HOk P w H h):ObjOk P w H h a u:=by
  rcases r with r | ⟨o,r⟩
  · exact x a u r
  · obtain ⟨_,q⟩:=x a _ r
    exact q
def Mut:Option HO→Prop
  | some (.lst _)=>True
  | some (.dK _)=>True
  | some (.dT _)=>True
  | some (.set _ _)=>True
  | some (.ins _ _ _)=>True
  | some (.ext _)=>True
  | _=>False
section
variable {P:Program}{w:World}{H:Hp}{h h':Heap}{x e:Addr}{o':HO}
theorem HOk.write (ok:HOk P w H h)(mu:Mut (H x))(he:e=x∨H e=some (.own x))(k:∀ b u,b≠e→h.get? b=some u→h'.get? b=some u)(heo:∃ u,h'.get? e=some u)
    (new:ObjOk P w (upd H x o') h' x o'):HOk P w (upd H x o') h':=fun b u q=>by
  have nown:∀ c y,H c=some (.own y)→c≠x:=fun c y r z=>by subst z; rw [r] at mu; exact mu
  have ntup:∀ c xs,H c=some (.tup xs)→c≠x:=fun c xs r z=>by subst z; rw [r] at mu; exact mu
  by_cases hb:b=x
  · subst hb; rw [qe] at q; cases q; exact new
  · rw [qu0 hb] at q
    by_cases hbe:b=e
    · have q':H b=some (.own x):=by
        rcases he with z | z
        · exact absurd (hbe.trans z) hb
        · rw [hbe]; exact z
      rw [q] at q'; cases q'
      obtain ⟨v,hv⟩:=heo
      exact ⟨v,by rw [hbe]; exact hv⟩
    · refine (ok b u q).stay (fun c v hc r=>k c v ?_ r) (fun c r=>by rw [qu0 (nown c b r)]; exact r) fun c xs r=>by rw [qu0 (ntup c xs r)]; exact r
      rcases hc with rfl | hc
      · exact hbe
      · rintro rfl
        rcases he with z | z
        · exact nown c b hc z
        · rw [hc] at z; cases z; exact hb rfl
end
structure Un (fs ex:List Addr)(H H':Hp)(h h':Heap):Prop where
  keep:∀ b o,h.get? b=some o→H b=none→b∉fs→b∉ex→h'.get? b=some o
  slot:∀ b o,h.get? b=some o→H b=none→b∈fs→b∉ex→∃ sl,h'.get? b=some { o with slots:=sl }
  free:∀ b o,h.get? b=some o→H b=none→b∉ex→H' b=none
  there:∀ b o,h.get? b=some o→b∉ex→∃ o',h'.get? b=some o'
  tups:∀ b xs,H b=some (.tup xs)→H' b=some (.tup xs)
  frzs:∀ b o u,H b=some (.frz o u)→H' b=some (.frz o u)
  tbls:∀ b ps,H b=some (.tbl ps)→∃ more,H' b=some (.tbl (ps++more))
section
variable {fs fs' ex ex':List Addr}{H H1 H2:Hp}{h h1 h2 h':Heap}{a x e:Addr}{o:HO}
theorem Un.any (u:Un fs ex H H1 h h1){b:Addr}{ob:Obj}(q:h.get? b=some ob)(n:H b=none)(hx:b∉ex):∃ sl,h1.get? b=some { ob with slots:=sl }:=by
  by_cases hb:b∈fs
  · exact u.slot b ob q n hb hx
  · exact ⟨ob.slots,u.keep b ob q n hb hx⟩
theorem Un.trans (a:Un fs ex H H1 h h1)(b:Un fs ex H1 H2 h1 h2):Un fs ex H H2 h h2 where
  keep:=fun c ob q n hc hx=>b.keep c ob (a.keep c ob q n hc hx) (a.free c ob q n hx) hc hx
  slot:=fun c ob q n hc hx=>by
    obtain ⟨sl,e1⟩:=a.slot c ob q n hc hx
    obtain ⟨sl',e2⟩:=b.slot c _ e1 (a.free c ob q n hx) hc hx
    exact ⟨sl',e2⟩
  free:=fun c ob q n hx=>by
    obtain ⟨o',e1⟩:=a.there c ob q hx
    exact b.free c o' e1 (a.free c ob q n hx) hx
  there:=fun c ob q hx=>by
    obtain ⟨o',e1⟩:=a.there c ob q hx
    exact b.there c o' e1 hx
  tups:=fun c xs q=>b.tups c xs (a.tups c xs q)
  frzs:=fun c ob xs q=>b.frzs c ob xs (a.frzs c ob xs q)
  tbls:=fun c ps q=>by
    obtain ⟨m1,e1⟩:=a.tbls c ps q
    obtain ⟨m2,e2⟩:=b.tbls c _ e1
    exact ⟨m1++m2,by rw [e2,Array.append_assoc]⟩
theorem Un.kept (k:∀ b u,h.get? b=some u→h'.get? b=some u):Un fs ex H H h h' :=
  ⟨fun b ob q _ _ _=>k b ob q,fun b ob q _ _ _=>⟨ob.slots,k b ob q⟩,fun _ _ _ n _=>n,fun b ob q _=>⟨ob,k b ob q⟩,fun _ _ q=>q,fun _ _ _ q=>q,fun _ ps q=>⟨#[],by rw [q]; simp⟩⟩
theorem Un.refl:Un fs ex H H h h:=Un.kept fun _ _ q=>q
theorem Un.laid (k:∀ b u,h.get? b=some u→h'.get? b=some u)(hp:h.objs.size≤a)(hn:H a=none):Un fs ex H (upd H a o) h h' where
  keep:=fun b u q _ _ _=>k b u q
  slot:=fun b u q _ _ _=>⟨u.slots,k b u q⟩
  free:=fun b u q n _=>by rw [qu0 (Nat.ne_of_lt (Nat.lt_of_lt_of_le (Heap.lt_size q) hp))]; exact n
  there:=fun b u q _=>⟨u,k b u q⟩
  tups:=fun b xs q=>by rw [qu0 (qy0 q hn)]; exact q
  frzs:=fun b u xs q=>by rw [qu0 (qy0 q hn)]; exact q
  tbls:=fun b ps q=>⟨#[],by rw [qu0 (qy0 q hn),q]; simp⟩
theorem Un.write (mu:Mut (H x))(he:e=x∨H e=some (.own x))(k:∀ b u,b≠e→h.get? b=some u→h'.get? b=some u)(heo:∃ u,h'.get? e=some u):Un fs ex H (upd H x o) h h':=by
  have hx:∀ b,H b=none→b≠x:=fun b n z=>by subst z; rw [n] at mu; exact mu
  have hb:∀ b,H b=none→b≠e:=fun b n z=>by
    subst z
    rcases he with r | r
    · exact hx b n r
    · rw [n] at r; cases r
  have hm:∀ b u,H b=some u→¬ Mut (some u)→b≠x:=fun b u q nm z=>by subst z; rw [q] at mu; exact nm mu
  refine ⟨fun b u q n _ _=>k b u (hb b n) q,fun b u q n _ _=>⟨u.slots,k b u (hb b n) q⟩,fun b u q n _=>by rw [qu0 (hx b n)]; exact n,fun b u q _=>?_,
    fun b xs q=>by rw [qu0 (hm b _ q fun z=>z)]; exact q,fun b u xs q=>by rw [qu0 (hm b _ q fun z=>z)]; exact q,fun b ps q=>⟨#[],by rw [qu0 (hm b _ q fun z=>z),q]; simp⟩⟩
  by_cases hbe:b=e
  · subst hbe; exact heo
  · exact ⟨u,k b u hbe q⟩
end
def trk (h:Heap)(H:Hp):List Addr:=(List.range h.objs.size).filter fun a=>(H a).isSome
def hidT (h:Heap)(H:Hp):Heap:=PySem.W.hideAll h (trk h H)
theorem hidT_size (h:Heap)(H:Hp):(hidT h H).objs.size=h.objs.size:=PySem.W.hideAll_size _ _
theorem hidT_get {h:Heap}{H:Hp}{b:Addr}{o:Obj}(e:h.get? b=some o)(n:H b=none):(hidT h H).get? b=some o :=
  PySem.W.hideAll_get _ e fun hm=>by
    have q:(H b).isSome=true:=(List.mem_filter.mp hm).2
    rw [n] at q; simp at q
theorem of_hidT {h:Heap}{H:Hp}{b:Addr}{o:Obj}(e:(hidT h H).get? b=some o):h.get? b=some o∧H b=none:=by
  have e':h.get? b=some o:=PySem.W.of_hideAll (trk h H) e
  refine ⟨e',?_⟩
  cases q:H b with
  | none=>rfl
  | some x =>
    have hm:b∈trk h H:=List.mem_filter.mpr ⟨List.mem_range.mpr (Heap.lt_size e'),by simp [q]⟩
    have z:(hidT h H).get? b=none:=PySem.W.hideAll_none (trk h H) hm
    rw [z] at e; cases e
def allNews (g h:Heap)(L:Addr):List (Addr×Obj):=(List.range h.objs.size).filterMap fun a=>if a=L∨(g.get? a).isSome=true then none else (h.get? a).map fun o=>(a,o)
def rest (g h:Heap)(L d:Addr):List (Addr×Obj):=(allNews g h L).filter fun p=>decide (p.1≠d)
end L2
namespace L2
open PySem PySem.Spec PyProof.Rows
structure Mod (K:PySem.W.Frag)(mg:Str→Option Value)(base:Heap):Prop where
  kin:K.In base
  glob:base.Ns mainGlobals mg
  blt:∃ mb,base.Ns builtinsNs mb∧∀ x:Str,x≠"__name__"→mb x=bootBuiltins x
  nolimit:base.NoLimit
structure Cx where
  prog:Program
  w:World
  K:PySem.W.Frag
  mg:Str→Option Value
  base:Heap
  A:Around
  N:List Str
  s₀:Shared
  H₀:Hp
  env:Env
  outer:List Env
  stack:List Env
  ex:List Addr
  fn:Str→Bool
  calm:Bool
  pn:List (Addr×Obj)
  xe:Value→Shared→Prop
def frs (l:List Env):List Addr:=l.filterMap (·.frame)
abbrev Cx.fs (X:Cx):List Addr:=frs X.outer
def Vis (sc:Scope)(x:Str):Prop:=sc.names.lookup x=some .local∨sc.names.lookup x=some .cell∨sc.names.lookup x=some .free
def Loc (sc:Scope)(x:Str):Prop:=sc.names.lookup x=some .local∨sc.names.lookup x=some .cell
def Look (env:Env)(h:Heap)(m:Str→Option Value)(x:Str)(u:Value):Prop :=
  (env.kindOf x=some .local∧m x=some u)∨((env.kindOf x=some .cell∨env.kindOf x=some .free)∧∃ c,env.cells.lookup x=some c∧h.IsCell c (some u))
structure Cx.Ok (X:Cx):Prop where
  mod:Mod X.K X.mg X.base
  kind:X.env.scope.kind=.function
  glob:X.env.globals=mainGlobals
  blt:X.env.builtins=builtinsNs
  above:X.s₀.heap.objs.size≤X.env.locals
  inj:∀ x y c,X.env.cells.lookup x=some c→X.env.cells.lookup y=some c→x=y
  has:∀ x,(X.env.kindOf x=some .cell∨X.env.kindOf x=some .free)→∃ c,X.env.cells.lookup x=some c
  cab:∀ x c,X.fn x=true→X.env.cells.lookup x=some c→X.s₀.heap.objs.size≤c
  hd:X.calm=true→X.A.handled=none
  frames:X.A.frames=some X.stack
  stk:X.stack=X.outer∨(X.stack=X.env::X.outer∧X.env.frame=some X.env.locals)
  exf:∀ b∈X.ex,b≠X.env.locals∧∀ x c,X.env.cells.lookup x=some c→c≠b
  bs:∀ b o,X.base.get? b=some o→X.s₀.heap.get? b=some o∧X.H₀ b=none
  bsz:X.base.objs.size≤X.s₀.heap.objs.size
  noex:∀ b o,X.base.get? b=some o→b∉X.ex
  exfs:∀ b∈X.ex,b∉X.fs
  funs:X.s₀.heap.FunFrames X.base X.outer
  frf:∀ b∈X.fs,X.H₀ b=none
structure Inv (X:Cx)(pins:List (Addr×Obj))(σ:List (Option V))(H:Hp)(s:Shared):Prop where
  ok:X.Ok
  os:s.os=X.s₀.os
  bare:AllBare s.gens
  base:Un X.fs X.ex X.H₀ H X.s₀.heap s.heap
  loc:∃ m,s.heap.Ns X.env.locals m∧∀ (i:Nat) (x:Str) (v:V),X.N[i]?=some x→σ[i]?=some (some v)→Vis X.env.scope x→∃ u,RelV v u∧Look X.env s.heap m x u
  cell:∀ x c,X.env.cells.lookup x=some c→∃ v,s.heap.IsCell c v
  free:H X.env.locals=none
  freeC:∀ x c,X.env.cells.lookup x=some c→H c=none
  pin:∀ p∈X.pn++pins,s.heap.get? p.1=some p.2∧H p.1=none∧p.1≠X.env.locals∧p.1∉X.fs∧∀ v,p.2.data≠.cell v
  hok:HOk X.prog X.w H s.heap
  len:σ.length=X.N.length
section
variable {X:Cx}{pins:List (Addr×Obj)}{σ:List (Option V)}{H H':Hp}{s:Shared}{h':Heap}
theorem Cx.Ok.nofr (ok:X.Ok){b:Addr}{o:Obj}(e:X.base.get? b=some o):b∉X.fs:=fun hb=>by
  have:=(ok.funs.mem hb).1
  rw [e] at this; cases this
theorem Inv.bs (I:Inv X pins σ H s):∀ b o,X.base.get? b=some o→s.heap.get? b=some o∧H b=none:=fun b o e =>
  ⟨I.base.keep b o (I.ok.bs b o e).1 (I.ok.bs b o e).2 (I.ok.nofr e) (I.ok.noex b o e),I.base.free b o (I.ok.bs b o e).1 (I.ok.bs b o e).2 (I.ok.noex b o e)⟩
theorem Inv.bk (I:Inv X pins σ H s):∀ b o,X.base.get? b=some o→s.heap.get? b=some o:=fun b o e=>(I.bs b o e).1
theorem Inv.mod (I:Inv X pins σ H s):Mod X.K X.mg X.base:=I.ok.mod
theorem Inv.kIn (I:Inv X pins σ H s):X.K.In s.heap:=I.ok.mod.kin.keeps I.bk
theorem Inv.fr (I:Inv X pins σ H s):∃ m,Fr X.base X.env.locals s.heap m :=
  let ⟨m,hn,_⟩:=I.loc
  ⟨m,hn,I.bk,Nat.le_trans I.ok.bsz I.ok.above⟩
theorem Inv.lt (I:Inv X pins σ H s):X.env.locals<s.heap.objs.size:=let ⟨_,hn,_⟩:=I.loc; hn.lt
theorem Inv.sz (I:Inv X pins σ H s):X.s₀.heap.objs.size≤s.heap.objs.size:=Nat.le_trans I.ok.above (Nat.le_of_lt I.lt)
theorem Inv.nofs (I:Inv X pins σ H s){a:Addr}(h:s.heap.objs.size≤a):a∉X.fs:=fun hb=>by
  obtain ⟨_,o,ho,_⟩:=I.ok.funs.mem hb
  exact absurd (Nat.lt_of_lt_of_le (Heap.lt_size ho) (Nat.le_trans I.sz h)) (Nat.lt_irrefl _)
theorem Inv.cne (I:Inv X pins σ H s):∀ x c,X.env.cells.lookup x=some c→c≠X.env.locals:=fun x c e z=>by
  obtain ⟨v,o,ho,hd⟩:=I.cell x c e
  obtain ⟨m,⟨o',es,ep,ho',hd',_⟩,_⟩:=I.loc
  rw [z,ho'] at ho; cases ho; rw [hd'] at hd; cases hd
theorem Inv.funs (I:Inv X pins σ H s):s.heap.FunFrames X.base X.outer:=by
  have all:∀ (l:List Env),(∀ b∈frs l,b∈X.fs)→X.s₀.heap.FunFrames X.base l→s.heap.FunFrames X.base l:=by
    intro l
    induction l with
    | nil=>intro _ _; trivial
    | cons env r ih =>
      intro hs hl
      obtain ⟨hk,⟨L,o,hf,hn,ho,hd⟩,hr⟩:=hl
      have hL:L∈X.fs:=hs L (by unfold frs; rw [List.filterMap_cons,hf]; exact List.mem_cons_self)
      obtain ⟨sl,e⟩:=I.base.slot L o ho (I.ok.frf L hL) hL fun z=>I.ok.exfs L z hL
      exact ⟨hk,⟨L,_,hf,hn,e,hd⟩,ih (fun b hb=>hs b (by unfold frs; rw [List.filterMap_cons,hf]; exact List.mem_cons_of_mem _ hb)) hr⟩
  exact all X.outer (fun _ hb=>hb) I.ok.funs
theorem Inv.stack (I:Inv X pins σ H s):s.heap.FunFrames X.base X.stack:=by
  rcases I.ok.stk with e | ⟨e,hf⟩
  · rw [e]; exact I.funs
  · rw [e]
    obtain ⟨m,hn,_⟩:=I.loc
    refine .cons (by rw [I.ok.kind]; decide) hf hn ?_ I.funs
    exact Heap.get?_none_of_le (Nat.le_trans I.ok.bsz I.ok.above)
theorem Inv.stkSub (I:Inv X pins σ H s):∀ b∈frs X.stack,b∈X.env.locals::X.fs:=fun b hb=>by
  rcases I.ok.stk with e | ⟨e,hf⟩
  · rw [e] at hb; exact List.mem_cons_of_mem _ hb
  · rw [e] at hb
    unfold frs at hb
    rw [List.filterMap_cons,hf] at hb
    exact hb
theorem Inv.stkFree (I:Inv X pins σ H s):∀ b∈frs X.stack,H b=none:=fun b hb=>by
  rcases List.mem_cons.mp (I.stkSub b hb) with e | hb
  · rw [e]; exact I.free
  · obtain ⟨_,o,ho,_⟩:=I.ok.funs.mem hb
    exact I.base.free b o ho (I.ok.frf b hb) fun z=>I.ok.exfs b z hb
theorem Inv.step {g':Array GenState}{t':Nat}{d':Drawn}{ch:List Addr}(I:Inv X pins σ H s)
    (hch:∀ b∈ch,(b∈X.ex∨X.s₀.heap.objs.size≤b)∧b≠X.env.locals∧(∀ x c,X.env.cells.lookup x=some c→c≠b)∧∀ p∈X.pn++pins,p.1≠b)
    (keep:∀ b o,b≠X.env.locals→b∉X.fs→b∉ch→s.heap.get? b=some o→H b=none→h'.get? b=some o)
    (slot:∀ b o,b≠X.env.locals→b∈X.fs→b∉ch→s.heap.get? b=some o→H b=none→∃ sl,h'.get? b=some { o with slots:=sl }) (free:∀ b o,b∉ch→s.heap.get? b=some o→H b=none→H' b=none)
    (there:∀ b o,b∉ch→s.heap.get? b=some o→∃ o',h'.get? b=some o')
    (tups:∀ b xs,H b=some (.tup xs)→H' b=some (.tup xs)) (frzs:∀ b o u,H b=some (.frz o u)→H' b=some (.frz o u)) (tbls:∀ b ps,H b=some (.tbl ps)→∃ more,H' b=some (.tbl (ps++more)))
    (ns:∀ m,s.heap.Ns X.env.locals m→h'.Ns X.env.locals m) (hok:HOk X.prog X.w H' h') (hg:AllBare g') :
    Inv X pins σ H' { s with heap:=h',gens:=g',drawn:=d',toks:=t' }:=by
  have neL:∀ b o,X.s₀.heap.get? b=some o→b≠X.env.locals:=fun b o e=>Nat.ne_of_lt (Nat.lt_of_lt_of_le (Heap.lt_size e) I.ok.above)
  have neC:∀ b o,X.s₀.heap.get? b=some o→b∉X.ex→b∉ch:=fun b o e hx hb=>by
    rcases (hch b hb).1 with z | z
    · exact hx z
    · exact absurd (Nat.lt_of_lt_of_le (Heap.lt_size e) z) (Nat.lt_irrefl _)
  have cellK:∀ x c,X.env.cells.lookup x=some c→∀ v,s.heap.IsCell c v→h'.IsCell c v:=fun x c e v ⟨o,ho,hd⟩=>by
    have nch:c∉ch:=fun z=>(hch c z).2.2.1 x c e rfl
    by_cases hc:c∈X.fs
    · obtain ⟨sl,q⟩:=slot c o (I.cne x c e) hc nch ho (I.freeC x c e)
      exact ⟨_,q,hd⟩
    · exact ⟨o,keep c o (I.cne x c e) hc nch ho (I.freeC x c e),hd⟩
  refine ⟨I.ok,I.os,hg,⟨fun b o e n hb hx=>?_,fun b o e n hb hx=>?_,fun b o e n hx=>?_,fun b o e hx=>?_,fun b xs e=>tups b xs (I.base.tups b xs e),fun b o xs e=>frzs b o xs (I.base.frzs b o xs e),fun b ps e=>?_⟩,?_,fun x c e=>?_,?_,fun x c e=>?_,fun p hp=>?_,hok,I.len⟩
  · exact keep b o (neL b o e) hb (neC b o e hx) (I.base.keep b o e n hb hx) (I.base.free b o e n hx)
  · obtain ⟨sl,e1⟩:=I.base.slot b o e n hb hx
    obtain ⟨sl',e2⟩:=slot b _ (neL b o e) hb (neC b o e hx) e1 (I.base.free b o e n hx)
    exact ⟨sl',e2⟩
  · obtain ⟨o',e1⟩:=I.base.there b o e hx
    exact free b o' (neC b o e hx) e1 (I.base.free b o e n hx)
  · obtain ⟨o',e1⟩:=I.base.there b o e hx
    exact there b o' (neC b o e hx) e1
  · obtain ⟨m1,e1⟩:=I.base.tbls b ps e
    obtain ⟨m2,e2⟩:=tbls b _ e1
    exact ⟨m1++m2,by rw [e2,Array.append_assoc]⟩
  · obtain ⟨m,hn,hl⟩:=I.loc
    refine ⟨m,ns m hn,fun i x v e1 e2 e3=>?_⟩
    obtain ⟨u,r,l⟩:=hl i x v e1 e2 e3
    refine ⟨u,r,?_⟩
    rcases l with l | ⟨k,c,e,z⟩
    · exact .inl l
    · exact .inr ⟨k,c,e,cellK x c e _ z⟩
  · obtain ⟨v,z⟩:=I.cell x c e
    exact ⟨v,cellK x c e v z⟩
  · obtain ⟨m,⟨o,_,_,ho,_⟩,_⟩:=I.loc
    exact free _ o (fun z=>(hch _ z).2.1 rfl) ho I.free
  · obtain ⟨v,o,ho,hd⟩:=I.cell x c e
    exact free c o (fun z=>(hch c z).2.2.1 x c e rfl) ho (I.freeC x c e)
  · obtain ⟨e,n,ne,nf,d⟩:=I.pin p hp
    have nch:p.1∉ch:=fun z=>(hch p.1 z).2.2.2 p hp rfl
    exact ⟨keep p.1 p.2 ne nf nch e n,free p.1 p.2 nch e n,ne,nf,d⟩
theorem Inv.un {t':Nat}(I:Inv X pins σ H s)(u:Un X.fs [] H H' s.heap h')(hok:HOk X.prog X.w H' h'):Inv X pins σ H' { s with heap:=h',toks:=t' }:=by
  obtain ⟨m,⟨o,es,ep,ho,r⟩,_⟩:=id I.loc
  obtain ⟨sl,hL⟩:=u.any ho I.free (by simp)
  exact I.step (g':=s.gens) (d':=s.drawn) (ch:=[]) (fun _ z=>nomatch z) (fun b o _ hb _ e n=>u.keep b o e n hb (by simp)) (fun b o _ hb _ e n=>u.slot b o e n hb (by simp)) (fun b o _ e n=>u.free b o e n (by simp)) (fun b o _ e=>u.there b o e (by simp)) u.tups u.frzs u.tbls (fun m' hm=>by
    obtain ⟨o',es',ep',ho',r'⟩:=hm
    rw [ho] at ho'; cases ho'
    exact ⟨_,es',ep',hL,r'⟩) hok I.bare
theorem Inv.call {g':Array GenState}{t':Nat}{d':Drawn}{ch:List Addr}(I:Inv X pins σ H s)(u:Un (frs X.stack) ch H H' s.heap h')(hok:HOk X.prog X.w H' h')(hg:AllBare g')
    (hch:∀ b∈ch,(b∈X.ex∨X.s₀.heap.objs.size≤b)∧b≠X.env.locals∧(∀ x c,X.env.cells.lookup x=some c→c≠b)∧∀ p∈X.pn++pins,p.1≠b) :
    Inv X pins σ H' { s with heap:=h',gens:=g',drawn:=d',toks:=t' }:=by
  obtain ⟨m,⟨o,es,ep,ho,r⟩,_⟩:=id I.loc
  obtain ⟨sl,hL⟩:=u.any ho I.free fun z=>(hch _ z).2.1 rfl
  exact I.step (ch:=ch) hch (fun b o hL hb hc e n=>u.keep b o e n (fun z=>(List.mem_cons.mp (I.stkSub b z)).elim hL hb) hc) (fun b o _ _ hc e n=>u.any e n hc) (fun b o hc e n=>u.free b o e n hc) (fun b o hc e=>u.there b o e hc) u.tups u.frzs u.tbls (fun m' hm=>by
    obtain ⟨o',es',ep',ho',r'⟩:=hm
    rw [ho] at ho'; cases ho'
    exact ⟨_,es',ep',hL,r'⟩) hok hg
theorem Inv.turned {t':Nat}{it:Addr}(I:Inv X pins σ H s)(k:∀ b o,b≠it→s.heap.get? b=some o→h'.get? b=some o)(hn:H it=none)(hL:it≠X.env.locals)
    (h1:it∈X.ex∨X.s₀.heap.objs.size≤it) (h2:∀ x c,X.env.cells.lookup x=some c→c≠it) (h3:∀ p∈X.pn++pins,p.1≠it):Inv X pins σ H { s with heap:=h',toks:=t' }:=by
  have nit:∀ b u,H b=some u→b≠it:=fun b u e z=>by rw [z,hn] at e; cases e
  refine I.step (g':=s.gens) (d':=s.drawn) (ch:=[it]) (fun b hb=>?_) (fun b o _ _ hc e _=>k b o (fun z=>hc (by simp [z])) e) (fun b o _ _ hc e _=>⟨o.slots,k b o (fun z=>hc (by simp [z])) e⟩) (fun _ _ _ _ n=>n)
    (fun b o hc e=>⟨o,k b o (fun z=>hc (by simp [z])) e⟩) (fun _ _ e=>e) (fun _ _ _ e=>e) (fun b ps e=>⟨#[],by rw [e]; simp⟩) (fun m hm=>?_) (fun b u e=>?_) I.bare
  · have e:b=it:=by simpa using hb
    subst e
    exact ⟨h1,hL,h2,h3⟩
  · obtain ⟨o,es,ep,ho,r⟩:=hm
    exact ⟨o,es,ep,k _ o (Ne.symm hL) ho,r⟩
  · refine (I.hok b u e).stay (fun c v hc q=>k c v ?_ q) (fun _ q=>q) fun _ _ q=>q
    rcases hc with z | z
    · rw [z]; exact nit b u e
    · exact nit c _ z
theorem Inv.tok (I:Inv X pins σ H s)(t:Nat):Inv X pins σ H { s with toks:=t }:=I.un (h':=s.heap) (t':=t) Un.refl I.hok
theorem Inv.kept {t':Nat}(I:Inv X pins σ H s)(k:∀ b u,s.heap.get? b=some u→h'.get? b=some u):Inv X pins σ H { s with heap:=h',toks:=t' }:=I.un (Un.kept k) (I.hok.kept k)
theorem Inv.laid {a:Addr}{o:HO}{t':Nat}(I:Inv X pins σ H s)(k:∀ b u,s.heap.get? b=some u→h'.get? b=some u)(hp:s.heap.objs.size≤a)(new:ObjOk X.prog X.w (upd H a o) h' a o) :
    Inv X pins σ (upd H a o) { s with heap:=h',toks:=t' }:=I.un (Un.laid k hp (I.hok.fresh hp)) (I.hok.laid k hp new)
theorem Inv.write {x e:Addr}{o:HO}{t':Nat}(I:Inv X pins σ H s)(mu:Mut (H x))(he:e=x∨H e=some (.own x))(k:∀ b u,b≠e→s.heap.get? b=some u→h'.get? b=some u)(heo:∃ u,h'.get? e=some u)
    (new:ObjOk X.prog X.w (upd H x o) h' x o):Inv X pins σ (upd H x o) { s with heap:=h',toks:=t' }:=I.un (Un.write mu he k heo) (I.hok.write mu he k heo new)
theorem Inv.pins_of {pins':List (Addr×Obj)}(I:Inv X pins σ H s)(h:∀ p∈pins',s.heap.get? p.1=some p.2∧H p.1=none∧p.1≠X.env.locals∧p.1∉X.fs∧∀ v,p.2.data≠.cell v):Inv X pins' σ H s :=
  ⟨I.ok,I.os,I.bare,I.base,I.loc,I.cell,I.free,I.freeC,fun p hp=>(List.mem_append.mp hp).elim (fun z=>I.pin p (List.mem_append_left _ z)) (h p),I.hok,I.len⟩
theorem nodup_ix {N:List Str}(hN:N.Nodup){i j:Nat}{x:Str}(a:N[i]?=some x)(b:N[j]?=some x):i=j:=by
  obtain ⟨h1,e1⟩:=List.getElem?_eq_some_iff.mp a
  obtain ⟨h2,e2⟩:=List.getElem?_eq_some_iff.mp b
  exact (List.getElem_inj hN).mp (e1.trans e2.symm)
theorem store_ok2 {M:Model}{A:Around}{E:Value→Shared→Prop}{i:Nat}{x:Str}{v:V}{u:Value}{Q:Unit→Shared→Prop}(I:Inv X pins σ H s)(hN:X.N.Nodup)(hi:X.N[i]?=some x)(hx:Loc X.env.scope x)(r:RelV v u)
    (h:∀ s',Inv X pins (σ.set i (some v)) H s'→(∃ a,Heap.SameBut a s.heap s'.heap∧(a=X.env.locals∨X.env.cells.lookup x=some a))→Q () s') (hf:X.fn x=true∨X.env.scope.names.lookup x=some .local:=by first | exact .inl rfl | exact .inr rfl | assumption):wpAny M A (storeName X.env x u) Q E s:=by
  obtain ⟨m,hn,hl⟩:=id I.loc
  have hcls:(X.env.scope.kind == .class || (X.env.scope.kind == .module && X.env.locals != X.env.globals))=false:=by rw [I.ok.kind]; rfl
  have hiσ:i<σ.length:=by rw [I.len]; exact (List.getElem?_eq_some_iff.mp hi).1
  have cne:=I.cne
  have tracked:∀ {a:Addr} {h':Heap},(∃ o,s.heap.get? a=some o∧H a=none)→Heap.SameBut a s.heap h'→HOk X.prog X.w H h':=fun {a h'} ha hs b ob e=>by
    obtain ⟨_,_,hfree⟩:=ha
    refine (I.hok b ob e).stay (fun c w' hc q=>(hs.2 c ?_).trans q) (fun _ q=>q) fun _ _ q=>q
    rintro rfl
    rcases hc with rfl | hc
    · rw [hfree] at e; cases e
    · rw [hfree] at hc; cases hc
  rcases hx with hk | hk
  · refine wpAny_storeName_local hk hn (fun h' hn' hs=>?_) hcls
    obtain ⟨oL,_,_,hoL,_⟩:=id hn
    refine h _ ⟨I.ok,I.os,I.bare,⟨fun b o e n hb hx=>?_,fun b o e n hb hx=>?_,I.base.free,fun b o e hx=>?_,I.base.tups,I.base.frzs,I.base.tbls⟩,⟨_,hn',fun j y v' e1 e2 e3=>?_⟩,fun y c e=>?_,I.free,I.freeC,fun p hp=>?_,tracked ⟨oL,hoL,I.free⟩ hs,by simpa using I.len⟩ ⟨_,hs,.inl rfl⟩
    · exact (hs.2 b (Nat.ne_of_lt (Nat.lt_of_lt_of_le (Heap.lt_size e) I.ok.above))).trans (I.base.keep b o e n hb hx)
    · obtain ⟨sl,e1⟩:=I.base.slot b o e n hb hx
      exact ⟨sl,(hs.2 b (Nat.ne_of_lt (Nat.lt_of_lt_of_le (Heap.lt_size e) I.ok.above))).trans e1⟩
    · obtain ⟨o',e1⟩:=I.base.there b o e hx
      exact ⟨o',(hs.2 b (Nat.ne_of_lt (Nat.lt_of_lt_of_le (Heap.lt_size e) I.ok.above))).trans e1⟩
    · by_cases hj:j=i
      · subst hj
        rw [hi] at e1; cases e1
        rw [List.getElem?_set_self hiσ] at e2
        cases e2
        exact ⟨u,r,.inl ⟨hk,by simp⟩⟩
      · rw [List.getElem?_set_ne (Ne.symm hj)] at e2
        obtain ⟨u',r',q⟩:=hl j y v' e1 e2 e3
        refine ⟨u',r',?_⟩
        rcases q with ⟨k,e⟩ | ⟨k,c,e,z⟩
        · refine .inl ⟨k,?_⟩
          have:y≠x:=fun e=>hj (nodup_ix hN e1 (e▸hi))
          simp [this,e]
        · exact .inr ⟨k,c,e,z.sameBut hs (cne y c e)⟩
    · obtain ⟨w',z⟩:=I.cell y c e
      exact ⟨w',z.sameBut hs (cne y c e)⟩
    · obtain ⟨e,n,ne,nf,d⟩:=I.pin p hp
      exact ⟨(hs.2 p.1 ne).trans e,n,ne,nf,d⟩
  · have hfn:X.fn x=true:=by
      rcases hf with z | z
      · exact z
      · rw [z] at hk; cases hk
    obtain ⟨c,hc⟩:=I.ok.has x (.inl hk)
    obtain ⟨w',z⟩:=I.cell x c hc
    refine wpAny_storeName_cell I.ok.kind hk hc z (fun h' hc' hs=>?_)
    obtain ⟨oc,hoc,hocd⟩:=id z
    refine h { s with heap:=h' } ⟨I.ok,I.os,I.bare,⟨fun b o e n hb hx=>?_,fun b o e n hb hx=>?_,I.base.free,fun b o e hx=>?_,I.base.tups,I.base.frzs,I.base.tbls⟩,⟨m,hn.sameBut hs (Ne.symm (cne x c hc)),fun j y v' e1 e2 e3=>?_⟩,fun y c' e=>?_,I.free,I.freeC,fun p hp=>?_,tracked ⟨oc,hoc,I.freeC x c hc⟩ hs,by simpa using I.len⟩ ⟨c,hs,.inr hc⟩
    · exact (hs.2 b (Nat.ne_of_lt (Nat.lt_of_lt_of_le (Heap.lt_size e) (I.ok.cab x c hfn hc)))).trans (I.base.keep b o e n hb hx)
    · obtain ⟨sl,e1⟩:=I.base.slot b o e n hb hx
      exact ⟨sl,(hs.2 b (Nat.ne_of_lt (Nat.lt_of_lt_of_le (Heap.lt_size e) (I.ok.cab x c hfn hc)))).trans e1⟩
    · obtain ⟨o',e1⟩:=I.base.there b o e hx
      exact ⟨o',(hs.2 b (Nat.ne_of_lt (Nat.lt_of_lt_of_le (Heap.lt_size e) (I.ok.cab x c hfn hc)))).trans e1⟩
    · by_cases hj:j=i
      · subst hj
        rw [hi] at e1; cases e1
        rw [List.getElem?_set_self hiσ] at e2
        cases e2
        exact ⟨u,r,.inr ⟨.inl hk,c,hc,hc'⟩⟩
      · rw [List.getElem?_set_ne (Ne.symm hj)] at e2
        obtain ⟨u',r',q⟩:=hl j y v' e1 e2 e3
        refine ⟨u',r',?_⟩
        rcases q with q | ⟨k,c',e,z'⟩
        · exact .inl q
        · refine .inr ⟨k,c',e,z'.sameBut hs ?_⟩
          rintro rfl
          exact hj (nodup_ix hN e1 (I.ok.inj _ _ _ e hc▸hi))
    · by_cases hcc:c'=c
      · subst hcc; exact ⟨_,hc'⟩
      · obtain ⟨w2,z2⟩:=I.cell y c' e
        exact ⟨w2,z2.sameBut hs hcc⟩
    · obtain ⟨e,n,ne,nf,d⟩:=I.pin p hp
      refine ⟨(hs.2 p.1 ?_).trans e,n,ne,nf,d⟩
      intro q
      rw [q,hoc] at e
      have q':oc=p.2:=Option.some.inj e
      exact d w' (by rw [← q']; exact hocd)
theorem store_ok {M:Model}{A:Around}{E:Value→Shared→Prop}{i:Nat}{x:Str}{v:V}{u:Value}{Q:Unit→Shared→Prop}(I:Inv X pins σ H s)(hN:X.N.Nodup)(hi:X.N[i]?=some x)(hx:Loc X.env.scope x)(r:RelV v u)
    (h:∀ s',Inv X pins (σ.set i (some v)) H s'→Q () s') (hf:X.fn x=true∨X.env.scope.names.lookup x=some .local:=by first | exact .inl rfl | exact .inr rfl | assumption):wpAny M A (storeName X.env x u) Q E s :=
  store_ok2 I hN hi hx r (fun s' I' _=>h s' I') hf
theorem Inv.call' {s':Shared}{ch:List Addr}(I:Inv X pins σ H s)(ho:s'.os=s.os)(u:Un (frs X.stack) ch H H' s.heap s'.heap)(hok:HOk X.prog X.w H' s'.heap)(hg:AllBare s'.gens)
    (hch:∀ b∈ch,(b∈X.ex∨X.s₀.heap.objs.size≤b)∧b≠X.env.locals∧(∀ x c,X.env.cells.lookup x=some c→c≠b)∧∀ p∈X.pn++pins,p.1≠b):Inv X pins σ H' s':=by
  obtain ⟨h',g',d',t',o'⟩:=s'
  have e:o'=s.os:=ho
  subst e
  exact I.call (g':=g') (t':=t') (d':=d') u hok hg hch
end
abbrev XK:=Value→Option Addr→Hp→Prop
abbrev St:=List (Option V)
abbrev VK:=V→Hp→Prop
abbrev TE:=St→Hp→VK→Prop
abbrev TT:=St→Hp→(Bool→Hp→Prop)→Prop
abbrev TA:=St→Hp→(List V→Hp→Prop)→Prop
structure Ends where
  nx:St→Hp→Prop
  rt:VK
  bk:St→Hp→Prop:=fun _ _=>False
  ct:St→Hp→Prop:=fun _ _=>False
abbrev TS:=Ends→St→Hp→Prop
def EP (X:Cx)(pins:List (Addr×Obj))(σ:St)(Q:VK)(u:Value)(s':Shared):Prop:=∃ v H',Inv X pins σ H' s'∧RelV v u∧Q v H'
def TP (X:Cx)(pins:List (Addr×Obj))(σ:St)(Q:Bool→Hp→Prop)(b:Bool)(s':Shared):Prop:=∃ H',Inv X pins σ H' s'∧Q b H'
def AP (X:Cx)(pins:List (Addr×Obj))(σ:St)(Q:List V→Hp→Prop)(us:List Value)(s':Shared):Prop:=∃ vs H',Inv X pins σ H' s'∧Vals vs us∧Q vs H'
def SP (X:Cx)(pins:List (Addr×Obj))(D:Ends)(f:Flow)(s':Shared):Prop :=
  match f with
  | .next=>∃ σ' H',Inv X pins σ' H' s'∧D.nx σ' H'
  | .brk=>∃ σ' H',Inv X pins σ' H' s'∧D.bk σ' H'
  | .cont=>∃ σ' H',Inv X pins σ' H' s'∧D.ct σ' H'
  | .ret u=>∃ v σ' H',Inv X pins σ' H' s'∧RelV v u∧D.rt v H'
def PE (X:Cx)(e:Expr)(t:TE):Prop :=
  ∀ (pins:List (Addr×Obj)) (s:Shared) (σ:St) (H:Hp) (Q:VK),Inv X pins σ H s→t σ H Q→wpAny (model X.prog X.w) X.A (eval e X.env) (EP X pins σ Q) X.xe s
def PT (X:Cx)(e:Expr)(t:TT):Prop :=
  ∀ (pins:List (Addr×Obj)) (s:Shared) (σ:St) (H:Hp) (Q:Bool→Hp→Prop),Inv X pins σ H s→t σ H Q→wpAny (model X.prog X.w) X.A (isTrue e X.env (eval e X.env)) (TP X pins σ Q) X.xe s
def PW (X:Cx)(e:Expr)(t:TT):Prop :=
  ∀ (whole:Sem Value) (pins:List (Addr×Obj)) (s:Shared) (σ:St) (H:Hp) (Q:Bool→Hp→Prop),Inv X pins σ H s→t σ H Q→wpAny (model X.prog X.w) X.A (isTrue e X.env whole) (TP X pins σ Q) X.xe s
theorem PW.pt {X:Cx}{e:Expr}{t:TT}(h:PW X e t):PT X e t:=h _
def PA (X:Cx)(es:List Expr)(t:TA):Prop :=
  ∀ (pos:Pos) (pins:List (Addr×Obj)) (s:Shared) (σ:St) (H:Hp) (Q:List V→Hp→Prop),Inv X pins σ H s→t σ H Q→wpAny (model X.prog X.w) X.A (spliced (backTo pos (starEach es X.env))) (AP X pins σ Q) X.xe s
def PS (X:Cx)(st:Stmt)(t:TS):Prop :=
  ∀ (pins:List (Addr×Obj)) (s:Shared) (σ:St) (H:Hp) (D:Ends),Inv X pins σ H s→t D σ H→wpAny (model X.prog X.w) X.A (exec st X.env) (SP X pins D) X.xe s
def PSs (X:Cx)(st:List Stmt)(t:TS):Prop :=
  ∀ (pins:List (Addr×Obj)) (s:Shared) (σ:St) (H:Hp) (D:Ends),Inv X pins σ H s→t D σ H→wpAny (model X.prog X.w) X.A (execs st X.env) (SP X pins D) X.xe s
theorem thn {α:Type}{t:Sem α}{Q Q':α→Shared→Prop}{M:Model}{A:Around}{E:Value→Shared→Prop}{s:Shared}(h:wpAny M A t Q E s)(hQ:∀ a s,Q a s→Q' a s):wpAny M A t Q' E s:=wpAny_mono h hQ fun _ _ x=>x
end L2
namespace L2
open PySem PySem.Spec PyProof.Rows
section
variable {X:Cx}
theorem bin {a b:Expr}{ta tb:TE}(ha:PE X a ta)(hb:PE X b tb){pins:List (Addr×Obj)}{s:Shared}{σ:St}{H:Hp}{R:V→V→Hp→Prop}(I:Inv X pins σ H s)(h:ta σ H fun x H1=>tb σ H1 fun y H2=>R x y H2)
    {α:Type} {Q:α→Shared→Prop} {f:Value→Value→Sem α}
    (hf:∀ v u s2 x y H2,Inv X pins σ H2 s2→RelV x v→RelV y u→R x y H2→wpAny (model X.prog X.w) X.A (f v u) Q X.xe s2) :
    wpAny (model X.prog X.w) X.A (eval a X.env) (fun v s₁=>wpAny (model X.prog X.w) X.A (eval b X.env) (fun u s₂=>wpAny (model X.prog X.w) X.A (f v u) Q X.xe s₂) X.xe s₁) X.xe s:=by
  refine thn (ha pins s σ H _ I h) fun v s1 ⟨x,H1,I1,r1,q1⟩=>?_
  refine thn (hb pins s1 σ H1 _ I1 q1) fun u s2 ⟨y,H2,I2,r2,q2⟩=>?_
  exact hf v u s2 x y H2 I2 r1 r2 q2
def tVar (i:Nat):TE:=fun σ H Q=>∃ v,σ[i]?=some (some v)∧Q v H
def tC (v:V):TE:=fun _ H Q=>Q v H
theorem pe_var {i:Nat}{x:Str}{pos:Pos}(hN:X.N[i]?=some x)(hv:Vis X.env.scope x)(hd:(x == ("__debug__":Str))=false:=by decide)(hcd:(x == ("__classdict__":Str))=false:=by decide):PE X (.Name x pos) (tVar i):=by
  intro pins s σ H Q I h
  obtain ⟨v,e,h⟩:=h
  obtain ⟨m,hn,hl⟩:=I.loc
  obtain ⟨u,r,l⟩:=hl i x v hN e hv
  have fin:EP X pins σ Q u s:=⟨v,H,I,r,h⟩
  rcases l with ⟨hk,hm⟩ | ⟨hk,c,hc,hcell⟩
  · exact wpAny_Name (wpAny_loadName_local I.ok.kind hk hn hm fin) hd
  · rcases hk with hk | hk
    · exact wpAny_Name (wpAny_loadName_cell I.ok.kind hk hc hcell fin) hd
    · exact wpAny_Name (wpAny_loadName_free I.ok.kind hk hc hcell fin hcd) hd
theorem qc {i j pos}:PE X (.Constant (.int i) j pos) (tC (.int i)):=fun _ _ _ H _ I h=>wpAny_Constant_int ⟨.int i,H,I.tok _,⟨_,rfl⟩,h⟩
theorem pe_bl {b j pos}:PE X (.Constant (.bool b) j pos) (tC (.bl b)):=fun _ _ _ H _ I h=>Constant_bool ⟨.bl b,H,I,rfl,h⟩
theorem pe_non {j pos}:PE X (.Constant .none j pos) (tC .non):=fun _ _ _ H _ I h=>Constant_none ⟨.non,H,I,rfl,h⟩
theorem qr1 {x j pos}:PE X (.Constant (.str x) j pos) (tC (.str x)):=fun _ _ _ H _ I h=>Calls.Constant_str ⟨.str x,H,I.tok _,⟨_,rfl⟩,h⟩
def Gl (X:Cx)(x:Str):Prop:=X.env.kindOf x=some .globalImplicit
theorem ld_glob {E:Value→Shared→Prop}{pins:List (Addr×Obj)}{s:Shared}{σ:St}{H:Hp}{x:Str}{u:Value}{pos:Pos}{Q:Value→Shared→Prop}(I:Inv X pins σ H s)(hg:Gl X x)(hm:X.mg x=some u)(h:Q u s)
    (hd:(x == ("__debug__":Str))=false:=by decide):wpAny (model X.prog X.w) X.A (eval (.Name x pos) X.env) Q E s :=
  Calls.Name_function_global I.ok.kind hg (Calls.loadGlobal_global (by rw [I.ok.glob]; exact I.mod.glob.keeps I.bk) hm h) hd
theorem ld_blt {E:Value→Shared→Prop}{pins:List (Addr×Obj)}{s:Shared}{σ:St}{H:Hp}{x:Str}{u:Value}{pos:Pos}{Q:Value→Shared→Prop}(I:Inv X pins σ H s)(hg:Gl X x)(hm:X.mg x=none)(hv:bootBuiltins x=some u)(h:Q u s)
    (hn:x≠"__name__":=by decide) (hd:(x == ("__debug__":Str))=false:=by decide):wpAny (model X.prog X.w) X.A (eval (.Name x pos) X.env) Q E s:=by
  obtain ⟨mb,h1,h2⟩:=I.mod.blt
  exact Calls.Name_function_global I.ok.kind hg (Calls.loadGlobal_builtin (by rw [I.ok.glob]; exact I.mod.glob.keeps I.bk) hm (by rw [I.ok.blt]; exact h1.keeps I.bk) ((h2 x hn).trans hv) h) hd
theorem pe_glob {x:Str}{v:V}{u:Value}{pos:Pos}(hg:Gl X x)(hm:X.mg x=some u)(r:RelV v u)(hd:(x == ("__debug__":Str))=false:=by decide):PE X (.Name x pos) (tC v) :=
  fun _ _ _ H _ I h=>ld_glob I hg hm ⟨v,H,I,r,h⟩ hd
variable {a b:Expr}{ta tb:TE}{pos:Pos}
def PC (X:Cx)(op:CmpOp)(a b:Expr)(t:TE):Prop :=
  ∀ (pins:List (Addr×Obj)) (s:Shared) (σ:St) (H:Hp) (Q:VK),Inv X pins σ H s→t σ H Q →
    wpAny (model X.prog X.w) X.A (eval a X.env) (fun v s₁=>wpAny (model X.prog X.w) X.A (eval b X.env) (fun u s₂=>wpAny (model X.prog X.w) X.A (compareOp op v u) (EP X pins σ Q) X.xe s₂) X.xe s₁) X.xe s
def tB (t:TE):TT:=fun σ H Q=>t σ H fun x H1=>∃ c,x=.bl c∧Q c H1
theorem pe_cmp {op:CmpOp}{t:TE}(h:PC X op a b t)(h1:behindInMarks op b=false:=by first | exact nobehind _ (by decide) (by decide) | rfl):PE X (.Compare a [op] [b] pos) t:=fun pins s σ H Q I hw=>wpAny_Compare1 (h pins s σ H Q I hw) h1
theorem pt_cmp {op:CmpOp}{t:TE}(h:PC X op a b t)(h1:behindInMarks op b=false:=by first | exact nobehind _ (by decide) (by decide) | rfl):PT X (.Compare a [op] [b] pos) (tB t):=by
  intro pins s σ H Q I hw
  refine wpAny_isTrue_Compare1 (thn (h pins s σ H _ I hw) fun v s1 h1=>thn h1 fun u s2 h2=>thn h2 fun c s3 ⟨x,H1,I1,r1,q1⟩=>?_) h1
  obtain ⟨d,rfl,q⟩:=q1
  cases r1
  exact wpAny_truthy_bool ⟨H1,I1,q⟩
theorem pt_val {e:Expr}{t:TE}(h:PE X e t)(he:∀ whole,isTrue e X.env whole=(do let v ← whole; standAt e.pos; holding [v] (truthy v)):=by intro _; rfl):PT X e (tB t):=by
  intro pins s σ H Q I hw
  refine isTrue_plain (thn (h pins s σ H _ I hw) fun v s1 ⟨x,H1,I1,r1,q1⟩=>?_) (he _)
  obtain ⟨d,rfl,q⟩:=q1
  cases r1
  exact wpAny_truthy_bool ⟨H1,I1,q⟩
variable {tA tB':TT}{rest:List Expr}
def tAnd (t u:TT):TT:=fun σ H Q=>t σ H fun c H1=>if c=true then u σ H1 Q else Q false H1
def tOr (t u:TT):TT:=fun σ H Q=>t σ H fun c H1=>if c=true then Q true H1 else u σ H1 Q
def tNot (t:TT):TT:=fun σ H Q=>t σ H fun c H1=>Q (!c) H1
theorem pw_and1 (ha:PT X a tA):PW X (.BoolOp .And [a] pos) tA:=by
  intro wh pins s σ H Q I h
  refine isTrue_and (thn (ha pins s σ H Q I h) fun c s1 e=>?_)
  cases c with
  | true=>exact isTrue_and_nil e
  | false=>exact e
theorem pw_or1 (ha:PT X a tA):PW X (.BoolOp .Or [a] pos) tA:=by
  intro wh pins s σ H Q I h
  refine isTrue_or (thn (ha pins s σ H Q I h) fun c s1 e=>?_)
  cases c with
  | false=>exact isTrue_or_nil e
  | true=>exact e
theorem pw_and (ha:PT X a tA)(hb:PW X (.BoolOp .And (b::rest) pos) tB'):PW X (.BoolOp .And (a::b::rest) pos) (tAnd tA tB'):=by
  intro wh pins s σ H Q I h
  refine isTrue_and (thn (ha pins s σ H _ I h) fun c s1 ⟨H1,I1,q1⟩=>?_)
  cases c with
  | true=>exact hb wh pins s1 σ H1 Q I1 q1
  | false=>exact ⟨H1,I1,q1⟩
theorem pw_or (ha:PT X a tA)(hb:PW X (.BoolOp .Or (b::rest) pos) tB'):PW X (.BoolOp .Or (a::b::rest) pos) (tOr tA tB'):=by
  intro wh pins s σ H Q I h
  refine isTrue_or (thn (ha pins s σ H _ I h) fun c s1 ⟨H1,I1,q1⟩=>?_)
  cases c with
  | true=>exact ⟨H1,I1,q1⟩
  | false=>exact hb wh pins s1 σ H1 Q I1 q1
theorem pt_not (ha:PT X a tA):PT X (.UnaryOp .Not a pos) (tNot tA):=by
  intro pins s σ H Q I h
  exact isTrue_not (ha pins s σ H (fun c H1=>Q (!c) H1) I h)
def tAndV (ta tb:TE):TE:=fun σ H Q=>ta σ H fun x H1=>∃ c,x=.bl c∧if c=true then tb σ H1 Q else Q (.bl false) H1
def tOrV (ta tb:TE):TE:=fun σ H Q=>ta σ H fun x H1=>∃ c,x=.bl c∧if c=true then Q (.bl true) H1 else tb σ H1 Q
theorem pe_one {op}{t:TE}(h:PE X a t):PE X (.BoolOp op [a] pos) t:=fun pins s σ H Q I hw=>BoolOp_one (h pins s σ H Q I hw)
theorem pe_and (ha:PE X a ta)(hb:PE X (.BoolOp .And (b::rest) pos) tb):PE X (.BoolOp .And (a::b::rest) pos) (tAndV ta tb):=by
  intro pins s σ H Q I h
  refine BoolOp_and (thn (ha pins s σ H _ I h) fun v s1 ⟨x,H1,I1,r1,q1⟩=>?_)
  obtain ⟨c,rfl,q1⟩:=q1
  cases r1
  refine wpAny_truthy_bool ?_
  cases c with
  | true=>exact hb pins s1 σ H1 Q I1 q1
  | false=>exact ⟨.bl false,H1,I1,rfl,q1⟩
theorem pe_or (ha:PE X a ta)(hb:PE X (.BoolOp .Or (b::rest) pos) tb):PE X (.BoolOp .Or (a::b::rest) pos) (tOrV ta tb):=by
  intro pins s σ H Q I h
  refine BoolOp_or (thn (ha pins s σ H _ I h) fun v s1 ⟨x,H1,I1,r1,q1⟩=>?_)
  obtain ⟨c,rfl,q1⟩:=q1
  cases r1
  refine wpAny_truthy_bool ?_
  cases c with
  | false=>exact hb pins s1 σ H1 Q I1 q1
  | true=>exact ⟨.bl true,H1,I1,rfl,q1⟩
def tIf (t:TT)(ta tb:TE):TE:=fun σ H Q=>t σ H fun c H1=>if c=true then ta σ H1 Q else tb σ H1 Q
theorem pe_ifExp {c:Expr}(hc:PT X c tA)(ha:PE X a ta)(hb:PE X b tb):PE X (.IfExp c a b pos) (tIf tA ta tb):=by
  intro pins s σ H Q I h
  refine wpAny_IfExp (thn (hc pins s σ H _ I h) fun d s1 ⟨H1,I1,q1⟩=>?_)
  cases d with
  | true=>exact ha pins s1 σ H1 Q I1 q1
  | false=>exact hb pins s1 σ H1 Q I1 q1
end
end L2
namespace L2
open PySem PySem.Spec PyProof.Rows
def SqL (K:PySem.W.Frag)(H:Hp)(a:Addr)(xs:List V):Prop :=
  Rd H a (.lst xs) ∨
    ∃ (o:Obj) (its:Array Value) (n:Nat),K.lookup a=some o∧o.cls=.type "list"∧o.dict=none∧o.data=.seq its n∧its.size≤sizeLine∧Vals xs its.toList
def SqT (K:PySem.W.Frag)(H:Hp)(a:Addr)(xs:List V):Prop :=
  Rd H a (.tup xs) ∨
    ∃ (o:Obj) (its:Array Value) (n:Nat),K.lookup a=some o∧o.cls=.type "tuple"∧o.data=.seq its n∧its.size≤sizeLine∧Vals xs its.toList
def absV:Value→Option V
  | .none=>some .non
  | .bool b=>some (.bl b)
  | .int i _=>some (.int i)
  | .str x _=>some (.str x)
  | .bytes b _=>some (.byt b)
  | .float b _=>some (.flt b)
  | .ref a=>some (.ref a)
  | .type n=>some (.ty n)
  | _=>none
theorem RelV.abs {x:V}{u:Value}(r:RelV x u):absV u=some x:=by
  cases x with
  | non=>cases r; rfl
  | bl _=>cases r; rfl
  | int _=>obtain ⟨t,rfl⟩:=r; rfl
  | str _=>obtain ⟨t,rfl⟩:=r; rfl
  | byt _=>obtain ⟨t,rfl⟩:=r; rfl
  | flt _=>obtain ⟨t,rfl⟩:=r; rfl
  | ref _=>cases r; rfl
  | ty _=>cases r; rfl
theorem RelV.inj {x y:V}{u:Value}(r:RelV x u)(q:RelV y u):x=y:=Option.some.inj (r.abs.symm.trans q.abs)
theorem Vals.inj:∀ {xs ys:List V} {us:List Value},Vals xs us→Vals ys us→xs=ys
  | _,_,_,.nil,.nil=>rfl
  | _,_,_,.cons r t,.cons r' t'=>by rw [r.inj r',Vals.inj t t']
section
variable {X:Cx}{pins:List (Addr×Obj)}{σ:St}{H:Hp}{s:Shared}{a:Addr}{xs ys:List V}
theorem SqL.of {K:PySem.W.Frag}(h:H a=some (.lst xs)):SqL K H a xs:=.inl (.inl h)
theorem SqT.of {K:PySem.W.Frag}(h:H a=some (.tup xs)):SqT K H a xs:=.inl (.inl h)
theorem Inv.list (I:Inv X pins σ H s)(h:SqL X.K H a xs):∃ its:List Value,Vals xs its∧PlainL s.heap a its.toArray∧xs.length≤sizeLine:=by
  rcases h with h | ⟨o,its,n,hk,hc,hd,hs,hz,r⟩
  · obtain ⟨z,its,n,r,e⟩:=h.ok I.hok
    exact ⟨its,r,⟨_,n,e,rfl,rfl,rfl⟩,z⟩
  · refine ⟨its.toList,r,⟨o,n,I.kIn a o hk,hc,hd,by simpa using hs⟩,?_⟩
    have e:=r.length
    simp only [Array.length_toList] at e
    omega
theorem Inv.tuple (I:Inv X pins σ H s)(h:SqT X.K H a xs):∃ its:List Value,Vals xs its∧IsTup s.heap a its.toArray∧xs.length≤sizeLine:=by
  rcases h with h | ⟨o,its,n,hk,hc,hs,hz,r⟩
  · obtain ⟨z,its,r,p⟩:=h.ok I.hok
    exact ⟨its,r,p,z⟩
  · refine ⟨its.toList,r,⟨o,I.kIn a o hk,hc,n,by simpa using hs⟩,?_⟩
    have e:=r.length
    simp only [Array.length_toList] at e
    omega
theorem Inv.list_inj (I:Inv X pins σ H s)(h:SqL X.K H a xs)(h':SqL X.K H a ys):xs=ys:=by
  obtain ⟨its,r,⟨o,n,e,_,_,d⟩,_⟩:=I.list h
  obtain ⟨its',r',⟨o',n',e',_,_,d'⟩,_⟩:=I.list h'
  rw [e] at e'; cases e'
  rw [d] at d'
  injection d' with d1 _
  have:its=its':=by simpa using congrArg Array.toList d1
  subst this
  exact r.inj r'
theorem Inv.tuple_inj (I:Inv X pins σ H s)(h:SqT X.K H a xs)(h':SqT X.K H a ys):xs=ys:=by
  obtain ⟨its,r,⟨o,e,_,n,d⟩,_⟩:=I.tuple h
  obtain ⟨its',r',⟨o',e',_,n',d'⟩,_⟩:=I.tuple h'
  rw [e] at e'; cases e'
  rw [d] at d'
  injection d' with d1 _
  have:its=its':=by simpa using congrArg Array.toList d1
  subst this
  exact r.inj r'
end
abbrev Cx.wish (X:Cx)(E:Value→Shared→Prop):Cx:={ X with xe:=E }
abbrev Cx.nox (X:Cx):Cx:=X.wish fun _ _=>False
theorem Cx.Ok.wish {X:Cx}(ok:X.Ok)(E:Value→Shared→Prop):(X.wish E).Ok :=
  ⟨ok.mod,ok.kind,ok.glob,ok.blt,ok.above,ok.inj,ok.has,ok.cab,ok.hd,ok.frames,ok.stk,ok.exf,ok.bs,ok.bsz,ok.noex,ok.exfs,ok.funs,ok.frf⟩
theorem Cx.Ok.unwish {X:Cx}{E:Value→Shared→Prop}(ok:(X.wish E).Ok):X.Ok :=
  ⟨ok.mod,ok.kind,ok.glob,ok.blt,ok.above,ok.inj,ok.has,ok.cab,ok.hd,ok.frames,ok.stk,ok.exf,ok.bs,ok.bsz,ok.noex,ok.exfs,ok.funs,ok.frf⟩
section
variable {X:Cx}{pins:List (Addr×Obj)}{σ:St}{H:Hp}{s:Shared}{E:Value→Shared→Prop}
theorem Inv.wish (I:Inv X pins σ H s)(E:Value→Shared→Prop):Inv (X.wish E) pins σ H s:=⟨I.ok.wish E,I.os,I.bare,I.base,I.loc,I.cell,I.free,I.freeC,I.pin,I.hok,I.len⟩
theorem Inv.unwish (I:Inv (X.wish E) pins σ H s):Inv X pins σ H s:=⟨I.ok.unwish,I.os,I.bare,I.base,I.loc,I.cell,I.free,I.freeC,I.pin,I.hok,I.len⟩
theorem SP.unwish {D:Ends}{f:Flow}{s':Shared}(h:SP (X.wish E) pins D f s'):SP X pins D f s':=by
  cases f with
  | next=>obtain ⟨σ',H',I,q⟩:=h; exact ⟨σ',H',I.unwish,q⟩
  | brk=>obtain ⟨σ',H',I,q⟩:=h; exact ⟨σ',H',I.unwish,q⟩
  | cont=>obtain ⟨σ',H',I,q⟩:=h; exact ⟨σ',H',I.unwish,q⟩
  | ret u=>obtain ⟨v,σ',H',I,r,q⟩:=h; exact ⟨v,σ',H',I.unwish,r,q⟩
theorem PSs.nox {st:List Stmt}{t:TS}(h:PSs X.nox st t):PSs X st t:=fun pins s σ H D I hw =>
  wpAny_mono (h pins s σ H D (I.wish _) hw) (fun _ _ q=>q.unwish) fun _ _ z=>False.elim z
end
section
variable {X:Cx}{st:Stmt}{rest:List Stmt}{t u:TS}{e:Expr}{te:TE}{pos:Pos}
def tNext:TS:=fun D σ H=>D.nx σ H
def tSeq (t u:TS):TS:=fun D σ H=>t { D with nx:=u D } σ H
theorem qw:PSs X [] tNext:=fun _ _ σ H _ I h=>wpAny_execs_nil ⟨σ,H,I,h⟩
theorem qb (h1:PS X st t)(h2:PSs X rest u):PSs X (st::rest) (tSeq t u):=by
  intro pins s σ H D I h
  refine wpAny_execs_cons (thn (h1 pins s σ H { D with nx:=u D } I h) fun f s1 q=>?_)
  cases f with
  | next =>
    obtain ⟨σ',H',I',q⟩:=q
    exact h2 pins s1 σ' H' D I' q
  | ret v=>exact q
  | brk=>exact q
  | cont=>exact q
theorem qf (h1:PS X st t):PSs X [st] t:=by
  intro pins s σ H D I h
  refine wpAny_execs_cons (thn (h1 pins s σ H D I h) fun f s1 q=>?_)
  cases f with
  | next=>exact wpAny_execs_nil q
  | ret v=>exact q
  | brk=>exact q
  | cont=>exact q
def tCont:TS:=fun D σ H=>D.ct σ H
theorem ps_continue:PS X (.Continue pos) tCont:=fun _ _ σ H _ I h=>wpAny_Continue ⟨σ,H,I,h⟩
theorem Inv.quiet {pins:List (Addr×Obj)}{σ:St}{H:Hp}{s:Shared}(I:Inv X pins σ H s):interactive X.env=false:=by simp [interactive,I.ok.kind]
def tDrop (te:TE):TS:=fun D σ H=>te σ H fun _ H1=>D.nx σ H1
theorem qw1 (he:PE X e te)(hs:swapsWith e none pos.line X.env=pure false:=by rfl):PS X (.Expr e pos) (tDrop te):=by
  intro pins s σ H D I h
  exact wpAny_Expr_any (thn (he pins s σ H _ I h) fun v s1 ⟨x,H1,I1,r1,q1⟩=>⟨σ,H1,I1,q1⟩) I.quiet hs
def tRet (te:TE):TS:=fun D σ H=>te σ H D.rt
theorem qq0 (he:PE X e te):PS X (.Return (some e) pos) (tRet te):=by
  intro pins s σ H D I h
  exact wpAny_Return_some (thn (he pins s σ H _ I h) fun v s1 ⟨x,H1,I1,r1,q1⟩=>⟨x,σ,H1,I1,r1,q1⟩)
def tIfS (c:TT)(t u:TS):TS:=fun D σ H=>c σ H fun b H1=>if b=true then t D σ H1 else u D σ H1
theorem qo1 {c:Expr}{a b:List Stmt}{tc:TT}(hc:PT X c tc)(ha:PSs X a t)(hb:PSs X b u):PS X (.If c a b pos) (tIfS tc t u):=by
  intro pins s σ H D I h
  refine wpAny_If (thn (hc pins s σ H _ I h) fun d s1 ⟨H1,I1,q1⟩=>?_)
  cases d with
  | true=>exact ha pins s1 σ H1 D I1 q1
  | false=>exact hb pins s1 σ H1 D I1 q1
def tNever:TS:=fun _ _ _=>False
theorem ps_never:PS X st tNever:=fun _ _ _ _ _ _ h=>h.elim
end
abbrev TG:=V→St→Hp→(St→Hp→Prop)→Prop
abbrev TGs:=List V→St→Hp→(St→Hp→Prop)→Prop
def PG (X:Cx)(target:Expr)(t:TG):Prop :=
  ∀ (pins:List (Addr×Obj)) (s:Shared) (σ:St) (H:Hp) (v:V) (u:Value) (Q:St→Hp→Prop),Inv X pins σ H s→RelV v u→t v σ H Q →
    wpAny (model X.prog X.w) X.A (assign target X.env u) (fun _ s'=>∃ σ' H',Inv X pins σ' H' s'∧Q σ' H') X.xe s
def PGs (X:Cx)(ts:List Expr)(t:TGs):Prop :=
  ∀ (pins:List (Addr×Obj)) (s:Shared) (σ:St) (H:Hp) (vs:List V) (us:List Value) (Q:St→Hp→Prop),Inv X pins σ H s→Vals vs us→t vs σ H Q →
    wpAny (model X.prog X.w) X.A (assignInOrder ((assignEach ts X.env).map (·.2)) us) (fun _ s'=>∃ σ' H',Inv X pins σ' H' s'∧Q σ' H') X.xe s
section
variable {X:Cx}{pos:Pos}
def gName (i:Nat):TG:=fun v σ H Q=>Q (σ.set i (some v)) H
theorem qn0 {i:Nat}{x:Str}(hN:X.N.Nodup)(hi:X.N[i]?=some x)(hx:Loc X.env.scope x)(hf:X.fn x=true∨X.env.scope.names.lookup x=some .local:=by first | exact .inl rfl | exact .inr rfl | assumption):PG X (.Name x pos) (gName i):=by
  intro pins s σ H v u Q I r h
  exact wpAny_assign_Name (store_ok I hN hi hx r (fun s' I'=>⟨_,H,I',h⟩) hf)
def gNil:TGs:=fun vs σ H Q=>vs=[]∧Q σ H
def gCons (t:TG)(u:TGs):TGs:=fun vs σ H Q=>∃ v r,vs=v::r∧t v σ H fun σ' H'=>u r σ' H' Q
theorem pgs_nil:PGs X [] gNil:=by
  intro pins s σ H vs us Q I r h
  obtain ⟨e,h⟩:=h
  subst e
  cases r
  exact assignInOrder_nil ⟨σ,H,I,h⟩
theorem qb1 {e:Expr}{es:List Expr}{t:TG}{u:TGs}(h1:PG X e t)(h2:PGs X es u)
    (hs:(assignEach (e::es) X.env).map (·.2)=assign e X.env::(assignEach es X.env).map (·.2):=by rfl):PGs X (e::es) (gCons t u):=by
  intro pins s σ H vs us Q I r h
  obtain ⟨v,vr,e1,h⟩:=h
  subst e1
  cases r with
  | cons r rr =>
    rw [hs]
    refine assignInOrder_cons (thn (h1 pins s σ H _ _ _ I r h) fun _ s1 ⟨σ1,H1,I1,q1⟩=>?_)
    exact h2 pins s1 σ1 H1 _ _ Q I1 rr q1
def gTup (K:PySem.W.Frag)(n:Nat)(t:TGs):TG:=fun v σ H Q=>∃ a xs,v=.ref a∧SqT K H a xs∧xs.length=n∧t xs σ H Q
theorem pg_tup {es:List Expr}{k:Nat}{t:TGs}{n:Nat}(hc:X.calm=true)(h:PGs X es t)
    (hn:(assignEach es X.env).length=n:=by rfl) (hst:(assignEach es X.env).findIdx? (·.1)=none:=by rfl):PG X (.Tuple es k pos) (gTup X.K n t):=by
  intro pins s σ H v u Q I r hw
  obtain ⟨a,xs,e1,hq,hl,hw⟩:=hw
  subst e1
  cases r
  obtain ⟨its,rv,ht,hz⟩:=I.tuple hq
  refine assign_Tuple_tuple (I.ok.hd hc) ht (by simp [hn,← hl,rv.length]) hst fun h' hx=>?_
  have I1:Inv X pins σ H { s with heap:=h' }:=I.kept (t':=s.toks) fun b o e=>hx b o (Nat.ne_of_lt (Heap.lt_size e)) e
  exact h pins _ σ H xs _ Q I1 (by simpa using rv) hw
def tAsg (te:TE)(g:TG):TS:=fun D σ H=>te σ H fun x H1=>g x σ H1 D.nx
theorem ps_asg {tg e:Expr}{te:TE}{g:TG}(he:PE X e te)(hg:PG X tg g)(hs:swapsWithSole [tg] e pos.line X.env=pure false:=by rfl)(hw:swappedStores [tg] e X.env=pure none:=by rfl)
    (h1:(assignEach [tg] X.env).map (·.2)=[assign tg X.env]:=by rfl):PS X (.Assign [tg] e pos) (tAsg te g):=by
  intro pins s σ H D I h
  refine wpAny_Assign_stores (thn (he pins s σ H _ I h) fun v s1 ⟨x,H1,I1,r1,q1⟩=>?_) hs hw
  rw [h1]
  exact thn (hg pins s1 σ H1 x v _ I1 r1 q1) fun _ s2 q=>q
theorem ql {i:Nat}{x:Str}{e:Expr}{te:TE}{pos':Pos}(hN:X.N.Nodup)(hi:X.N[i]?=some x)(hx:Loc X.env.scope x)(he:PE X e te)(hs:swapsWith e (some (.Name x pos')) pos.line X.env=pure false:=by rfl)(hf:X.fn x=true∨X.env.scope.names.lookup x=some .local:=by first | exact .inl rfl | exact .inr rfl | assumption) :
    PS X (.Assign [.Name x pos'] e pos) (tAsg te (gName i)):=by
  intro pins s σ H D I h
  refine wpAny_Assign_Name (thn (he pins s σ H _ I h) fun v s1 ⟨y,H1,I1,r1,q1⟩=>?_) hs
  exact store_ok I1 hN hi hx r1 (fun s2 I2=>⟨_,H1,I2,q1⟩) hf
end
section
variable {X:Cx}{pos:Pos}
def tWhile (c:TT)(tb:TS):TS:=fun D σ H=>∃ W:Nat→St→Hp→Prop,(∃ m,W m σ H)∧∀ m σ H,W m σ H →
  c σ H fun b H1=>if b=true then ∃ N:St→Hp→Prop,(∀ σ' H',N σ' H'→∃ m',m'<m∧W m' σ' H')∧tb { D with nx:=N,ct:=N,bk:=D.nx } σ H1 else D.nx σ H1
theorem ps_while {c:Expr}{body:List Stmt}{tc:TT}{tb:TS}(hp:PassesOwn (model X.prog X.w) X.A X.env X.xe)(hc:PT X c tc)(hb:PSs X body tb):PS X (.While c body [] pos) (tWhile tc tb):=by
  intro pins s σ H D I h
  obtain ⟨W,⟨m0,w0⟩,turn⟩:=h
  refine wpAny_While (codeAny_whileLoop (fun n s'=>∃ σ' H',Inv X pins σ' H' s'∧W n σ' H') ?_ m0 ⟨σ,H,I,w0⟩)
  rintro n s1 ⟨σ1,H1,I1,w1⟩
  refine wpAny_passesOwn hp (thn (hc pins s1 σ1 H1 _ I1 (turn n σ1 H1 w1)) fun b s2 ⟨H2,I2,q2⟩=>?_)
  cases b with
  | true =>
    obtain ⟨N,hN,q2⟩:=q2
    rw [if_pos rfl]
    refine wpAny_passesOwn hp (thn (hb pins s2 σ1 H2 _ I2 q2) fun f s3 q3=>?_)
    cases f with
    | next =>
      obtain ⟨σ3,H3,I3,n3⟩:=q3
      obtain ⟨m',hm,w3⟩:=hN σ3 H3 n3
      exact ⟨m',hm,σ3,H3,I3,w3⟩
    | cont =>
      obtain ⟨σ3,H3,I3,n3⟩:=q3
      obtain ⟨m',hm,w3⟩:=hN σ3 H3 n3
      exact ⟨m',hm,σ3,H3,I3,w3⟩
    | brk=>exact q3
    | ret v=>exact q3
  | false =>
    rw [if_neg Bool.false_ne_true]
    exact wpAny_execs_nil ⟨σ1,H2,I2,q2⟩
end
structure It where
  go:Nat→Hp→Prop
  yld:Nat→Hp→V→Hp→Prop
  stop:Nat→Hp→Prop
def FpOk (X:Cx)(pins:List (Addr×Obj))(H:Hp)(b:Addr):Prop :=
  H b=none∧b≠X.env.locals∧b∉X.fs∧(b∈X.ex∨X.s₀.heap.objs.size≤b)∧(∀ x c,X.env.cells.lookup x=some c→c≠b)∧∀ p∈X.pn++pins,p.1≠b
theorem Inv.fpOk {X:Cx}{pins:List (Addr×Obj)}{σ:St}{H H':Hp}{s:Shared}{b:Addr}(I:Inv X pins σ H s)(hb:s.heap.objs.size≤b)(hn:H' b=none):FpOk X pins H' b:=by
  refine ⟨hn,Nat.ne_of_gt (Nat.lt_of_lt_of_le I.lt hb),I.nofs hb,.inr (Nat.le_trans I.sz hb),fun x c e z=>?_,fun p hp z=>?_⟩
  · obtain ⟨v,q⟩:=I.cell x c e
    exact absurd (Nat.lt_of_lt_of_le q.lt (by rw [z]; exact hb)) (Nat.lt_irrefl _)
  · exact absurd (Nat.lt_of_lt_of_le (Heap.lt_size (I.pin p hp).1) (by rw [z]; exact hb)) (Nat.lt_irrefl _)
structure Turn (P:Program)(w:World)(K:PySem.W.Frag)(tg:Expr)(J:It)(fp:List Addr)(it:Addr)(tn:Nat→Heap→Prop):Prop where
  mem:it∈fp
  obj:∀ i h,tn i h→∀ b∈fp,∃ o,h.get? b=some o∧∀ v,o.data≠.cell v
  keep:∀ i h h',tn i h→(∀ b∈fp,∀ o,h.get? b=some o→h'.get? b=some o)→tn i h'
  item:∀ (X:Cx),X.prog=P→X.w=w→X.K=K→X.calm=true→∀ (i:Nat) (pins:List (Addr×Obj)) (s:Shared) (σ:St) (H:Hp) (E:Value→Shared→Prop),Inv X pins σ H s→(∀ b∈fp,FpOk X pins H b)→tn i s.heap→J.go i H →
    wpAny (model P w) X.A (pyNext (.ref it)) (fun r s1=>∃ u,r=some u ∧
      wpAny (model P w) X.A (letOwnedTupleGo tg (.ref it) u) (fun _ s2=>∃ x H',Inv X pins σ H' s2∧RelV x u∧J.yld i H x H'∧tn (i+1) s2.heap∧∀ b∈fp,H' b=none) E s1) E s
  done:∀ (X:Cx),X.prog=P→X.w=w→X.K=K→X.calm=true→∀ (i:Nat) (pins:List (Addr×Obj)) (s:Shared) (σ:St) (H:Hp) (E:Value→Shared→Prop),Inv X pins σ H s→(∀ b∈fp,FpOk X pins H b)→tn i s.heap→J.stop i H →
    wpAny (model P w) X.A (pyNext (.ref it)) (fun r s1=>r=none∧Inv X pins σ H s1) E s
  self:∀ (A:Around) (i:Nat) (s:Shared) (Q:Value→Shared→Prop) (E:Value→Shared→Prop),tn i s.heap→Q (.ref it) s→wpAny (model P w) A (pyIter (.ref it)) Q E s
abbrev TI:=St→Hp→(It→Hp→Prop)→Prop
def PIE (X:Cx)(pins:List (Addr×Obj))(σ:St)(tg:Expr)(R:It→Hp→Prop)(itv:Value)(s2:Shared):Prop :=
  ∃ (it:Addr) (fp:List Addr) (tn:Nat→Heap→Prop) (J:It) (H':Hp),itv=.ref it∧Inv X pins σ H' s2∧Turn X.prog X.w X.K tg J fp it tn∧tn 0 s2.heap∧(∀ b∈fp,FpOk X pins H' b)∧R J H'
def PI (X:Cx)(tg iter:Expr)(wi:TI):Prop :=
  ∀ (pins:List (Addr×Obj)) (s:Shared) (σ:St) (H:Hp) (R:It→Hp→Prop),Inv X pins σ H s→wi σ H R →
    wpAny (model X.prog X.w) X.A (eval iter X.env) (fun v s1=>wpAny (model X.prog X.w) X.A (pyIter v) (PIE X pins σ tg R) X.xe s1) X.xe s
theorem go_of {M:Model}{A:Around}{E:Value→Shared→Prop}{s:Shared}{tg:Expr}{it:Addr}{u:Value}{o:Obj}{n:String}{vs:Array Value}{Q:Unit→Shared→Prop}(ho:s.heap.get? it=some o)(hc:o.cls=.type n)(hd:o.data=.fields vs)
    (hn:["enumerate","zip","dict_itemiterator","dict_reverseitemiterator","odict_iterator","itertools.zip_longest","itertools.pairwise"].contains n=false) (hQ:Q () s):wpAny M A (letOwnedTupleGo tg (.ref it) u) Q E s:=by
  unfold letOwnedTupleGo
  cases tg <;> first
    | exact wpAny_pure hQ
    | (cases u <;> first
        | exact wpAny_pure hQ
        | (refine wpAny_bind (wpAny_load ho ?_)
           rw [hc,hd]
           show wpAny M A (if (["enumerate","zip","dict_itemiterator","dict_reverseitemiterator","odict_iterator","itertools.zip_longest","itertools.pairwise"].contains n && vs[0]? == some (rawInt _))=true then _ else _) Q E s
           rw [if_neg (by intro h; rw [hn,Bool.false_and] at h; cases h)]
           exact wpAny_pure hQ))
def Itl (K:PySem.W.Frag)(a:Addr):It :=
  ⟨fun i H=>∃ xs x,SqL K H a xs∧xs[i]?=some x,fun i H x H'=>H'=H∧∀ xs,SqL K H a xs→xs[i]?=some x,fun i H=>∃ xs,SqL K H a xs∧xs.length≤i⟩
def Itt (K:PySem.W.Frag)(a:Addr):It :=
  ⟨fun i H=>∃ xs x,SqT K H a xs∧xs[i]?=some x,fun i H x H'=>H'=H∧∀ xs,SqT K H a xs→xs[i]?=some x,fun i H=>∃ xs,SqT K H a xs∧xs.length≤i⟩
def Itr (lo:Int)(n:Nat):It:=⟨fun i _=>i<n,fun i H x H'=>H'=H∧x=.int (lo+i),fun i _=>n≤i⟩
theorem turn_list {P:Program}{w:World}{K:PySem.W.Frag}{tg:Expr}(a it:Addr):Turn P w K tg (Itl K a) [it] it (fun i h=>h.IsListIter it a i) where
  mem:=by simp
  obj:=fun i h st b hb=>by
    have e:b=it:=by simpa using hb
    subst e
    obtain ⟨o,e,c,d⟩:=st
    exact ⟨o,e,fun v z=>by rw [d] at z; cases z⟩
  keep:=fun i h h' st k=>st.at fun o e=>k it (by simp) o e
  item:=by
    intro X hP hw hK hc i pins s σ H E I hf st hg
    subst hP hw hK
    obtain ⟨xs,x,hq,hx⟩:=hg
    obtain ⟨its,rv,p,hz⟩:=I.list hq
    obtain ⟨u,hu,ru⟩:=rv.get hx
    obtain ⟨f0,f1,f2,f3,f4,f5⟩:=hf it (by simp)
    refine wpAny_pyNext_list_item st p.isList (x:=u) (by simpa using hu) fun h' st' sb=>?_
    have I1:Inv X pins σ H { s with heap:=h' }:=I.turned (t':=s.toks) (fun b o hb e=>(sb.2 b hb).trans e) f0 f1 f3 f4 f5
    obtain ⟨o,e,c,d⟩:=id st'
    exact ⟨u,rfl,go_of (s:={ s with heap:=h' }) e c d (by decide) ⟨x,H,I1,ru,⟨rfl,fun ys hy=>by rw [I.list_inj hy hq]; exact hx⟩,st',fun b hb=>(hf b hb).1⟩⟩
  done:=by
    intro X hP hw hK hc i pins s σ H E I hf st hg
    subst hP hw hK
    obtain ⟨xs,hq,hx⟩:=hg
    obtain ⟨its,rv,p,hz⟩:=I.list hq
    obtain ⟨f0,f1,f2,f3,f4,f5⟩:=hf it (by simp)
    have hl:=rv.length
    exact wpAny_pyNext_list_end (I.ok.hd hc) st p.isList (by simp; omega) fun h' eb=>⟨rfl,I.turned (t':=s.toks) (fun b o hb e=>eb b o hb e) f0 f1 f3 f4 f5⟩
  self:=fun _ _ _ _ _ st h=>wpAny_pyIter_listiter st h
theorem turn_range {P:Program}{w:World}{K:PySem.W.Frag}{tg:Expr}(it:Addr)(lo:Int)(n:Nat):Turn P w K tg (Itr lo n) [it] it (fun i h=>IsRangeIter h it (lo+(i:Nat) * 1) ((n:Int) - (i:Nat)) 1) where
  mem:=by simp
  obj:=fun i h st b hb=>by
    have e:b=it:=by simpa using hb
    subst e
    exact ⟨_,st,fun v z=>by
      have z':Data.fields _=Data.cell v:=z
      cases z'⟩
  keep:=fun i h h' st k=>k it (by simp) _ st
  item:=by
    intro X hP hw hK hc i pins s σ H E I hf st hg
    subst hP hw hK
    obtain ⟨f0,f1,f2,f3,f4,f5⟩:=hf it (by simp)
    have W:=Walks.range (prog:=X.prog) (w:=X.w) (I.ok.hd hc) it lo 1 n
    refine W.item i s _ _ hg st fun v h' tk hv st' kk=>?_
    obtain ⟨t,rfl⟩:=hv
    have I1:Inv X pins σ H { s with heap:=h',toks:=tk }:=I.turned (fun b o hb e=>kk b o (by simpa using hb) e) f0 f1 f3 f4 f5
    refine ⟨_,rfl,go_of (s:={ s with heap:=h',toks:=tk }) (n:="range_iterator") st' rfl rfl (by decide) ⟨.int (lo+i),H,I1,⟨t,?_⟩,⟨rfl,rfl⟩,st',fun b hb=>(hf b hb).1⟩⟩
    rw [Int.mul_one]
  done:=by
    intro X hP hw hK hc i pins s σ H E I hf st hg
    subst hP hw hK
    obtain ⟨f0,f1,f2,f3,f4,f5⟩:=hf it (by simp)
    exact wpAny_pyNext_range_end (I.ok.hd hc) st (by have:n≤i:=hg; omega) fun h' eb=>⟨rfl,I.turned (t':=s.toks) (fun b o hb e=>eb b o hb e) f0 f1 f3 f4 f5⟩
  self:=fun _ _ _ _ _ st h=>wpAny_pyIter_rangeiter st h
end L2
namespace L2
open PySem PySem.Spec PyProof.Rows
section
variable {X:Cx}{tg:Expr}
def iList (K:PySem.W.Frag)(tl:TE):TI:=fun σ H R=>tl σ H fun x H1=>∃ a,x=.ref a∧(∃ xs,SqL K H1 a xs)∧R (Itl K a) H1
theorem qd2 {l:Expr}{tl:TE}(hl:PE X l tl):PI X tg l (iList X.K tl):=by
  intro pins s σ H R I h
  refine thn (hl pins s σ H _ I h) fun v s1 ⟨x,H1,I1,r1,q1⟩=>?_
  obtain ⟨a,e,⟨xs,hq⟩,q⟩:=q1
  subst e
  cases r1
  obtain ⟨its,rv,p,hz⟩:=I1.list hq
  refine wpAny_pyIter_list p.isList ?_
  refine ⟨s1.heap.objs.size,[s1.heap.objs.size],_,_,H1,rfl,I1.kept (t':=s1.toks) fun b o e=>Heap.get?_push_of_some _ e,turn_list a _,⟨_,Heap.get?_push_size _ rfl,rfl,rfl⟩,fun b hb=>?_,q⟩
  have e:b=s1.heap.objs.size:=by simpa using hb
  subst e
  exact I1.fpOk (Nat.le_refl _) (I1.hok.fresh (Nat.le_refl _))
theorem range_it {pins:List (Addr×Obj)}{σ:St}{H:Hp}{s:Shared}{R:It→Hp→Prop}{E:Value→Shared→Prop}{lo hi:Int}{t u v:Tok}{tk:Nat}(I:Inv X pins σ H s)(h1:-(2 ^ 62)≤lo)(h2:lo<2 ^ 62)(h3:-(2 ^ 62)≤hi)(h4:hi<2 ^ 62)
    (q:R (Itr lo (hi - lo).toNat) H):wpAny (model X.prog X.w) X.A (pyIter (.ref s.heap.objs.size)) (PIE X pins σ tg R) E { s with heap:=s.heap.push { cls:=.type "range",data:=.fields #[.int lo t,.int hi u,.int 1 v] },toks:=tk }:=by
  refine wpAny_pyIter_range (IsRange.new ..) (small_one h1 h2 h3 h4) ?_
  have I1:Inv X pins σ H { s with heap:=s.heap.push { cls:=.type "range",data:=.fields #[.int lo t,.int hi u,.int 1 v] },toks:=tk }:=I.kept fun b o e=>Heap.get?_push_of_some _ e
  refine ⟨(s.heap.push { cls:=.type "range",data:=.fields #[.int lo t,.int hi u,.int 1 v] }).objs.size,[(s.heap.push { cls:=.type "range",data:=.fields #[.int lo t,.int hi u,.int 1 v] }).objs.size],_,_,H,rfl,
    I1.kept (t':=tk) fun b o e=>Heap.get?_push_of_some _ e,turn_range _ lo (hi - lo).toNat,?_,fun b hb=>?_,q⟩
  · have e1:lo+((0:Nat):Int) * 1=lo:=by simp
    have e2:(((hi - lo).toNat:Nat):Int) - ((0:Nat):Int)=Builtin.Range.rangeSize lo hi 1:=by rw [rangeSize_one]; split <;> omega
    show IsRangeIter _ _ (lo+((0:Nat):Int) * 1) ((((hi - lo).toNat:Nat):Int) - ((0:Nat):Int)) 1
    rw [e1,e2]
    exact Heap.get?_push_size _ rfl
  · have e:b=(s.heap.push { cls:=.type "range",data:=.fields #[.int lo t,.int hi u,.int 1 v] }).objs.size:=by simpa using hb
    subst e
    exact I1.fpOk (Nat.le_refl _) (I1.hok.fresh (Nat.le_refl _))
def iRng1 (ta:TA):TI:=fun σ H R=>ta σ H fun vs H1=>∃ j:Int,vs=[.int j]∧-(2 ^ 62)≤j∧j<2 ^ 62∧R (Itr 0 j.toNat) H1
def iRng2 (ta:TA):TI:=fun σ H R=>ta σ H fun vs H1=>∃ i j:Int,vs=[.int i,.int j]∧(-(2 ^ 62)≤i∧i<2 ^ 62∧-(2 ^ 62)≤j∧j<2 ^ 62)∧R (Itr i (j - i).toNat) H1
theorem pi_range1 {a:Expr}{ta:TA}{p pos:Pos}(hg:Gl X "range")(hm:X.mg "range"=none)(ha:PA X [a] ta)(hs:starEach [a] X.env=[(false,eval a X.env)]:=by rfl):PI X tg (.Call (.Name "range" p) [a] [] pos) (iRng1 ta):=by
  intro pins s σ H R I h
  refine Call_ (ld_blt I hg hm boot_range (PyProof.Rows.callWith_type1 (thn (ha pos pins s σ H _ I h) fun us s1 ⟨vs,H1,I1,r1,q1⟩=>?_) hs rfl))
  obtain ⟨j,e,q1,q2,q⟩:=q1
  subst e
  cases r1 with
  | cons r rr =>
    cases rr
    obtain ⟨t,rfl⟩:=r
    exact call_range_1 (range_it I1 (by omega) (by omega) q1 q2 (by simpa using q))
theorem pi_range2 {a b:Expr}{ta:TA}{p pos:Pos}(hg:Gl X "range")(hm:X.mg "range"=none)(ha:PA X [a,b] ta)(hs:starEach [a,b] X.env=[(false,eval a X.env),(false,eval b X.env)]:=by rfl)(hs2:starEach [b] X.env=[(false,eval b X.env)]:=by rfl) :
    PI X tg (.Call (.Name "range" p) [a,b] [] pos) (iRng2 ta):=by
  intro pins s σ H R I h
  refine Call_ (ld_blt I hg hm boot_range (PyProof.Rows.callWith_type1 (thn (ha pos pins s σ H _ I h) fun us s1 ⟨vs,H1,I1,r1,q1⟩=>?_) (by rw [hs,hs2]) (by rw [hs2]; rfl)))
  obtain ⟨i,j,e,⟨q1,q2,q3,q4⟩,q⟩:=q1
  subst e
  cases r1 with
  | cons r rr =>
    cases rr with
    | cons r' rr =>
      cases rr
      obtain ⟨t,rfl⟩:=r
      obtain ⟨t',rfl⟩:=r'
      exact call_range_2 (range_it I1 q1 q2 q3 q4 q)
def tFor (wi:TI)(g:TG)(tb:TS):TS:=fun D σ H=>wi σ H fun J H1=>∃ W:Nat→Nat→St→Hp→Prop,(∃ m,W 0 m σ H1)∧∀ i m σ H,W i m σ H →
  (J.stop i H∧D.nx σ H)∨(J.go i H∧∃ N:St→Hp→Prop,(∀ σ' H',N σ' H'→∃ m',m'<m∧W (i+1) m' σ' H')∧∀ x H',J.yld i H x H'→g x σ H' fun σ2 H2=>tb { D with nx:=N,ct:=N,bk:=D.nx } σ2 H2)
def pinsAt (fp:List Addr)(h:Heap):List (Addr×Obj):=fp.filterMap fun b=>(h.get? b).map fun o=>(b,o)
theorem mem_pinsAt {fp:List Addr}{h:Heap}{b:Addr}{o:Obj}(hb:b∈fp)(e:h.get? b=some o):(b,o)∈pinsAt fp h:=List.mem_filterMap.mpr ⟨b,hb,by rw [e]; rfl⟩
theorem of_pinsAt {fp:List Addr}{h:Heap}{p:Addr×Obj}(hp:p∈pinsAt fp h):p.1∈fp∧h.get? p.1=some p.2:=by
  obtain ⟨b,hb,e⟩:=List.mem_filterMap.mp hp
  cases q:h.get? b with
  | none=>rw [q] at e; cases e
  | some o =>
    rw [q] at e
    have e':(b,o)=p:=Option.some.inj e
    subst e'
    exact ⟨hb,q⟩
theorem Inv.pinned {pins:List (Addr×Obj)}{σ:St}{H:Hp}{s:Shared}{fp:List Addr}(I:Inv X pins σ H s)(hf:∀ b∈fp,FpOk X pins H b)(ho:∀ b∈fp,∃ o,s.heap.get? b=some o∧∀ v,o.data≠.cell v):Inv X (pins++pinsAt fp s.heap) σ H s :=
  I.pins_of fun p hp=>(List.mem_append.mp hp).elim (fun z=>I.pin p (List.mem_append_right _ z)) fun z=>by
    obtain ⟨hb,e⟩:=of_pinsAt z
    obtain ⟨f0,f1,f2,_⟩:=hf p.1 hb
    obtain ⟨o,e',d⟩:=ho p.1 hb
    rw [e] at e'; cases e'
    exact ⟨e,f0,f1,f2,d⟩
theorem Inv.unpinned {pins pl:List (Addr×Obj)}{σ:St}{H:Hp}{s:Shared}(I:Inv X (pins++pl) σ H s):Inv X pins σ H s:=I.pins_of fun p hp=>I.pin p (List.mem_append_right _ (List.mem_append_left _ hp))
theorem ps_for {iter:Expr}{body:List Stmt}{wi:TI}{g:TG}{tb:TS}{pos:Pos}(hp:PassesOwn (model X.prog X.w) X.A X.env X.xe)(hc:X.calm=true)(hi:PI X tg iter wi)(hg:PG X tg g)(hb:PSs X body tb)
    (hs:∀ x,foldedSetIterable iter X.env x=pure x:=by intro _; rfl):PS X (.For tg iter body [] pos) (tFor wi g tb):=by
  intro pins s σ H D I h
  refine wpAny_For (thn (hi pins s σ H _ I h) fun v s1 h1=>thn h1 fun itv s2 h2=>?_) hs
  obtain ⟨it,fp,tn,J,H2,e,I2,T,st2,f2,W,⟨m0,w0⟩,turn⟩:=h2
  subst e
  -- what stays true of the iterator's objects through the loop
  have stat:∀ {H':Hp},(∀ b∈fp,H' b=none)→∀ b∈fp,FpOk X pins H' b:=fun hn b hb=>⟨hn b hb,(f2 b hb).2⟩
  refine codeAny_forLoop_any (fun n s'=>∃ i σ' H',Inv X pins σ' H' s'∧tn i s'.heap∧(∀ b∈fp,H' b=none)∧W i n σ' H') ?_ m0 ⟨0,σ,H2,I2,st2,fun b hb=>(f2 b hb).1,w0⟩
  rintro n s3 ⟨i,σ3,H3,I3,st3,fr3,w3⟩
  rcases turn i n σ3 H3 w3 with ⟨stop,qn⟩ | ⟨go,N,hN,step⟩
  · refine wpAny_passesOwn hp (thn (T.done X rfl rfl rfl hc i pins s3 σ3 H3 X.xe I3 (stat fr3) st3 stop) fun r s4 ⟨hr,I4⟩=>?_)
    subst hr
    exact wpAny_execs_nil ⟨σ3,H3,I4,qn⟩
  · refine wpAny_passesOwn hp (thn (T.item X rfl rfl rfl hc i pins s3 σ3 H3 X.xe I3 (stat fr3) st3 go) fun r s4 ⟨u,hr,h4⟩=>?_)
    subst hr
    refine wpAny_passesOwn hp (thn h4 fun _ s5 ⟨x,H5,I5,r5,y5,st5,fr5⟩=>?_)
    have I5':=I5.pinned (stat fr5) (T.obj _ _ st5)
    refine wpAny_passesOwn hp (thn (hg _ s5 σ3 H5 x u _ I5' r5 (step x H5 y5)) fun _ s6 ⟨σ6,H6,I6,q6⟩=>?_)
    refine wpAny_passesOwn hp (thn (hb _ s6 σ6 H6 _ I6 q6) fun f s7 q7=>?_)
    have again:∀ {σ7:St} {H7:Hp},Inv X (pins++pinsAt fp s5.heap) σ7 H7 s7→N σ7 H7→∃ m,m<n∧∃ i σ' H',Inv X pins σ' H' s7∧tn i s7.heap∧(∀ b∈fp,H' b=none)∧W i m σ' H':=fun {σ7 H7} I7 n7=>by
      obtain ⟨m',hm,w7⟩:=hN σ7 H7 n7
      refine ⟨m',hm,i+1,σ7,H7,I7.unpinned,T.keep _ _ _ st5 fun b hb o e=>(I7.pin (b,o) (List.mem_append_right _ (List.mem_append_right _ (mem_pinsAt hb e)))).1,fun b hb=>?_,w7⟩
      obtain ⟨o,e,d⟩:=T.obj _ _ st5 b hb
      exact (I7.pin (b,o) (List.mem_append_right _ (List.mem_append_right _ (mem_pinsAt hb e)))).2.1
    cases f with
    | next=>obtain ⟨σ7,H7,I7,n7⟩:=q7; exact again I7 n7
    | cont=>obtain ⟨σ7,H7,I7,n7⟩:=q7; exact again I7 n7
    | brk=>obtain ⟨σ7,H7,I7,q7⟩:=q7; exact ⟨σ7,H7,I7.unpinned,q7⟩
    | ret v=>obtain ⟨x7,σ7,H7,I7,r7,q7⟩:=q7; exact ⟨x7,σ7,H7,I7.unpinned,r7,q7⟩
end
theorem for_list {K:PySem.W.Frag}{a:Addr}{xs:List V}{g:TG}{tb:TS}{D:Ends}{σ:St}{H:Hp}(Pv:Nat→St→Hp→Prop)(h0:Pv 0 σ H)(hl:∀ i σ H,i≤xs.length→Pv i σ H→SqL K H a xs)
    (hs:∀ i x σ H,xs[i]?=some x→Pv i σ H→g x σ H fun σ2 H2=>tb { D with nx:=Pv (i+1),ct:=Pv (i+1),bk:=D.nx } σ2 H2) (hd:∀ σ H,Pv xs.length σ H→D.nx σ H) :
    ∃ W:Nat→Nat→St→Hp→Prop,(∃ m,W 0 m σ H)∧∀ i m σ H,W i m σ H →
      ((Itl K a).stop i H∧D.nx σ H)∨((Itl K a).go i H∧∃ N:St→Hp→Prop,(∀ σ' H',N σ' H'→∃ m',m'<m∧W (i+1) m' σ' H')∧∀ x H',(Itl K a).yld i H x H'→g x σ H' fun σ2 H2=>tb { D with nx:=N,ct:=N,bk:=D.nx } σ2 H2):=by
  refine ⟨fun i m σ H=>m=xs.length - i∧i≤xs.length∧Pv i σ H,⟨xs.length,by simp,Nat.zero_le _,h0⟩,?_⟩
  rintro i m σ H ⟨rfl,hi,p⟩
  have q:=hl i σ H hi p
  by_cases hlt:i<xs.length
  · refine .inr ⟨⟨xs,xs[i],q,by simp [hlt]⟩,Pv (i+1),fun σ' H' p'=>⟨xs.length - (i+1),by omega,rfl,hlt,p'⟩,fun x H' y=>?_⟩
    obtain ⟨e,y⟩:=y
    subst e
    exact hs i x σ _ (y xs q) p
  · have e:i=xs.length:=by omega
    subst e
    exact .inl ⟨⟨xs,q,Nat.le_refl _⟩,hd σ H p⟩
theorem for_range {lo:Int}{n:Nat}{g:TG}{tb:TS}{D:Ends}{σ:St}{H:Hp}(Pv:Nat→St→Hp→Prop)(h0:Pv 0 σ H)
    (hs:∀ i σ H,i<n→Pv i σ H→g (.int (lo+i)) σ H fun σ2 H2=>tb { D with nx:=Pv (i+1),ct:=Pv (i+1),bk:=D.nx } σ2 H2) (hd:∀ σ H,Pv n σ H→D.nx σ H) :
    ∃ W:Nat→Nat→St→Hp→Prop,(∃ m,W 0 m σ H)∧∀ i m σ H,W i m σ H →
      ((Itr lo n).stop i H∧D.nx σ H)∨((Itr lo n).go i H∧∃ N:St→Hp→Prop,(∀ σ' H',N σ' H'→∃ m',m'<m∧W (i+1) m' σ' H')∧∀ x H',(Itr lo n).yld i H x H'→g x σ H' fun σ2 H2=>tb { D with nx:=N,ct:=N,bk:=D.nx } σ2 H2):=by
  refine ⟨fun i m σ H=>m=n - i∧i≤n∧Pv i σ H,⟨n,by simp,Nat.zero_le _,h0⟩,?_⟩
  rintro i m σ H ⟨rfl,hi,p⟩
  by_cases hlt:i<n
  · refine .inr ⟨hlt,Pv (i+1),fun σ' H' p'=>⟨n - (i+1),by omega,rfl,hlt,p'⟩,fun x H' y=>?_⟩
    obtain ⟨e,y⟩:=y
    subst e y
    exact hs i σ _ hlt p
  · have e:i=n:=by omega
    subst e
    exact .inl ⟨Nat.le_refl _,hd σ H p⟩
end L2
namespace L2
open PySem PySem.Spec PyProof.Rows
abbrev R2:=V→V→Hp→VK→Prop
def OpR (X:Cx)(f:Value→Value→Sem Value)(r:R2):Prop :=
  ∀ (pins:List (Addr×Obj)) (s:Shared) (σ:St) (H:Hp) (x y:V) (v u:Value) (Q:VK),Inv X pins σ H s→RelV x v→RelV y u→r x y H Q →
    wpAny (model X.prog X.w) X.A (f v u) (EP X pins σ Q) X.xe s
def UnR (X:Cx)(f:Value→Sem Value)(r:V→Hp→VK→Prop):Prop :=
  ∀ (pins:List (Addr×Obj)) (s:Shared) (σ:St) (H:Hp) (x:V) (v:Value) (Q:VK),Inv X pins σ H s→RelV x v→r x H Q →
    wpAny (model X.prog X.w) X.A (f v) (EP X pins σ Q) X.xe s
def CallR (X:Cx)(f:Value)(r:List V→Hp→VK→Prop):Prop :=
  ∀ (pins:List (Addr×Obj)) (s:Shared) (σ:St) (H:Hp) (xs:List V) (us:List Value) (Q:VK),Inv X pins σ H s→Vals xs us→r xs H Q →
    wpAny (model X.prog X.w) X.A (call f us) (EP X pins σ Q) X.xe s
def tOp (r:R2)(ta tb:TE):TE:=fun σ H Q=>ta σ H fun x H1=>tb σ H1 fun y H2=>r x y H2 Q
def tUn (r:V→Hp→VK→Prop)(ta:TE):TE:=fun σ H Q=>ta σ H fun x H1=>r x H1 Q
def rI (C:Int→Int→Prop)(g:Int→Int→V):R2:=fun x y H Q=>∃ i j,x=.int i∧y=.int j∧C i j∧Q (g i j) H
def rI0 (g:Int→Int→V):R2:=fun x y H Q=>∃ i j,x=.int i∧y=.int j∧Q (g i j) H
def rU (g:Int→V):V→Hp→VK→Prop:=fun x H Q=>∃ i,x=.int i∧Q (g i) H
section
variable {X:Cx}{a b c:Expr}{ta tb tc:TE}{pos:Pos}
theorem binT (ha:PE X a ta)(hb:PE X b tb){pins:List (Addr×Obj)}{s:Shared}{σ:St}{H:Hp}{R:V→V→Hp→Prop}(I:Inv X pins σ H s)
    (h:ta σ H fun x H1=>tb σ H1 fun y H2=>R x y H2) {Q:Value→Shared→Prop} {f:Value→Value→Sem Value}
    (hf:∀ v u s2 x y H2,Inv X pins σ H2 s2→RelV x v→RelV y u→R x y H2→wpAny (model X.prog X.w) X.A (f v u) Q X.xe s2) :
    wpAny (model X.prog X.w) X.A (eval a X.env) (fun v s₁=>wpAny (model X.prog X.w) X.A (eval b X.env) (fun u s₂=>wpAny (model X.prog X.w) X.A (f v u) Q X.xe s₂) X.xe s₁) X.xe s:=by
  refine thn (ha pins s σ H _ I h) fun v s1 ⟨x,H1,I1,r1,q1⟩=>?_
  refine thn (hb pins s1 σ H1 _ I1 q1) fun u s2 ⟨y,H2,I2,r2,q2⟩=>?_
  exact hf v u s2 x y H2 I2 r1 r2 q2
theorem qs0 {op:Operator}{r:R2}(ho:OpR X (binaryOp op) r)(ha:PE X a ta)(hb:PE X b tb):PE X (.BinOp a op b pos) (tOp r ta tb):=by
  intro pins s σ H Q I h
  exact wpAny_BinOp (binT ha hb I h fun v u s2 x y H2 I2 rx ry q=>ho pins s2 σ H2 x y v u Q I2 rx ry q)
theorem pe_un {op:UnaryOp}{r:V→Hp→VK→Prop}(ho:UnR X (unaryOp op) r)(ha:PE X a ta):PE X (.UnaryOp op a pos) (tUn r ta):=by
  intro pins s σ H Q I h
  exact UnaryOp_ (thn (ha pins s σ H _ I h) fun v s1 ⟨x,H1,I1,r1,q1⟩=>ho pins s1 σ H1 x v Q I1 r1 q1)
theorem opI {f:Value→Value→Sem Value}{C:Int→Int→Prop}{g:Int→Int→Int}
    (rule:∀ (i j:Int) (t u:Tok) (s:Shared) (Q:Value→Shared→Prop) (E:Value→Shared→Prop),C i j→Q (.int (g i j) s.toks) { s with toks:=s.toks+1 }→wpAny (model X.prog X.w) X.A (f (.int i t) (.int j u)) Q E s) :
    OpR X f (rI C fun i j=>.int (g i j)):=by
  intro pins s σ H x y v u Q I rx ry h
  obtain ⟨i,j,rfl,rfl,hc,q⟩:=h
  obtain ⟨t,rfl⟩:=rx
  obtain ⟨t',rfl⟩:=ry
  exact rule i j t t' s _ _ hc ⟨.int (g i j),H,I.tok _,⟨_,rfl⟩,q⟩
theorem opI0 {f:Value→Value→Sem Value}{g:Int→Int→Int}
    (rule:∀ (i j:Int) (t u:Tok) (s:Shared) (Q:Value→Shared→Prop) (E:Value→Shared→Prop),Q (.int (g i j) s.toks) { s with toks:=s.toks+1 }→wpAny (model X.prog X.w) X.A (f (.int i t) (.int j u)) Q E s) :
    OpR X f (rI0 fun i j=>.int (g i j)):=by
  intro pins s σ H x y v u Q I rx ry h
  obtain ⟨i,j,rfl,rfl,q⟩:=h
  obtain ⟨t,rfl⟩:=rx
  obtain ⟨t',rfl⟩:=ry
  exact rule i j t t' s _ _ ⟨.int (g i j),H,I.tok _,⟨_,rfl⟩,q⟩
theorem opB0 {f:Value→Value→Sem Value}{g:Int→Int→Bool}
    (rule:∀ (i j:Int) (t u:Tok) (s:Shared) (Q:Value→Shared→Prop) (E:Value→Shared→Prop),Q (.bool (g i j)) s→wpAny (model X.prog X.w) X.A (f (.int i t) (.int j u)) Q E s) :
    OpR X f (rI0 fun i j=>.bl (g i j)):=by
  intro pins s σ H x y v u Q I rx ry h
  obtain ⟨i,j,rfl,rfl,q⟩:=h
  obtain ⟨t,rfl⟩:=rx
  obtain ⟨t',rfl⟩:=ry
  exact rule i j t t' s _ _ ⟨.bl (g i j),H,I,rfl,q⟩
def CPow (i j:Int):Prop:=0≤j∧j≤1000000∧i.natAbs<2 ^ 64
def CMul (i j:Int):Prop:=(-(2 ^ 64)<i∧i<2 ^ 64)∨(-(2 ^ 64)<j∧j<2 ^ 64)
theorem CMul.ok {i j:Int}(h:CMul i j):IntMulOk i j:=by
  rcases h with ⟨h1,h2⟩ | ⟨h1,h2⟩
  · exact .of_left (intBits_le_64 h1 h2)
  · exact .of_right (intBits_le_64 h1 h2)
theorem qf2:OpR X (binaryOp .Add) (rI0 fun i j=>.int (i+j)):=opI0 fun _ _ _ _ _ _ _ q=>add_int q
theorem op_sub:OpR X (binaryOp .Sub) (rI0 fun i j=>.int (i - j)):=opI0 fun _ _ _ _ _ _ _ q=>sub_int q
theorem op_mul:OpR X (binaryOp .Mult) (rI CMul fun i j=>.int (i * j)):=opI fun _ _ _ _ _ _ _ hc q=>mul_int q hc.ok
theorem qf1:OpR X (binaryOp .Mod) (rI (fun _ j=>0<j) fun i j=>.int (i % j)):=opI fun i j _ _ _ _ _ hc q=>by
  have h1:(0:Int)<j:=hc
  exact mod_int' (by omega) (by rw [Int.fmod_eq_emod_of_nonneg i (by omega)]; exact q)
theorem op_pow:OpR X (binaryOp .Pow) (rI CPow fun i j=>.int (i ^ j.toNat)):=opI fun _ _ _ _ _ _ _ hc q=>pow_int_small hc.1 hc.2.1 hc.2.2 q
theorem unI {f:Value→Sem Value}{g:Int→Int}
    (rule:∀ (i:Int) (t:Tok) (s:Shared) (Q:Value→Shared→Prop) (E:Value→Shared→Prop),Q (.int (g i) s.toks) { s with toks:=s.toks+1 }→wpAny (model X.prog X.w) X.A (f (.int i t)) Q E s) :
    UnR X f (rU fun i=>.int (g i)):=by
  intro pins s σ H x v Q I rx h
  obtain ⟨i,rfl,q⟩:=h
  obtain ⟨t,rfl⟩:=rx
  exact rule i t s _ _ ⟨.int (g i),H,I.tok _,⟨_,rfl⟩,q⟩
theorem un_neg:UnR X (unaryOp .USub) (rU fun i=>.int (-i)):=unI fun _ _ _ _ _ q=>neg_int q
end
def scal:V→V→Bool
  | .non,.non=>true | .non,.int _=>true | .int _,.non=>true | .non,.bl _=>true | .bl _,.non=>true | .non,.str _=>true | .str _,.non=>true
  | .int _,.int _=>true | .bl _,.bl _=>true | .str _,.str _=>true | .byt _,.byt _=>true
  | .int _,.str _=>true | .str _,.int _=>true | .bl _,.str _=>true | .str _,.bl _=>true
  | _,_=>false
def rEq:R2:=fun x y H Q=>scal x y=true∧Q (.bl (decide (x=y))) H
def rNe:R2:=fun x y H Q=>scal x y=true∧Q (.bl (!decide (x=y))) H
theorem dec_int {i j:Int}:decide (V.int i=V.int j)=(i == j):=by
  rw [Bool.eq_iff_iff]
  simp
theorem dec_bl {i j:Bool}:decide (V.bl i=V.bl j)=(i == j):=by
  rw [Bool.eq_iff_iff]
  simp
theorem dec_str {i j:Str}:decide (V.str i=V.str j)=(i == j):=by
  rw [Bool.eq_iff_iff]
  simp
theorem dec_byt {i j:Array UInt8}:decide (V.byt i=V.byt j)=(i.toList == j.toList):=by
  rw [Bool.eq_iff_iff]
  cases i
  cases j
  simp
section
variable {X:Cx}{a b c:Expr}{ta tb tc:TE}{pos:Pos}
theorem qn1 {pins:List (Addr×Obj)}{σ:St}{H:Hp}{s:Shared}{Q:VK}{k k':Bool}(I:Inv X pins σ H s)(q:Q (.bl k) H)(e:k=k'):EP X pins σ Q (.bool k') s:=by
  subst e
  exact ⟨.bl k,H,I,rfl,q⟩
theorem op_eq:OpR X (compareOp .Eq) rEq:=by
  intro pins s σ H x y v u Q I rx ry h
  obtain ⟨hs,q⟩:=h
  cases x with
  | non =>
    cases rx
    cases y with
    | non=>cases ry; exact PySem.EqNone.eq_none_none (qn1 I q (by simp))
    | bl j=>cases ry; exact PySem.EqNone.eq_none_bool (qn1 I q (by simp))
    | int j=>obtain ⟨t',rfl⟩:=ry; exact PySem.EqNone.eq_none_int (qn1 I q (by simp))
    | str j=>obtain ⟨t',rfl⟩:=ry; exact PySem.EqNone.eq_none_str (qn1 I q (by simp))
    | _=>exact absurd (show false=true from hs) Bool.false_ne_true
  | bl i =>
    cases rx
    cases y with
    | non=>cases ry; exact PySem.EqNone.eq_bool_none (qn1 I q (by simp))
    | bl j=>cases ry; exact eq_bool (qn1 I q dec_bl)
    | str j=>obtain ⟨t',rfl⟩:=ry; exact PySem.EqMixed.eq_bool_str (qn1 I q (by simp))
    | _=>exact absurd (show false=true from hs) Bool.false_ne_true
  | int i =>
    obtain ⟨t,rfl⟩:=rx
    cases y with
    | non=>cases ry; exact PySem.EqNone.eq_int_none (qn1 I q (by simp))
    | int j=>obtain ⟨t',rfl⟩:=ry; exact eq_int (qn1 I q dec_int)
    | str j=>obtain ⟨t',rfl⟩:=ry; exact PySem.EqMixed.eq_int_str (qn1 I q (by simp))
    | _=>exact absurd (show false=true from hs) Bool.false_ne_true
  | str i =>
    obtain ⟨t,rfl⟩:=rx
    cases y with
    | non=>cases ry; exact PySem.EqNone.eq_str_none (qn1 I q (by simp))
    | bl j=>cases ry; exact PySem.EqMixed.eq_str_bool (qn1 I q (by simp))
    | int j=>obtain ⟨t',rfl⟩:=ry; exact PySem.EqMixed.eq_str_int (qn1 I q (by simp))
    | str j=>obtain ⟨t',rfl⟩:=ry; exact eq_str (qn1 I q dec_str)
    | _=>exact absurd (show false=true from hs) Bool.false_ne_true
  | byt i =>
    obtain ⟨t,rfl⟩:=rx
    cases y with
    | byt j=>obtain ⟨t',rfl⟩:=ry; exact PySem.W.eq_bytes (qn1 I q dec_byt)
    | _=>exact absurd (show false=true from hs) Bool.false_ne_true
  | _=>cases y <;> exact absurd (show false=true from hs) Bool.false_ne_true
theorem op_ne:OpR X (compareOp .NotEq) rNe:=by
  intro pins s σ H x y v u Q I rx ry h
  obtain ⟨hs,q⟩:=h
  cases x with
  | non =>
    cases rx
    cases y with
    | non=>cases ry; exact PySem.EqNone.ne_none_none (qn1 I q (by simp))
    | bl j=>cases ry; exact PySem.EqNone.ne_none_bool (qn1 I q (by simp))
    | int j=>obtain ⟨t',rfl⟩:=ry; exact PySem.EqNone.ne_none_int (qn1 I q (by simp))
    | str j=>obtain ⟨t',rfl⟩:=ry; exact PySem.EqNone.ne_none_str (qn1 I q (by simp))
    | _=>exact absurd (show false=true from hs) Bool.false_ne_true
  | bl i =>
    cases rx
    cases y with
    | non=>cases ry; exact PySem.EqNone.ne_bool_none (qn1 I q (by simp))
    | bl j=>cases ry; exact ne_bool (qn1 I q (congrArg not dec_bl))
    | str j=>obtain ⟨t',rfl⟩:=ry; exact PySem.EqMixed.ne_bool_str (qn1 I q (by simp))
    | _=>exact absurd (show false=true from hs) Bool.false_ne_true
  | int i =>
    obtain ⟨t,rfl⟩:=rx
    cases y with
    | non=>cases ry; exact PySem.EqNone.ne_int_none (qn1 I q (by simp))
    | int j=>obtain ⟨t',rfl⟩:=ry; exact ne_int (qn1 I q (congrArg not dec_int))
    | str j=>obtain ⟨t',rfl⟩:=ry; exact PySem.EqMixed.ne_int_str (qn1 I q (by simp))
    | _=>exact absurd (show false=true from hs) Bool.false_ne_true
  | str i =>
    obtain ⟨t,rfl⟩:=rx
    cases y with
    | non=>cases ry; exact PySem.EqNone.ne_str_none (qn1 I q (by simp))
    | bl j=>cases ry; exact PySem.EqMixed.ne_str_bool (qn1 I q (by simp))
    | int j=>obtain ⟨t',rfl⟩:=ry; exact PySem.EqMixed.ne_str_int (qn1 I q (by simp))
    | str j=>obtain ⟨t',rfl⟩:=ry; exact ne_str (qn1 I q (congrArg not dec_str))
    | _=>exact absurd (show false=true from hs) Bool.false_ne_true
  | byt i =>
    obtain ⟨t,rfl⟩:=rx
    cases y with
    | byt j=>obtain ⟨t',rfl⟩:=ry; exact PySem.W.ne_bytes (qn1 I q (congrArg not dec_byt))
    | _=>exact absurd (show false=true from hs) Bool.false_ne_true
  | _=>cases y <;> exact absurd (show false=true from hs) Bool.false_ne_true
theorem op_lt:OpR X (compareOp .Lt) (rI0 fun i j=>.bl (decide (i<j))):=opB0 fun _ _ _ _ _ _ _ q=>lt_int q
theorem op_le:OpR X (compareOp .LtE) (rI0 fun i j=>.bl (decide (i≤j))):=opB0 fun _ _ _ _ _ _ _ q=>le_int q
theorem op_gt:OpR X (compareOp .Gt) (rI0 fun i j=>.bl (decide (j<i))):=opB0 fun _ _ _ _ _ _ _ q=>gt_int q
theorem op_ge:OpR X (compareOp .GtE) (rI0 fun i j=>.bl (decide (j≤i))):=opB0 fun _ _ _ _ _ _ _ q=>ge_int q
theorem op_isN:OpR X (compareOp .Is) (fun x y H Q=>y=.non∧Q (.bl (decide (x=.non))) H):=by
  intro pins s σ H x y v u Q I rx ry h
  obtain ⟨rfl,q⟩:=h
  cases ry
  refine is_none_gen (qn1 I q ?_)
  cases x <;> first
    | (cases rx; rfl)
    | (obtain ⟨t,rfl⟩:=rx; rfl)
theorem op_notN:OpR X (compareOp .IsNot) (fun x y H Q=>y=.non∧Q (.bl (!decide (x=.non))) H):=by
  intro pins s σ H x y v u Q I rx ry h
  obtain ⟨rfl,q⟩:=h
  cases ry
  refine isnot_none_gen (qn1 I q ?_)
  cases x <;> first
    | (cases rx; rfl)
    | (obtain ⟨t,rfl⟩:=rx; rfl)
theorem OpR.or {f:Value→Value→Sem Value}{r r':R2}(h:OpR X f r)(h':OpR X f r'):OpR X f (fun x y H Q=>r x y H Q∨r' x y H Q):=by
  intro pins s σ H x y v u Q I rx ry q
  rcases q with q | q
  · exact h pins s σ H x y v u Q I rx ry q
  · exact h' pins s σ H x y v u Q I rx ry q
theorem qa1 (b:Expr){op:CmpOp}(h:op≠.In:=by decide)(h2:op≠.NotIn:=by decide):behindInMarks op b=false:=by
  have e1:(op == CmpOp.In)=false:=by cases op <;> first | rfl | exact absurd rfl h
  have e2:(op == CmpOp.NotIn)=false:=by cases op <;> first | rfl | exact absurd rfl h2
  cases b <;> simp [behindInMarks,e1,e2]
theorem pe_cmpR {op:CmpOp}{r:R2}(ho:OpR X (compareOp op) r)(ha:PE X a ta)(hb:PE X b tb)(hm:behindInMarks op b=false):PE X (.Compare a [op] [b] pos) (tOp r ta tb):=by
  intro pins s σ H Q I h
  exact wpAny_Compare1 (binT ha hb I h fun v u s2 x y H2 I2 rx ry q=>ho pins s2 σ H2 x y v u Q I2 rx ry q) hm
def tTest (t:TE):TT:=fun σ H Q=>t σ H fun x H'=>∃ k,x=.bl k∧Q k H'
theorem qv {op:CmpOp}{r:R2}(ho:OpR X (compareOp op) r)(ha:PE X a ta)(hb:PE X b tb)(hm:behindInMarks op b=false):PT X (.Compare a [op] [b] pos) (tTest (tOp r ta tb)):=by
  intro pins s σ H Q I h
  refine wpAny_isTrue_Compare1 (thn (ha pins s σ H _ I h) fun v s1 ⟨x,H1,I1,r1,q1⟩=>thn (hb pins s1 σ H1 _ I1 q1) fun u s2 ⟨y,H2,I2,r2,q2⟩ =>
    thn (ho pins s2 σ H2 x y v u _ I2 r1 r2 q2) fun c s3 ⟨z,H3,I3,r3,k,e,q3⟩=>?_) hm
  subst e
  cases r3
  exact wpAny_truthy_bool ⟨H3,I3,q3⟩
def tChain (r r':R2)(ta tb tc:TE):TE:=fun σ H Q=>ta σ H fun x H1=>tb σ H1 fun y H2=>r x y H2 fun z H3=>∃ k,z=.bl k ∧
  (if k=true then tc σ H3 fun w' H4=>r' y w' H4 Q else Q (.bl false) H3)
theorem pe_chain {op op':CmpOp}{r r':R2}(ho:OpR X (compareOp op) r)(ho':OpR X (compareOp op') r')(ha:PE X a ta)(hb:PE X b tb)(hc:PE X c tc)
    (hm:lastMarks [op,op'] [b,c]=false:=by with_unfolding_all rfl):PE X (.Compare a [op,op'] [b,c] pos) (tChain r r' ta tb tc):=by
  intro pins s σ H Q I h
  refine Compare_chain (thn (ha pins s σ H _ I h) fun v s1 ⟨x,H1,I1,r1,q1⟩=>chain_link (thn (hb pins s1 σ H1 _ I1 q1) fun u s2 ⟨y,H2,I2,r2,q2⟩ =>
    thn (ho pins s2 σ H2 x y v u _ I2 r1 r2 q2) fun d s3 ⟨z,H3,I3,r3,k,e,q3⟩=>?_)) hm
  subst e
  cases r3
  refine wpAny_truthy_bool ?_
  cases k with
  | false=>exact ite_ff ⟨.bl false,H3,I3,rfl,q3⟩
  | true=>exact ite_tt (chain_last (thn (hc pins s3 σ H3 _ I3 q3) fun w' s4 ⟨z',H4,I4,r4,q4⟩=>ho' pins s4 σ H4 y z' u w' Q I4 r2 r4 q4))
theorem line63:(sizeLine:Nat)<2 ^ 63:=by rw [sizeLine_eq]; decide
theorem vals1 {x:V}{us:List Value}(r:Vals [x] us):∃ u,us=[u]∧RelV x u:=by
  cases r with
  | cons r1 r2=>cases r2; exact ⟨_,rfl,r1⟩
theorem vals2 {x y:V}{us:List Value}(r:Vals [x,y] us):∃ u w',us=[u,w']∧RelV x u∧RelV y w':=by
  cases r with
  | cons r1 r2 =>
    cases r2 with
    | cons r3 r4=>cases r4; exact ⟨_,_,rfl,r1,r3⟩
theorem call_max2 (hc:X.calm=true):CallR X (.builtin "max") (fun xs H Q=>∃ i j,xs=[.int i,.int j]∧Q (.int (if j > i then j else i)) H):=by
  intro pins s σ H xs us Q I r h
  obtain ⟨i,j,rfl,q⟩:=h
  obtain ⟨u,w',rfl,⟨t,rfl⟩,⟨t',rfl⟩⟩:=vals2 r
  refine max_two_ints (I.ok.hd hc) fun h' tk k=>⟨_,H,I.kept k,?_,q⟩
  by_cases hj:j > i
  · rw [if_pos hj,if_pos hj]; exact ⟨_,rfl⟩
  · rw [if_neg hj,if_neg hj]; exact ⟨_,rfl⟩
theorem call_min2 (hc:X.calm=true):CallR X (.builtin "min") (fun xs H Q=>∃ i j,xs=[.int i,.int j]∧Q (.int (if j<i then j else i)) H):=by
  intro pins s σ H xs us Q I r h
  obtain ⟨i,j,rfl,q⟩:=h
  obtain ⟨u,w',rfl,⟨t,rfl⟩,⟨t',rfl⟩⟩:=vals2 r
  refine min_two_ints (I.ok.hd hc) fun h' tk k=>⟨_,H,I.kept k,?_,q⟩
  by_cases hj:j<i
  · rw [if_pos hj,if_pos hj]; exact ⟨_,rfl⟩
  · rw [if_neg hj,if_neg hj]; exact ⟨_,rfl⟩
theorem call_int1:CallR X (.type "int") (fun xs H Q=>(∃ i,xs=[.int i]∧Q (.int i) H)∨∃ k,xs=[.bl k]∧Q (.int (if k then 1 else 0)) H):=by
  intro pins s σ H xs us Q I r h
  rcases h with ⟨i,rfl,q⟩ | ⟨k,rfl,q⟩
  · obtain ⟨u,rfl,t,rfl⟩:=vals1 r
    exact call_int_int ⟨.int i,H,I,⟨_,rfl⟩,q⟩
  · obtain ⟨u,rfl,r1⟩:=vals1 r
    cases r1
    exact call_int_bool ⟨.int (if k then 1 else 0),H,I.tok _,⟨_,rfl⟩,q⟩
end
end L2
namespace L2
open PySem PySem.Spec PyProof.Rows
structure ObjM (h:Heap)(x dx C:Addr)(mA:Str→Option Value):Prop where
  obj:h.get? x=some (PySem.W.instObj C dx)
  ns:h.Ns1 dx mA
  ne:dx≠x
theorem lookIn_ns {h:Heap}{dx:Addr}{mA:Str→Option Value}(n:h.Ns1 dx mA):∃ od,h.get? dx=some od∧∀ name,PySem.W.lookIn name od=some (mA name):=by
  obtain ⟨o,es,ep,ho,hd,hk,_,hm⟩:=n
  refine ⟨o,ho,fun name=>?_⟩
  have e:=hm name
  unfold nsFind findBy at e
  rw [← Array.find?_toList] at e
  unfold PySem.W.lookIn
  rw [hd]
  dsimp only
  split
  · rename_i y q
    rw [q] at e
    exact congrArg some e
  · rename_i q
    rw [q] at e
    have a:es.toList.any (·.refKey)=false:=by
      rw [List.any_eq_false]
      intro y hy
      obtain ⟨z,t,hkey⟩:=hk y (Array.mem_toList_iff.mp hy)
      simp [DictEntry.refKey,hkey]
    have a':¬ es.toList.any (·.refKey)=true:=by rw [a]; exact Bool.false_ne_true
    rw [if_neg a']
    exact congrArg some e
theorem ObjM.look {h:Heap}{x dx C:Addr}{mA:Str→Option Value}(I:ObjM h x dx C mA):∃ od,PySem.W.InstAt h x (PySem.W.instObj C dx) C (some od)∧∀ name,PySem.W.lookIn name od=some (mA name) :=
  let ⟨od,ho,hl⟩:=lookIn_ns I.ns
  ⟨od,⟨I.obj,rfl,rfl,ho⟩,hl⟩
section
variable {prog:Program}{w:World}{A:Around}{E:Value→Shared→Prop}{s:Shared}{K:PySem.W.Frag}{x dx C f:Addr}{mA:Str→Option Value}{name:Str}{v:Value}
theorem get_map {expr:Bool}{Q:Value→Shared→Prop}(X:K.In s.heap)(I:ObjM s.heap x dx C mA)(hg:PySem.W.plainGet K C name=true)(hh:PySem.W.hasDictIn K C=true)
    (ha:PySem.W.findIn K (.ref C) name=some none) (hv:mA name=some v) (hv':PySem.W.handedIn v=true) (h:Q v { s with toks:=s.toks+1 }) :
    wpAny (model prog w) A (getAttr (.ref x) name expr) Q E s:=by
  obtain ⟨od,J,hl⟩:=I.look
  exact PySem.W.get_value X J (PySem.W.plainGet_of hg).1 (PySem.W.findObj_own hh ha rfl (by rw [hl,hv])) hv' h
theorem get_meth {pl:Sem Bool}{Q:Value×List Value→Shared→Prop}(X:K.In s.heap)(I:ObjM s.heap x dx C mA)(hg:PySem.W.plainGet K C name=true)
    (hf:PySem.W.findIn K (.ref C) name=some (some (.ref f))) (ht:PySem.W.isFn K (.ref f)=true) (hv:mA name=none) (h:Q (.ref f,[.ref x]) s) :
    wpAny (model prog w) A (getMethod (.ref x) name pl) Q E s:=by
  obtain ⟨od,J,hl⟩:=I.look
  exact PySem.W.method_fn X J (PySem.W.plainGet_of hg).1 (PySem.W.plainGet_of hg).2 hf (beq_iff_eq.mp ht) (by show (PySem.W.lookIn name od).map (·.isSome)=some false; rw [hl,hv]; rfl) h
theorem set_map {ns:List Str}{Q:Unit→Shared→Prop}(X:K.In s.heap)(I:ObjM s.heap x dx C mA)
    (hs:PySem.W.findIn K (.ref C) "__setattr__"=some (some (.builtin "object.__setattr__"))) (hp:PySem.W.plainOver K C=true) (ht:PySem.W.takerIn K C name=some none) (hh:PySem.W.hasDictIn K C=true)
    (hw:PySem.Within mA ns) (hsz:ns.length≤sizeLine)
    (h:∀ h',ObjM h' x dx C (fun y=>if y=name then some v else mA y)→Heap.SameBut dx s.heap h'→Q () { s with heap:=h',toks:=s.toks+2 }) :
    wpAny (model prog w) A (setAttr (.ref x) name v) Q E s:=by
  obtain ⟨od,J,hl⟩:=I.look
  refine PySem.W.set_plain X J hs (PySem.W.osa_open (s:={ s with toks:=s.toks+1 }) (r:=none) X J hp ht fun b=>?_)
  obtain ⟨cd,hc,hd'⟩:=PySem.W.any_some hh
  have hx:s.heap.get? x=some ⟨.ref C,some dx,.plain,#[]⟩:=I.obj
  refine wpAny_bind (wpAny_pure (wpAny_bind (wpAny_bind (wpAny_loadPart hx (wpAny_bind (PySem.W.Looks.here (s:={ s with toks:=s.toks+1 }) (PySem.W.looks_clsIn X hc) ?_))))))
  rw [hd']
  refine wpAny_pure (a:=some dx) (wpAny_bind (wpAny_pure (wpAny_bind ?_)))
  refine wpAny_nsSet1 (s:={ s with toks:=s.toks+1 }) I.ns fun h' hn2 hs2=>?_
  obtain ⟨oD,esD,epD,hoD,hdD,hcD⟩:=hn2.count (PySem.Within.cons name v hw)
  refine wpAny_bind (wpAny_lookBehind hoD (by rw [hdD]; exact pastItsLine_dict (Nat.le_trans hcD (by rw [List.length_cons]; omega))) ?_)
  exact wpAny_pure (h _ ⟨(hs2.2 _ (Ne.symm I.ne)).trans I.obj,hn2,I.ne⟩ hs2)
theorem make_map {R:Result→Shared→Prop}{vs:List Value}{kw:List (Str×Value)}(X:K.In s.heap)(hm:PySem.W.makesIn K C=true)
    (hi:PySem.W.findIn K (.ref C) "__init__"=some (some (.ref f))) (hf:PySem.W.typeIn K (.ref f)=some (.type "function"))
    (h:codeAny (model prog w) (A.under (.builtin "type.__call__" ⟨.ref C::vs,kw⟩)) (.call (.ref f) ⟨.ref (s.heap.objs.size+1)::vs,kw⟩) (PySem.W.InitBack (s.heap.objs.size+1) R)
      { s with heap:=(s.heap.push PySem.W.emptyDict).push (PySem.W.instObj C s.heap.objs.size) }) :
    codeAny (model prog w) A (.call (.ref C) ⟨vs,kw⟩) R s:=by
  obtain ⟨hh,g,d,t,os⟩:=s
  exact PySem.W.make_core (PySem.W.makes_of X hm) (PySem.W.looks_findIn X hi) (fun self=>PySem.W.bind_fn X self hf) (.inl rfl) h
end
def putF (f:Str)(v:V):List (Str×V)→List (Str×V)
  | []=>[(f,v)]
  | (g,x)::r=>if g=f then (g,v)::r else (g,x)::putF f v r
theorem lookup_putF (f g:Str)(v:V):∀ fs:List (Str×V),(putF f v fs).lookup g=if g=f then some v else fs.lookup g
  | []=>by
    show List.lookup g [(f,v)]=_
    by_cases h:g=f
    · have hb:(g == f)=true:=beq_iff_eq.mpr h
      simp only [List.lookup,hb,if_pos h]
    · have hb:(g == f)=false:=beq_eq_false_iff_ne.mpr h
      simp only [List.lookup,hb,if_neg h]
  | (k,x)::r=>by
    have ih:=lookup_putF f g v r
    rw [show putF f v ((k,x)::r)=(if k=f then (k,v)::r else (k,x)::putF f v r) from rfl]
    by_cases hk:k=f
    · rw [if_pos hk]
      by_cases h:g=k
      · have hb:(g == k)=true:=beq_iff_eq.mpr h
        simp only [List.lookup,hb,if_pos (h.trans hk)]
      · have hb:(g == k)=false:=beq_eq_false_iff_ne.mpr h
        simp only [List.lookup,hb,if_neg (fun e:g=f=>h (e.trans hk.symm))]
    · rw [if_neg hk]
      by_cases h:g=k
      · have hb:(g == k)=true:=beq_iff_eq.mpr h
        simp only [List.lookup,hb,if_neg (fun e:g=f=>hk (h.symm.trans e))]
      · have hb:(g == k)=false:=beq_eq_false_iff_ne.mpr h
        simp only [List.lookup,hb]
        exact ih
theorem keys_putF (f:Str)(v:V):∀ fs:List (Str×V),f∈(putF f v fs).map (·.1)∧∀ g,g∈fs.map (·.1)→g∈(putF f v fs).map (·.1)
  | []=>⟨by simp [putF],fun g h=>by simp at h⟩
  | (k,x)::r=>by
    obtain ⟨i1,i2⟩:=keys_putF f v r
    rw [show putF f v ((k,x)::r)=(if k=f then (k,v)::r else (k,x)::putF f v r) from rfl]
    by_cases hk:k=f
    · rw [if_pos hk]
      subst hk
      exact ⟨by simp,fun g h=>by simpa using h⟩
    · rw [if_neg hk]
      refine ⟨?_,fun g h=>?_⟩
      · rw [List.map_cons]
        exact List.mem_cons_of_mem _ i1
      · rw [List.map_cons] at h ⊢
        rcases List.mem_cons.mp h with e | e
        · exact List.mem_cons.mpr (.inl e)
        · exact List.mem_cons_of_mem _ (i2 g e)
theorem length_putF (f:Str)(v:V):∀ fs:List (Str×V),(putF f v fs).length≤fs.length+1
  | []=>by simp [putF]
  | (k,x)::r=>by
    have ih:=length_putF f v r
    rw [show putF f v ((k,x)::r)=(if k=f then (k,v)::r else (k,x)::putF f v r) from rfl]
    by_cases hk:k=f
    · rw [if_pos hk,List.length_cons,List.length_cons]; omega
    · rw [if_neg hk,List.length_cons,List.length_cons]; omega
theorem RelO.some_of {v:V}{o:Option Value}(r:RelO (some v) o):∃ u,o=some u∧RelV v u:=by
  cases o with
  | none=>exact (show False from r).elim
  | some u=>exact ⟨u,rfl,r⟩
theorem RelO.none_of {o:Option Value}(r:RelO none o):o=none:=by
  cases o with
  | none=>rfl
  | some u=>exact (show False from r).elim
theorem handed_of {v:V}{u:Value}(r:RelV v u):PySem.W.handedIn u=true:=by
  cases v with
  | non=>cases (show u=Value.none from r); rfl
  | bl b=>cases (show u=Value.bool b from r); rfl
  | int i=>obtain ⟨t,e⟩:=(show ∃ t,u=Value.int i t from r); cases e; rfl
  | str x=>obtain ⟨t,e⟩:=(show ∃ t,u=Value.str x t from r); cases e; rfl
  | byt b=>obtain ⟨t,e⟩:=(show ∃ t,u=Value.bytes b t from r); cases e; rfl
  | flt b=>obtain ⟨t,e⟩:=(show ∃ t,u=Value.float b t from r); cases e; rfl
  | ref a=>cases (show u=Value.ref a from r); rfl
  | ty n=>cases (show u=Value.type n from r); rfl
section
variable {P:Program}{w:World}{H H':Hp}{h h':Heap}{a C dx:Addr}{fs fs':List (Str×V)}
theorem ins_get (hok:HOk P w H h)(e:H a=some (.ins C dx fs)):∃ mA,ObjM h a dx C mA∧(∀ f,RelO (fs.lookup f) (mA f))∧PySem.Within mA (fs.map (·.1))∧fs.length≤1000∧H dx=some (.own a):=by
  obtain ⟨d,z,ne,ob,mA,n,r,q⟩:=(show ObjOk P w H h a (.ins C dx fs) from hok a _ e)
  exact ⟨mA,⟨ob,n,ne⟩,r,q,z,d⟩
end
structure Cls (K:PySem.W.Frag)(C:Addr):Prop where
  pg:PySem.W.plainGet K C Str.empty=true
  hd:PySem.W.hasDictIn K C=true
  po:PySem.W.plainOver K C=true
  sa:PySem.W.findIn K (.ref C) "__setattr__"=some (some (.builtin "object.__setattr__"))
theorem Cls.get {K:PySem.W.Frag}{C:Addr}(c:Cls K C)(f:Str):PySem.W.plainGet K C f=true:=c.pg
def NoAttr (K:PySem.W.Frag)(C:Addr)(f:Str):Prop:=PySem.W.findIn K (.ref C) f=some none
theorem NoAttr.taker {K:PySem.W.Frag}{C:Addr}{f:Str}(n:NoAttr K C f):PySem.W.takerIn K C f=some none:=by
  unfold PySem.W.takerIn
  rw [show PySem.W.findIn K (.ref C) f=some none from n]
  rfl
structure Meth (K:PySem.W.Frag)(C:Addr)(m:Str)(f:Addr):Prop where
  at_:PySem.W.findIn K (.ref C) m=some (some (.ref f))
  fn:PySem.W.isFn K (.ref f)=true
  kp:PySem.W.keepIn K (.ref f)=true
section
variable {X:Cx}{pins:List (Addr×Obj)}{σ:St}{H:Hp}{s:Shared}{a C dx:Addr}{fs:List (Str×V)}{f:Str}{v:V}{A:Around}{E:Value→Shared→Prop}
theorem getattr_ok {b:Bool}{Q:Value→Shared→Prop}(I:Inv X pins σ H s)(e:H a=some (.ins C dx fs))(c:Cls X.K C)(n:NoAttr X.K C f)(l:fs.lookup f=some v)
    (h:∀ u s',Inv X pins σ H s'→RelV v u→Q u s'):wpAny (model X.prog X.w) A (getAttr (.ref a) f b) Q E s:=by
  obtain ⟨mA,O,r,_,_,_⟩:=ins_get I.hok e
  obtain ⟨u,hu,ru⟩:=RelO.some_of (v:=v) (o:=mA f) (by rw [← l]; exact r f)
  exact get_map I.kIn O (c.get f) c.hd n hu (handed_of ru) (h u _ (I.tok _) ru)
theorem getmeth_ok {m:Str}{g:Addr}{pl:Sem Bool}{Q:Value×List Value→Shared→Prop}(I:Inv X pins σ H s)(e:H a=some (.ins C dx fs))(c:Cls X.K C)(k:Meth X.K C m g)(l:fs.lookup m=none)
    (h:Q (.ref g,[.ref a]) s):wpAny (model X.prog X.w) A (getMethod (.ref a) m pl) Q E s:=by
  obtain ⟨mA,O,r,_,_,_⟩:=ins_get I.hok e
  have hn:mA m=none:=RelO.none_of (by rw [← l]; exact r m)
  exact get_meth I.kIn O (c.get m) k.at_ k.fn hn h
theorem setattr_ok {y:V}{u:Value}{Q:Unit→Shared→Prop}(I:Inv X pins σ H s)(e:H a=some (.ins C dx fs))(c:Cls X.K C)(n:NoAttr X.K C f)(hl:fs.length<1000)(ry:RelV y u)
    (h:∀ s',Inv X pins σ (upd H a (.ins C dx (putF f y fs))) s'→Q () s'):wpAny (model X.prog X.w) A (setAttr (.ref a) f u) Q E s:=by
  obtain ⟨mA,O,r,wi,_,ho⟩:=ins_get I.hok e
  have hz:(fs.map (·.1)).length≤sizeLine:=by rw [List.length_map,sizeLine_eq]; omega
  refine set_map I.kIn O c.sa c.po n.taker c.hd wi hz fun h' O' sb=>h _ ?_
  have hd:∃ o,h'.get? dx=some o:=let ⟨o,_,_,e',_⟩:=O'.ns; ⟨o,e'⟩
  refine I.write (x:=a) (e:=dx) (by rw [e]; exact True.intro) (.inr ho) (fun b q hb z=>(sb.2 b hb).trans z) hd ?_
  refine ⟨by rw [qu0 O.ne]; exact ho,?_,O.ne,O'.obj,_,O'.ns,fun g=>?_,fun g hg=>?_⟩
  · have:=length_putF f y fs; omega
  · show RelO ((putF f y fs).lookup g) (if g=f then some u else mA g)
    rw [lookup_putF]
    by_cases q:g=f
    · rw [if_pos q,if_pos q]; exact ry
    · rw [if_neg q,if_neg q]; exact r g
  · by_cases q:g=f
    · rw [q]; exact (keys_putF f y fs).1
    · refine (keys_putF f y fs).2 g (wi g fun z=>hg ?_)
      show (if g=f then some u else mA g)=none
      rw [if_neg q]; exact z
theorem Inv.made (I:Inv X pins σ H s):Inv X pins σ (upd (upd H s.heap.objs.size (.own (s.heap.objs.size+1))) (s.heap.objs.size+1) (.ins C s.heap.objs.size []))
    { s with heap:=(s.heap.push PySem.W.emptyDict).push (PySem.W.instObj C s.heap.objs.size) }:=by
  have e1:(s.heap.push PySem.W.emptyDict).get? s.heap.objs.size=some PySem.W.emptyDict:=Heap.get?_push_size s.heap rfl
  have e2:((s.heap.push PySem.W.emptyDict).push (PySem.W.instObj C s.heap.objs.size)).get? (s.heap.objs.size+1)=some (PySem.W.instObj C s.heap.objs.size):=by
    have:=Heap.get?_push_size (s.heap.push PySem.W.emptyDict) (o:=PySem.W.instObj C s.heap.objs.size) rfl
    rwa [Heap.size_push] at this
  have e3:(s.heap.push PySem.W.emptyDict).Ns s.heap.objs.size (fun _=>none):=⟨PySem.W.emptyDict,#[],_,e1,rfl,(fun e he=>absurd he (by simp)),fun _=>rfl⟩
  have I1:=I.laid (a:=s.heap.objs.size) (o:=.own (s.heap.objs.size+1)) (h':=s.heap.push PySem.W.emptyDict) (t':=s.toks) (fun b u q=>Heap.get?_push_of_some _ q) (Nat.le_refl _) ⟨_,e1⟩
  refine I1.laid (a:=s.heap.objs.size+1) (o:=.ins C s.heap.objs.size []) (t':=s.toks) (fun b u q=>Heap.get?_push_of_some _ q) (Nat.le_of_eq (Heap.size_push _ _)) ?_
  have ne:s.heap.objs.size≠s.heap.objs.size+1:=Nat.ne_of_lt (Nat.lt_succ_self _)
  refine ⟨by rw [qu0 ne,qe],Nat.zero_le _,ne,e2,fun _=>none,(Heap.Ns1.of_empty e3).at fun o q=>Heap.get?_push_of_some _ q,fun _=>True.intro,fun y hy=>absurd rfl hy⟩
theorem attr_of {prog:Program}{w:World}{env:Env}{e:Expr}{f:Str}{pos:Pos}{s:Shared}{Q:Value→Shared→Prop}(hb:attributeBase e f env (eval e env)=eval e env)
    (h:wpAny (model prog w) A (eval e env) (fun o s₁=>wpAny (model prog w) A (getAttr o f true) Q E s₁) E s):wpAny (model prog w) A (eval (.Attribute e f pos) env) Q E s :=
  Attribute_any_ h (by rw [arm_eval_Attribute,hb])
end
def tFld (K:PySem.W.Frag)(ta:TE)(f:Str):TE:=fun σ H Q=>ta σ H fun x H1=>∃ a C dx fs v,x=.ref a∧H1 a=some (.ins C dx fs)∧Cls K C∧NoAttr K C f∧fs.lookup f=some v∧Q v H1
def sFld (K:PySem.W.Frag)(ta tv:TE)(f:Str):TS:=fun D σ H=>tv σ H fun y H1=>ta σ H1 fun x H2=>∃ a C dx fs,x=.ref a∧H2 a=some (.ins C dx fs)∧Cls K C∧NoAttr K C f∧fs.length<1000 ∧
  D.nx σ (upd H2 a (.ins C dx (putF f y fs)))
section
variable {X:Cx}{o e value:Expr}{f:Str}{pos pos' tpos:Pos}{ta tv:TE}
theorem qx0 (he:PE X e ta)(hb:attributeBase e f X.env (eval e X.env)=eval e X.env):PE X (.Attribute e f pos) (tFld X.K ta f):=by
  intro pins s σ H Q I h
  refine attr_of hb (thn (he pins s σ H _ I h) fun u s1 ⟨x,H1,I1,rx,a,C,dx,fs,v,ex,ea,c,n,l,q⟩=>?_)
  subst ex
  obtain rfl:u=Value.ref a:=rx
  exact getattr_ok I1 ea c n l fun u' s2 I2 ru=>⟨v,H1,I2,ru,q⟩
theorem qa2 (ha:PE X o ta)(hv:PE X value tv)(hs:swapsWith value (some (.Attribute o f pos')) pos.line X.env=pure false):PS X (.Assign [.Attribute o f pos'] value pos) (sFld X.K ta tv f):=by
  intro pins s σ H D I h
  refine plainObj_wpAny_Assign_Attribute (thn (hv pins s σ H _ I h) fun u s1 ⟨y,H1,I1,ry,q⟩=>thn (ha pins s1 σ H1 _ I1 q) fun ov s2 ⟨x,H2,I2,rx,a,C,dx,fs,ex,ea,c,n,l,q2⟩=>?_) hs
  subst ex
  obtain rfl:ov=Value.ref a:=rx
  exact setattr_ok I2 ea c n l ry fun s3 I3=>⟨σ,_,I3,q2⟩
end
section
variable {X:Cx}{pins:List (Addr×Obj)}{σ:St}{H:Hp}{s:Shared}{A:Around}{E:Value→Shared→Prop}{Q:Value→Shared→Prop}{c:Value}{b:Bool}
inductive TyOf (K:PySem.W.Frag) (H:Hp):V→Value→Prop where
  | non:TyOf K H .non (.type "NoneType")
  | bl (x:Bool):TyOf K H (.bl x) (.type "bool")
  | int (i:Int):TyOf K H (.int i) (.type "int")
  | str (x:Str):TyOf K H (.str x) (.type "str")
  | flt (x:UInt64):TyOf K H (.flt x) (.type "float")
  | lst {a:Addr} {xs:List V} (e:H a=some (.lst xs)):TyOf K H (.ref a) (.type "list")
  | frz {a:Addr} {o:Obj} {xs:List V} (e:H a=some (.frz o (.lst xs))):TyOf K H (.ref a) (.type "list")
  | tup {a:Addr} {xs:List V} (e:H a=some (.tup xs)):TyOf K H (.ref a) (.type "tuple")
  | dK {a:Addr} {kvs:List (Key×V)} (e:H a=some (.dK kvs)):TyOf K H (.ref a) (.type "dict")
  | dT {a:Addr} {kvs:List (List Key×V)} (e:H a=some (.dT kvs)):TyOf K H (.ref a) (.type "dict")
  | ins {a C dx:Addr} {fs:List (Str×V)} (e:H a=some (.ins C dx fs)) (cl:Cls K C) (ha:PySem.W.findIn K (.ref C) "__class__"=some (some (.builtin "object.__class__")))
      (hn:PySem.W.specialIn K (.builtin "object.__class__") "__get__"=some (some (.builtin "getset_descriptor.__get__"))) (htk:PySem.W.takesIn K (.builtin "object.__class__")=some true)
      (hm:PySem.W.mroIn K C (.type "object")=some true):TyOf K H (.ref a) (.ref C)
theorem isinst_ok {x:V}{u t:Value}(I:Inv X pins σ H s)(rx:RelV x u)(ty:TyOf X.K H x t)(e:PySem.W.kitOne X.K t c=some b)(h:∀ tk,Q (.bool b) { s with toks:=tk }) :
    wpAny (model X.prog X.w) A (call (.builtin "isinstance") [u,c]) Q E s:=by
  cases ty with
  | non=>cases (show u=Value.none from rx); exact PySem.W.kia_one PySem.W.kitx_none I.kIn True.intro e (fun z=>nomatch z) h
  | bl y=>cases (show u=Value.bool y from rx); exact PySem.W.kia_one PySem.W.kitx_bool I.kIn True.intro e (fun z=>nomatch z) h
  | int i=>obtain ⟨t,q⟩:=(show ∃ t,u=Value.int i t from rx); cases q; exact PySem.W.kia_one PySem.W.kitx_int I.kIn True.intro e (fun z=>nomatch z) h
  | str y=>obtain ⟨t,q⟩:=(show ∃ t,u=Value.str y t from rx); cases q; exact PySem.W.kia_one PySem.W.kitx_str I.kIn True.intro e (fun z=>nomatch z) h
  | flt y=>obtain ⟨t,q⟩:=(show ∃ t,u=Value.float y t from rx); cases q; exact PySem.W.kia_one PySem.W.kitx_float I.kIn True.intro e (fun z=>nomatch z) h
  | @lst a xs ea =>
    cases (show u=Value.ref a from rx)
    obtain ⟨_,_,n,_,h1⟩:=(show ObjOk X.prog X.w H s.heap a (.lst xs) from I.hok a _ ea)
    exact PySem.W.kia_one PySem.W.kitx_list I.kIn ⟨_,h1,rfl⟩ e (fun z=>nomatch z) h
  | @frz a ob xs ea =>
    cases (show u=Value.ref a from rx)
    obtain ⟨_,_,_,n,_,h1⟩:=(show ObjOk X.prog X.w H s.heap a (.frz ob (.lst xs)) from I.hok a _ ea)
    exact PySem.W.kia_one PySem.W.kitx_list I.kIn ⟨_,h1,rfl⟩ e (fun z=>nomatch z) h
  | @tup a xs ea =>
    cases (show u=Value.ref a from rx)
    obtain ⟨_,_,_,p⟩:=(show ObjOk X.prog X.w H s.heap a (.tup xs) from I.hok a _ ea)
    obtain ⟨o,h1,h2,_⟩:=p
    exact PySem.W.kia_one PySem.W.kitx_tuple I.kIn ⟨o,h1,h2⟩ e (fun z=>nomatch z) h
  | @dK a kvs ea =>
    cases (show u=Value.ref a from rx)
    obtain ⟨_,_,vs,_,p⟩:=(show ObjOk X.prog X.w H s.heap a (.dK kvs) from I.hok a _ ea)
    obtain ⟨o,es,ep,h1,h2,_⟩:=p
    exact PySem.W.kia_one PySem.W.kitx_dict I.kIn ⟨o,h1,h2.1⟩ e (fun z=>nomatch z) h
  | @dT a kvs ea =>
    cases (show u=Value.ref a from rx)
    obtain ⟨_,_,xs,_,o,es,ep,h1,h2,_⟩:=(show ObjOk X.prog X.w H s.heap a (.dT kvs) from I.hok a _ ea)
    exact PySem.W.kia_one PySem.W.kitx_dict I.kIn ⟨o,h1,h2.1⟩ e (fun z=>nomatch z) h
  | @ins a C dx fs ea cl ha hn htk hm =>
    cases (show u=Value.ref a from rx)
    obtain ⟨mA,O,_⟩:=ins_get I.hok ea
    obtain ⟨od,J,_⟩:=O.look
    exact PySem.W.kia_one (PySem.W.kitx_own (cl.get _) cl.hd ha hn htk hm) I.kIn J e (fun z=>nomatch z) h
end
end L2
namespace L2
open PySem PySem.Spec PyProof.Rows
structure Room (k:Nat)(A:Around):Prop where
  hd:A.handled=none
  dp:A.depth+3 * k+5<recursionLimit
  un:A.units+16 * k+200<cLine
  gd:A.guards=some []
theorem Room.mono {j k:Nat}{A:Around}(r:Room k A)(h:j≤k):Room j A:=⟨r.hd,by have:=r.dp; omega,by have:=r.un; omega,r.gd⟩
theorem Room.deeper {k:Nat}{A:Around}(r:Room (k+1) A)(env:Env):Room k (A.deeper env) :=
  ⟨r.hd,by have:=r.dp; show A.depth+1+3 * k+5<_; omega,by have:=r.un; show A.units+3+16 * k+200<_; omega,r.gd⟩
theorem Room.in1 {k:Nat}{A:Around}(r:Room (k+1) A):Room k A.in1 :=
  ⟨r.hd,by have:=r.dp; show A.depth+3 * k+5<_; omega,by have:=r.un; show A.units+1+16 * k+200<_; omega,r.gd⟩
theorem make_depth {A:Around}{C:Addr}{us:List Value}{kw:List (Str×Value)}:(A.under (.builtin "type.__call__" ⟨.ref C::us,kw⟩)).depth=A.depth+1:=by
  first | rfl | simp [Around.under,Code.weight,Code.isCreation,Code.isGuard,Code.isCaller,Code.frames,Code.isFrame,guardIds]
theorem make_units {A:Around}{C:Addr}{us:List Value}{kw:List (Str×Value)}:(A.under (.builtin "type.__call__" ⟨.ref C::us,kw⟩)).units=A.units+1:=by
  first | rfl | simp [Around.under,Code.cUnits,Code.frames,Code.isFrame]
theorem make_guards {A:Around}{C:Addr}{us:List Value}{kw:List (Str×Value)}:(A.under (.builtin "type.__call__" ⟨.ref C::us,kw⟩)).guards=A.guards:=by
  first | rfl | (cases h:A.guards <;> simp [Around.under,Code.guards,Code.isGuard,guardIds,pushGuards,h])
theorem Room.make {k:Nat}{A:Around}(r:Room (k+1) A)(C:Addr)(us:List Value)(kw:List (Str×Value)):Room k (A.under (.builtin "type.__call__" ⟨.ref C::us,kw⟩)) :=
  ⟨r.hd,by have:=r.dp; rw [make_depth]; omega,by have:=r.un; rw [make_units]; omega,by rw [make_guards]; exact r.gd⟩
theorem Room.depth {k:Nat}{A:Around}(r:Room k A):A.depth<recursionLimit:=by have:=r.dp; omega
theorem Room.units {k:Nat}{A:Around}(r:Room k A):A.units+64<cLine:=by have:=r.un; omega
def tNil:TA:=fun _ H Q=>Q [] H
def tCons (ta:TE)(tr:TA):TA:=fun σ H Q=>ta σ H fun x H1=>tr σ H1 fun xs H2=>Q (x::xs) H2
section
variable {X:Cx}{e:Expr}{es:List Expr}{te:TE}{t:TA}{pos:Pos}
theorem qd0:PA X [] tNil:=fun _ _ _ _ H Q I h=>Calls.spliced_nil ⟨[],H,I,.nil,h⟩
theorem qa (ha:PE X e te)(hr:PA X es t)(hs:starEach (e::es) X.env=(false,eval e X.env)::starEach es X.env:=by rfl):PA X (e::es) (tCons te t):=by
  intro pos pins s σ H Q I h
  rw [hs]
  show wpAny _ _ (spliced ((false,eval e X.env)::backTo pos (starEach es X.env))) _ _ s
  refine Calls.spliced_cons (thn (ha pins s σ H _ I h) fun u s1 ⟨x,H1,I1,r1,q1⟩=>?_)
  exact thn (hr pos pins s1 σ H1 _ I1 q1) fun us s2 ⟨xs,H2,I2,r2,q2⟩=>⟨x::xs,H2,I2,.cons r1 r2,q2⟩
def tTup (t:TA):TE:=fun σ H Q=>t σ H fun xs H1=>xs.length≤sizeLine∧∀ p,H1 p=none→Q (.ref p) (upd H1 p (.tup xs))
def tLst (t:TA):TE:=fun σ H Q=>t σ H fun xs H1=>xs.length≤sizeLine∧∀ p,H1 p=none→Q (.ref p) (upd H1 p (.lst xs))
theorem qo {x1}(h:PA X es t):PE X (.Tuple es x1 pos) (tTup t):=by
  intro pins s σ H Q I hq
  refine wpAny_Tuple_spliced (thn (h pos pins s σ H _ I hq) fun us s1 ⟨xs,H1,I1,r,z,q⟩=>⟨by rw [← r.length]; exact z,?_⟩)
  have hf:H1 s1.heap.objs.size=none:=I1.hok.fresh (Nat.le_refl _)
  refine ⟨.ref s1.heap.objs.size,upd H1 s1.heap.objs.size (.tup xs),I1.laid (t':=s1.toks) (fun b u e=>Heap.get?_push_of_some _ e) (Nat.le_refl _) ?_,rfl,q _ hf⟩
  exact ⟨z,us,r,⟨_,Heap.get?_push_size _ rfl,rfl,_,rfl⟩⟩
theorem qi1 (h:PA X es t):PE X (.List es pos) (tLst t):=by
  intro pins s σ H Q I hq
  refine wpAny_List_spliced (thn (h pos pins s σ H _ I hq) fun us s1 ⟨xs,H1,I1,r,z,q⟩=>⟨by rw [← r.length]; exact z,?_⟩)
  have hf:H1 s1.heap.objs.size=none:=I1.hok.fresh (Nat.le_refl _)
  refine ⟨.ref s1.heap.objs.size,upd H1 s1.heap.objs.size (.lst xs),I1.laid (t':=s1.toks) (fun b u e=>Heap.get?_push_of_some _ e) (Nat.le_refl _) ?_,rfl,q _ hf⟩
  exact ⟨z,us,0,r,Heap.get?_push_size _ rfl⟩
end
abbrev Sp:=List V→Hp→VK→XK→Prop
abbrev CXT:=List Env→Hp→Shared→XK→Value→Shared→Prop
structure Env0 (P:Program)(w:World)(K:PySem.W.Frag)(mg:Str→Option Value)(base:Heap)(A:Around)(outer:List Env)(s:Shared)(H:Hp):Prop where
  frames:A.frames=some outer
  mod:Mod K mg base
  bs:∀ b o,base.get? b=some o→s.heap.get? b=some o∧H b=none
  bsz:base.objs.size≤s.heap.objs.size
  funs:s.heap.FunFrames base outer
  frf:∀ b∈frs outer,H b=none
  hok:HOk P w H s.heap
  bare:AllBare s.gens
def CE (outer:List Env)(P:Program)(w:World)(H:Hp)(s:Shared)(Q:VK)(u:Value)(s':Shared):Prop :=
  ∃ v H',s'.os=s.os∧AllBare s'.gens∧Un (frs outer) [] H H' s.heap s'.heap∧HOk P w H' s'.heap∧RelV v u∧Q v H'
def CR (CX:CXT)(outer:List Env)(P:Program)(w:World)(H:Hp)(s:Shared)(Q:VK)(E:XK)(r:Result)(s':Shared):Prop :=
  match r with
  | .ok (.ret u)=>CE outer P w H s Q u s'
  | .ok _=>False
  | .error e=>CX outer H s E e s'
structure FnOk (P:Program)(w:World)(K:PySem.W.Frag)(mg:Str→Option Value)(base:Heap)(CX:CXT)(k:Nat)(f:Addr)(fd:FuncData)(ps:List Str)(sp:Sp):Prop where
  len:∀ vs H Q E,sp vs H Q E→vs.length=ps.length
  run:∀ (A:Around) (outer:List Env) (s:Shared) (H:Hp) (args:Args) (us:List Value) (vs:List V) (Q:VK) (E:XK),Room k A→Env0 P w K mg base A outer s H→BindsTo s fd args (ps.zip us)→Vals vs us→sp vs H Q E →
    codeAny (model P w) A (.call (.ref f) args) (CR CX outer P w H s Q E) s
theorem FnOk.imp {P:Program}{w:World}{K:PySem.W.Frag}{mg:Str→Option Value}{base:Heap}{CX:CXT}{k:Nat}{f:Addr}{fd:FuncData}{ps:List Str}{sp sp':Sp}(F:FnOk P w K mg base CX k f fd ps sp)
    (h:∀ vs H Q E,sp' vs H Q E→sp vs H Q E):FnOk P w K mg base CX k f fd ps sp' :=
  ⟨fun vs H Q E q=>F.len vs H Q E (h _ _ _ _ q),fun A outer s H args us vs Q E hr he hb hv hs=>F.run A outer s H args us vs Q E hr he hb hv (h _ _ _ _ hs)⟩
theorem Env0.make {P:Program}{w:World}{K:PySem.W.Frag}{mg:Str→Option Value}{base:Heap}{A:Around}{outer:List Env}{s:Shared}{H:Hp}(e:Env0 P w K mg base A outer s H)(C:Addr)(us:List Value)(kw:List (Str×Value)) :
    Env0 P w K mg base (A.under (.builtin "type.__call__" ⟨.ref C::us,kw⟩)) outer s H:=⟨by first | exact e.frames | (simpa [Around.under,Code.envs,Code.isFrame,pushEnvs] using e.frames),e.mod,e.bs,e.bsz,e.funs,e.frf,e.hok,e.bare⟩
theorem Env0.in1 {P:Program}{w:World}{K:PySem.W.Frag}{mg:Str→Option Value}{base:Heap}{A:Around}{outer:List Env}{s:Shared}{H:Hp}(e:Env0 P w K mg base A outer s H) :
    Env0 P w K mg base A.in1 outer s H:=⟨e.frames,e.mod,e.bs,e.bsz,e.funs,e.frf,e.hok,e.bare⟩
section
variable {X:Cx}{pins:List (Addr×Obj)}{σ:St}{H:Hp}{s s':Shared}
theorem Inv.env0 (I:Inv X pins σ H s):Env0 X.prog X.w X.K X.mg X.base X.A X.stack s H :=
  ⟨I.ok.frames,I.ok.mod,I.bs,Nat.le_trans I.ok.bsz I.sz,I.stack,I.stkFree,I.hok,I.bare⟩
theorem Inv.after {Q:VK}{u:Value}(I:Inv X pins σ H s)(h:CE X.stack X.prog X.w H s Q u s'):EP X pins σ Q u s':=by
  obtain ⟨v,H',os,bare,un,hok,r,q⟩:=h
  obtain ⟨hh,g,d,t,os'⟩:=s'
  obtain rfl:os'=s.os:=os
  exact ⟨v,H',I.call (h':=hh) (g':=g) (d':=d) (t':=t) (ch:=[]) un hok bare (fun b z=>absurd z (by simp)),r,q⟩
end
def tCall (sp:Sp)(dvs:List V)(E:XK)(t:TA):TE:=fun σ H Q=>t σ H fun vs H1=>sp (vs++dvs) H1 Q E
def tMake (C:Addr)(sp:Sp)(dvs:List V)(E:XK)(t:TA):TE:=fun σ H Q=>t σ H fun vs H1=>∀ x dx,H1 x=none→H1 dx=none→dx≠x →
  sp (.ref x::(vs++dvs)) (upd (upd H1 dx (.own x)) x (.ins C dx [])) (fun v H2=>v=.non∧Q (.ref x) H2) E
def Binds (K:PySem.W.Frag)(fd:FuncData)(ps:List Str)(ds:List Value):Prop :=
  ∀ (s:Shared) (us:List Value),K.In s.heap→(us++ds).length=ps.length→BindsTo s fd ⟨us,[]⟩ (ps.zip (us++ds))
theorem Binds.all {K:PySem.W.Frag}{fd:FuncData}{ps:List Str}(h:∀ us:List Value,us.length=ps.length→bindArgs fd ⟨us,[]⟩=pure (ps.zip us)):Binds K fd ps []:=fun s us _ hl=>by
  rw [List.append_nil] at hl ⊢
  exact .of_eq (h us hl)
def Passes (CX:CXT)(X:Cx)(E:XK):Prop:=∀ (pins:List (Addr×Obj)) (σ:St) (H:Hp) (s:Shared) (e:Value) (s':Shared),Inv X pins σ H s→CX X.stack H s E e s'→X.xe e s'
section
variable {X:Cx}{CX:CXT}{k:Nat}{f C:Addr}{fd:FuncData}{ps:List Str}{sp:Sp}{dvs:List V}{ds:List Value}{E:XK}{x m:Str}{p pos apos:Pos}{e o:Expr}{es:List Expr}{ta:TE}{t:TA}
theorem run_fn {pins:List (Addr×Obj)}{σ:St}{H:Hp}{s:Shared}{Q:VK}{us:List Value}{vs:List V}(F:FnOk X.prog X.w X.K X.mg X.base CX k f fd ps sp)(hr:Room k X.A)(hb:Binds X.K fd ps ds)(hd:Vals dvs ds)(hx:Passes CX X E)
    (I:Inv X pins σ H s) (r:Vals vs us) (h:sp (vs++dvs) H Q E):wpAny (model X.prog X.w) X.A (call (.ref f) us) (EP X pins σ Q) X.xe s:=by
  have r2:Vals (vs++dvs) (us++ds):=r.append hd
  have hl:(us++ds).length=ps.length:=by rw [← r2.length]; exact F.len _ _ _ _ h
  refine wpAny_call (codeAny_mono (F.run X.A X.stack s H ⟨us,[]⟩ (us++ds) (vs++dvs) Q E hr I.env0 (hb s us I.kIn hl) r2 h) fun r s' hq=>?_)
  cases r with
  | error e=>exact hx pins σ H s e s' I hq
  | ok fl =>
    cases fl with
    | ret u=>exact I.after hq
    | next=>exact False.elim hq
    | brk=>exact False.elim hq
    | cont=>exact False.elim hq
theorem pe_call (F:FnOk X.prog X.w X.K X.mg X.base CX k f fd ps sp)(hr:Room k X.A)(hg:Gl X x)(hm:X.mg x=some (.ref f))(hk:PySem.W.keepIn X.K (.ref f)=true)(hb:Binds X.K fd ps ds)(hd:Vals dvs ds)(hx:Passes CX X E)
    (ha:PA X (e::es) t) (hdb:(x == ("__debug__":Str))=false:=by decide) (he:starEach (e::es) X.env=(false,eval e X.env)::starEach es X.env:=by rfl) (hpl:(backTo pos (starEach es X.env)).any (·.1)=false:=by rfl) :
    PE X (.Call (.Name x p) (e::es) [] pos) (tCall sp dvs E t):=by
  intro pins s σ H Q I h
  refine wpAny_Call_Name_kw (ld_glob I hg hm ?_ hdb)
  refine PySem.W.callWith_K (h₀:=X.base) I.ok.mod.kin hk (thn (ha pos pins s σ H _ I h) fun us s1 ⟨vs,H1,I1,r,q⟩=>⟨I1.kIn,?_⟩) he hpl
  exact run_fn F hr hb hd hx I1 r q
structure Mk (K:PySem.W.Frag)(C f:Addr):Prop where
  makes:PySem.W.makesIn K C=true
  init:PySem.W.findIn K (.ref C) "__init__"=some (some (.ref f))
  fn:PySem.W.isFn K (.ref f)=true
  kp:PySem.W.keepIn K (.ref C)=true
theorem run_make {pins:List (Addr×Obj)}{σ:St}{H:Hp}{s:Shared}{Q:VK}{us:List Value}{vs:List V}(M:Mk X.K C f)(F:FnOk X.prog X.w X.K X.mg X.base CX k f fd ps sp)(hr:Room (k+1) X.A)(hb:Binds X.K fd ps ds)(hd:Vals dvs ds)
    (hx:Passes CX X E) (I:Inv X pins σ H s) (r:Vals vs us)
    (h:∀ x dx,H x=none→H dx=none→dx≠x→sp (.ref x::(vs++dvs)) (upd (upd H dx (.own x)) x (.ins C dx [])) (fun v H2=>v=.non∧Q (.ref x) H2) E) :
    wpAny (model X.prog X.w) X.A (call (.ref C) us) (EP X pins σ Q) X.xe s:=by
  have hq:=h (s.heap.objs.size+1) s.heap.objs.size (I.hok.fresh (Nat.le_succ _)) (I.hok.fresh (Nat.le_refl _)) (Nat.ne_of_lt (Nat.lt_succ_self _))
  have I2:=Inv.made (C:=C) I
  have r2:Vals (V.ref (s.heap.objs.size+1)::(vs++dvs)) (Value.ref (s.heap.objs.size+1)::(us++ds)):=.cons rfl (r.append hd)
  have hl:(Value.ref (s.heap.objs.size+1)::us++ds).length=ps.length:=by
    have e:=r2.length
    rw [F.len _ _ _ _ hq] at e
    exact e.symm
  refine wpAny_call (make_map (f:=f) I.kIn M.makes M.init (beq_iff_eq.mp M.fn) (codeAny_mono (F.run _ X.stack _ _ ⟨Value.ref (s.heap.objs.size+1)::us,[]⟩ (Value.ref (s.heap.objs.size+1)::(us++ds)) _ _ E (hr.make C us [])
    (I2.env0.make C us []) (hb _ (Value.ref (s.heap.objs.size+1)::us) I2.kIn hl) r2 hq) fun r s' hq'=>?_))
  cases r with
  | error e=>exact hx pins σ _ _ e s' I2 hq'
  | ok fl =>
    cases fl with
    | ret u =>
      obtain ⟨v,H',I3,rv,ev,q3⟩:=I2.after hq'
      subst ev
      exact ⟨rv,⟨V.ref (s.heap.objs.size+1),H',I3,rfl,q3⟩⟩
    | next=>exact False.elim hq'
    | brk=>exact False.elim hq'
    | cont=>exact False.elim hq'
theorem pe_make (M:Mk X.K C f)(F:FnOk X.prog X.w X.K X.mg X.base CX k f fd ps sp)(hr:Room (k+1) X.A)(hg:Gl X x)(hm:X.mg x=some (.ref C))(hb:Binds X.K fd ps ds)(hd:Vals dvs ds)(hx:Passes CX X E)
    (ha:PA X (e::es) t) (hdb:(x == ("__debug__":Str))=false:=by decide) (he:starEach (e::es) X.env=(false,eval e X.env)::starEach es X.env:=by rfl) (hpl:(backTo pos (starEach es X.env)).any (·.1)=false:=by rfl) :
    PE X (.Call (.Name x p) (e::es) [] pos) (tMake C sp dvs E t):=by
  intro pins s σ H Q I h
  refine wpAny_Call_Name_kw (ld_glob I hg hm ?_ hdb)
  refine PySem.W.callWith_K (h₀:=X.base) I.ok.mod.kin M.kp (thn (ha pos pins s σ H _ I h) fun us s1 ⟨vs,H1,I1,r,q⟩=>⟨I1.kIn,?_⟩) he hpl
  exact run_make M F hr hb hd hx I1 r q
end
section
variable {X:Cx}{CX:CXT}{k:Nat}{f C:Addr}{fd:FuncData}{ps ks:List Str}{sp:Sp}{E:XK}{x m:Str}{p pos apos kpos:Pos}{e o:Expr}{es:List Expr}{kws:List Keyword}{te ta:TE}{t tk:TA}{nm:Option Str}
variable {g:List Value→List Value→List Value}{gV:List V→List V→List V}
end
structure qj (N P:List Str)(sc:Scope):Prop where
  kind:sc.kind=.function
  co:sc.isCoroutine=false
  gen:sc.isGenerator=false
  nd:N.Nodup
  pre:N.take P.length=P
  par:∀ x∈P,sc.names.lookup x=some .local∨sc.names.lookup x=some .cell
  nofree:∀ y∈sc.names,y.2≠.free
theorem bindL_out {kindOf:Str→Option NameKind}{x:Str}:∀ {binds:List (Str×Value)} {m:Str→Option Value},(∀ v,(x,v)∉binds)→bindL kindOf binds m x=m x
  | [],_,_=>rfl
  | (n,v)::r,m,h=>by
    unfold bindL
    rw [bindL_out fun w hw=>h w (List.mem_cons_of_mem _ hw)]
    split
    · have:x≠n:=by rintro rfl; exact h v List.mem_cons_self
      simp [this]
    · rfl
theorem bindC_out {kindOf:Str→Option NameKind}{x:Str}:∀ {binds:List (Str×Value)} {m:Str→Option Value},(∀ v,(x,v)∉binds)→bindC kindOf binds m x=m x
  | [],_,_=>rfl
  | (n,v)::r,m,h=>by
    unfold bindC
    rw [bindC_out fun w hw=>h w (List.mem_cons_of_mem _ hw)]
    split
    · rfl
    · have:x≠n:=by rintro rfl; exact h v List.mem_cons_self
      simp [this]
theorem bindL_get {kindOf:Str→Option NameKind}{x:Str}{v:Value}:∀ {P:List Str} {vs:List Value} {i:Nat} {m:Str→Option Value},P.Nodup→P[i]?=some x→vs[i]?=some v→kindOf x=some .local →
    bindL kindOf (P.zip vs) m x=some v
  | [],_,_,_,_,h,_,_=>by simp at h
  | _::_,[],_,_,_,_,h,_=>by simp at h
  | p::P,w::vs,0,m,nd,h1,h2,hk=>by
    simp at h1 h2; subst h1; subst h2
    show bindL kindOf ((p,w)::P.zip vs) m p=_
    unfold bindL
    rw [bindL_out fun v hv=>(List.nodup_cons.mp nd).1 (List.of_mem_zip hv).1,if_pos hk]
    simp
  | p::P,w::vs,i+1,m,nd,h1,h2,hk=>by
    show bindL kindOf ((p,w)::P.zip vs) m x=_
    unfold bindL
    exact bindL_get (i:=i) (List.nodup_cons.mp nd).2 (by simpa using h1) (by simpa using h2) hk
theorem bindC_get {kindOf:Str→Option NameKind}{x:Str}{v:Value}:∀ {P:List Str} {vs:List Value} {i:Nat} {m:Str→Option Value},P.Nodup→P[i]?=some x→vs[i]?=some v→kindOf x≠some .local →
    bindC kindOf (P.zip vs) m x=some v
  | [],_,_,_,_,h,_,_=>by simp at h
  | _::_,[],_,_,_,_,h,_=>by simp at h
  | p::P,w::vs,0,m,nd,h1,h2,hk=>by
    simp at h1 h2; subst h1; subst h2
    show bindC kindOf ((p,w)::P.zip vs) m p=_
    unfold bindC
    rw [bindC_out fun v hv=>(List.nodup_cons.mp nd).1 (List.of_mem_zip hv).1,if_neg hk]
    simp
  | p::P,w::vs,i+1,m,nd,h1,h2,hk=>by
    show bindC kindOf ((p,w)::P.zip vs) m x=_
    unfold bindC
    exact bindC_get (i:=i) (List.nodup_cons.mp nd).2 (by simpa using h1) (by simpa using h2) hk
def qd1 (N:List Str)(vs:List V):St:=vs.map some++List.replicate (N.length - vs.length) none
def cxOf (CX:CXT)(P:Program)(w:World)(K:PySem.W.Frag)(mg:Str→Option Value)(base:Heap)(N:List Str)(qual:Str)(scope:Scope)(f:Addr)(cd:Value)(A:Around)(outer:List Env)(s:Shared)(H:Hp)(E:XK):Cx where
  prog:=P
  w:=w
  K:=K
  mg:=mg
  base:=base
  A:=A.deeper (envOfC qual scope s.heap.objs.size f cd)
  N:=N
  s₀:=s
  H₀:=H
  env:=envOfC qual scope s.heap.objs.size f cd
  outer:=outer
  stack:=envOfC qual scope s.heap.objs.size f cd::outer
  ex:=[]
  calm:=true
  fn:=fun _=>true
  pn:=[]
  xe:=fun e s'=>wpAny (model P w) (A.deeper (envOfC qual scope s.heap.objs.size f cd)) (leaving (envOfC qual scope s.heap.objs.size f cd) e) (fun _ s''=>CX outer H s E e s'') (fun e' s''=>CX outer H s E e' s'') s'
theorem cell_has {sc:Scope}{n:Nat}{x:Str}(h:sc.names.lookup x=some .cell):∃ c,(cellsFrom n sc.names []).lookup x=some c:=by
  have q:=PySem.W.cellsFrom_some sc.names n [] (.inl h)
  exact Option.isSome_iff_exists.mp q
theorem inv_start {CX:CXT}{P:Program}{w:World}{K:PySem.W.Frag}{mg:Str→Option Value}{base:Heap}{N ps:List Str}{qual:Str}{scope:Scope}{f:Addr}{cd:Value}{A:Around}{outer:List Env}{s s1:Shared}{H:Hp}{E:XK}{us:List Value}{vs:List V}
    (S:qj N ps scope) (hd:A.handled=none) (e0:Env0 P w K mg base A outer s H) (hl:vs.length=ps.length) (r:Vals vs us)
    (x:InCallC s s.heap.objs.size (bindL (envOfC qual scope s.heap.objs.size f cd).kindOf (ps.zip us) fun _=>none) (cellsFrom (s.heap.objs.size+1) scope.names []) (bindC (envOfC qual scope s.heap.objs.size f cd).kindOf (ps.zip us) fun _=>none) s1) :
    Inv (cxOf CX P w K mg base N qual scope f cd A outer s H E) [] (qd1 N vs) H s1:=by
  have hpl:ps.length≤N.length:=by have:=congrArg List.length S.pre; rw [List.length_take] at this; omega
  obtain ⟨h1,tk,rfl,hk⟩:=x.done
  have noA:∀ b:Addr,b∉(cxOf CX P w K mg base N qual scope f cd A outer s H E).ex:=fun b z=>absurd (show b∈([]:List Addr) from z) (by simp)
  refine ⟨⟨e0.mod,S.kind,rfl,rfl,Nat.le_refl _,fun y z c h1 h2=>?_,fun y hy=>?_,fun y c _ h=>?_,fun _=>hd,Around.frames_deeper e0.frames,.inr ⟨rfl,rfl⟩,fun b z=>absurd z (noA b),e0.bs,e0.bsz,fun b _ _=>noA b,fun b z=>absurd z (noA b),e0.funs,e0.frf⟩,
    rfl,e0.bare,Un.kept hk,⟨_,x.toInCall.ns,fun i y v h1 h2 h3=>?_⟩,fun y c h=>⟨_,x.cell y c h⟩,e0.hok.fresh (Nat.le_refl _),fun y c h=>?_,fun p hp=>absurd (show p∈([]:List (Addr×Obj)) from hp) (by simp),e0.hok.kept hk,?_⟩
  · exact name_of_addr x.apart (PySem.mem_of_lookup h1) (PySem.mem_of_lookup h2)
  · have hy:scope.names.lookup y=some .cell∨scope.names.lookup y=some .free:=hy
    rcases hy with hy | hy
    · exact cell_has hy
    · exact absurd rfl (S.nofree _ (PySem.mem_of_lookup hy))
  · exact Nat.le_of_lt (x.above y c (PySem.mem_of_lookup h))
  · have hi:i<vs.length:=by
      unfold qd1 at h2
      by_cases hi:i<vs.length
      · exact hi
      · rw [List.getElem?_append_right (by simpa using hi)] at h2
        rw [List.getElem?_replicate] at h2
        split at h2 <;> cases h2
    have ha:vs[i]?=some v:=by
      unfold qd1 at h2
      rw [List.getElem?_append_left (by simpa using hi),List.getElem?_map] at h2
      cases e:vs[i]? with
      | none=>rw [e] at h2; cases h2
      | some a=>rw [e] at h2; cases h2; rfl
    obtain ⟨u,hu,rv⟩:=r.get ha
    have hp:ps[i]?=some y:=by
      rw [← S.pre,List.getElem?_take_of_lt (by omega)]; exact h1
    have ndP:ps.Nodup:=by rw [← S.pre]; exact S.nd.sublist (List.take_sublist _ _)
    refine ⟨u,rv,?_⟩
    rcases S.par y (List.mem_of_getElem? hp) with k | k
    · exact .inl ⟨k,bindL_get ndP hp hu k⟩
    · obtain ⟨c,e⟩:=cell_has (n:=s.heap.objs.size+1) k
      refine .inr ⟨.inl k,c,e,?_⟩
      have q:=x.cell y c e
      rw [bindC_get ndP hp hu (by show scope.names.lookup y≠_; rw [k]; decide)] at q
      exact q
  · exact e0.hok.fresh (Nat.le_of_lt (x.above y c (PySem.mem_of_lookup h)))
  · unfold qd1
    show _=N.length
    rw [List.length_append,List.length_map,List.length_replicate]
    omega
theorem fn_of {CX:CXT}{P:Program}{w:World}{K:PySem.W.Frag}{mg:Str→Option Value}{base:Heap}{k:Nat}{f:Addr}{name qual:Str}{params:Arguments}{body:List Stmt}{scope:Scope}{dV kV doc pm cdv ct oc:Value}{an od:Option Addr}
    {osl:Array (Option Value)} {N ps:List Str} {sp:Sp} (lk:K.lookup f=some ⟨oc,od,.func (PySem.W.fnOf name qual params body scope dV kV doc pm an cdv ct),osl⟩) (hcd:PySem.W.codeIn K cdv qual=true) (S:qj N ps scope)
    (len:∀ vs H Q E,sp vs H Q E→vs.length=ps.length)
    (hbody:∀ (A:Around) (outer:List Env) (s:Shared) (H:Hp) (vs:List V) (Q:VK) (E:XK),Room k (A.deeper (envOfC qual scope s.heap.objs.size f cdv))→sp vs H Q E →
      ∃ t,PSs (cxOf CX P w K mg base N qual scope f cdv A outer s H E) body t∧t { nx:=fun _ H'=>Q .non H',rt:=Q } (qd1 N vs) H) :
    FnOk P w K mg base CX (k+1) f (PySem.W.fnOf name qual params body scope dV kV doc pm an cdv ct) ps sp:=by
  refine ⟨len,fun A outer s H args us vs Q E hr e0 hb r hsp=>?_⟩
  have hl:=len _ _ _ _ hsp
  have KX:K.In s.heap:=e0.mod.kin.keeps fun b o e=>(e0.bs b o e).1
  have lim:s.heap.NoLimit:=e0.mod.nolimit.keeps fun b o e=>(e0.bs b o e).1
  have hkind:∀ y∈ps.zip us,scope.names.lookup y.1=some .local∨(scope.names.lookup y.1=some .cell∧((cellsFrom (s.heap.objs.size+1) scope.names []).lookup y.1).isSome=true):=fun ⟨n,v⟩ hy=>by
    rcases S.par n (List.of_mem_zip hy).1 with q | q
    · exact .inl q
    · exact .inr ⟨q,PySem.W.cellsFrom_some _ _ _ (.inl q)⟩
  refine codeAny_call_function hr.depth (KX _ _ lk) rfl S.co S.gen rfl (PySem.W.codeRec_of KX hcd) (hb _ _ _ _ ?_)
  refine wpAny_newFunctionEnv_cells S.kind hkind fun env he s1 x=>?_
  subst he
  refine ⟨lim.keeps x.toInCall.keep,codeAny_func ?_⟩
  obtain ⟨t,ht,hq⟩:=hbody A outer s H vs Q E (hr.deeper _) hsp
  have I:Inv (cxOf CX P w K mg base N qual scope f cdv A outer s H E) [] (qd1 N vs) H s1:=inv_start S hr.hd e0 hl r x
  refine wpAny_mono (ht [] s1 (qd1 N vs) H _ I hq) (fun fl s' hs=>?_) fun e s' hs=>hs
  have fin:∀ {σ':St} {H':Hp} {v:V} {u:Value},Inv (cxOf CX P w K mg base N qual scope f cdv A outer s H E) [] σ' H' s'→RelV v u→Q v H'→CE outer P w H s Q u s' :=
    fun {σ' H' v u} J rv q=>⟨v,H',J.os,J.bare,J.base,J.hok,rv,q⟩
  cases fl with
  | ret u =>
    obtain ⟨v,σ',H',J,rv,q⟩:=hs
    exact fin J rv q
  | next =>
    obtain ⟨σ',H',J,q⟩:=hs
    exact fin (v:=V.non) (u:=Value.none) J rfl q
  | brk =>
    obtain ⟨_,_,_,q⟩:=hs
    exact False.elim q
  | cont =>
    obtain ⟨_,_,_,q⟩:=hs
    exact False.elim q
end L2
namespace L2
open PySem PySem.Spec PyProof.Rows
section
variable {X:Cx}{x:Str}{p pos:Pos}{e:Expr}{es:List Expr}{t:TA}{id T:String}{r:List V→Hp→VK→Prop}
def tCB (r:List V→Hp→VK→Prop)(t:TA):TE:=fun σ H Q=>t σ H fun vs H1=>r vs H1 Q
theorem qh1 (hc:CallR X (.builtin id) r)(hg:Gl X x)(hm:X.mg x=none)(hv:bootBuiltins x=some (.builtin id))(ha:PA X (e::es) t)(hn:x≠"__name__":=by decide)(hdb:(x == ("__debug__":Str))=false:=by decide)
    (he:starEach (e::es) X.env=(false,eval e X.env)::starEach es X.env:=by rfl) (hpl:(backTo pos (starEach es X.env)).any (·.1)=false:=by rfl):PE X (.Call (.Name x p) (e::es) [] pos) (tCB r t):=by
  intro pins s σ H Q I h
  refine wpAny_Call_Name_kw (ld_blt I hg hm hv ?_ hn hdb)
  exact PyProof.Rows.callWith_builtin1 (thn (ha pos pins s σ H _ I h) fun us s1 ⟨vs,H1,I1,r1,q1⟩=>hc pins s1 σ H1 vs us Q I1 r1 q1) he hpl
theorem pe_callTy (hc:CallR X (.type T) r)(hg:Gl X x)(hm:X.mg x=none)(hv:bootBuiltins x=some (.type T))(ha:PA X (e::es) t)(hn:x≠"__name__":=by decide)(hdb:(x == ("__debug__":Str))=false:=by decide)
    (he:starEach (e::es) X.env=(false,eval e X.env)::starEach es X.env:=by rfl) (hpl:(backTo pos (starEach es X.env)).any (·.1)=false:=by rfl):PE X (.Call (.Name x p) (e::es) [] pos) (tCB r t):=by
  intro pins s σ H Q I h
  refine wpAny_Call_Name_kw (ld_blt I hg hm hv ?_ hn hdb)
  exact PyProof.Rows.callWith_type1 (thn (ha pos pins s σ H _ I h) fun us s1 ⟨vs,H1,I1,r1,q1⟩=>hc pins s1 σ H1 vs us Q I1 r1 q1) he hpl
end
end L2
namespace HT
open PySem PyProof.Rows
section
open PySem.SeqAt
open PySem.AutoSeq1 (wpAny_loadPart')
open PySem.MeetsSeq PySem.MeetsSeq2 PySem.MeetsSeq3
end
section
variable {prog:Program}{w:World}{A:Around}{E:Value→Shared→Prop}{s:Shared}
theorem cat_tup {t b:Addr}{vs ws:List Value}{Q:Value→Shared→Prop}(ht:IsTup s.heap t vs.toArray)(hb:IsTup s.heap b ws.toArray)(hv:vs≠[])
    (h1:ws=[]→Q (.ref t) s) (h2:ws≠[]→Q (.ref s.heap.objs.size) { s with heap:=s.heap.push { cls:=.type "tuple",data:=.seq (vs++ws).toArray } })
    (hsz:vs.length+ws.length≤sizeLine):wpAny (model prog w) A (binaryOp .Add (.ref t) (.ref b)) Q E s:=by
  obtain ⟨⟨cls,dd,data,sl⟩,ho,hc,n,hd⟩:=id ht
  obtain ⟨⟨cls2,dd2,data2,sl2⟩,ho2,hc2,n2,hd2⟩:=id hb
  simp only at hc hd hc2 hd2
  subst hc hd hc2 hd2
  have e:vs.toArray++ws.toArray=(vs++ws).toArray:=by simp
  by_cases hw:ws=[]
  · exact concat_meets ⟨_,ho,rfl⟩ ⟨_,ho2,rfl⟩ noFill_tuple_add seq_tuple_add PySem.F.slot_tuple_add PySem.F.entry_tuple_add (PySem.F.args_tuple_add_2 _ _)
      (tuple_addW1 t b vs.toArray ws.toArray n n2 dd dd2 sl sl2 (by simpa using hv) (by simp [hw])) ⟨ho,ho2,h1 hw⟩
  · refine concat_meets ⟨_,ho,rfl⟩ ⟨_,ho2,rfl⟩ noFill_tuple_add seq_tuple_add PySem.F.slot_tuple_add PySem.F.entry_tuple_add (PySem.F.args_tuple_add_2 _ _)
      (tuple_addW2 t b vs.toArray ws.toArray n n2 dd dd2 sl sl2 (by simpa using hv) (by simpa using hw) (by rw [List.size_toArray,List.size_toArray]; exact hsz)) ⟨ho,ho2,?_⟩
    rw [e]
    exact h2 hw
def sIx (n d:Nat):Option Int→Nat
  | none=>d
  | some v=>if v<0 then (v+(n:Int)).toNat else min v.toNat n
theorem sIx_none (n d:Nat):sIx n d none=d:=rfl
theorem sIx_nat (n d k:Nat):sIx n d (some (k:Int))=min k n:=by
  show (if (k:Int)<0 then ((k:Int)+(n:Int)).toNat else min (k:Int).toNat n)=min k n
  rw [if_neg (by omega),Int.toNat_natCast]
theorem sIx_le (n d:Nat)(hd:d≤n)(o:Option Int):sIx n d o≤n:=by
  cases o with
  | none=>exact hd
  | some v =>
    show (if v<0 then (v+(n:Int)).toNat else min v.toNat n)≤n
    by_cases hv:v<0
    · rw [if_pos hv]; omega
    · rw [if_neg hv]; exact Nat.min_le_right _ _
theorem clip_eq (v:Int)(n d:Nat):(if v<0 then max (v+(n:Int)) 0 else min v (n:Int))=((sIx n d (some v):Nat):Int):=by
  show (if v<0 then max (v+(n:Int)) 0 else min v (n:Int))=(((if v<0 then (v+(n:Int)).toNat else min v.toNat n):Nat):Int)
  by_cases hv:v<0
  · simp only [if_pos hv]; omega
  · simp only [if_neg hv]; omega
theorem adjust_gen (lo hi:Option Int)(n:Nat):Builtin.Slice.sliceAdjust lo hi 1 (n:Int)=(((sIx n 0 lo:Nat):Int),((sIx n n hi:Nat):Int)):=by
  have h1:¬ ((1:Int)<0):=by omega
  unfold Builtin.Slice.sliceAdjust
  simp only [h1,if_false]
  refine Prod.ext ?_ ?_
  · cases lo with
    | none=>rfl
    | some v=>exact clip_eq v n 0
  · cases hi with
    | none=>rfl
    | some v=>exact clip_eq v n n
theorem places_gen (i j:Nat):Builtin.Slice.slicePlaces (i:Int) (j:Int) 1=j - i:=by
  unfold Builtin.Slice.slicePlaces
  have h1:(1:Int) > 0:=by omega
  simp only [h1,if_true,Int.ediv_one]
  split <;> omega
theorem slicePart_ {v:Value}{o:Option Int}{Q:Option Int→Shared→Prop}(p:IsPart v o)(h:Q o s):wpAny (model prog w) A (Builtin.Slice.slicePartIndex v) Q E s:=by
  cases p with
  | none=>exact slicePart_none h
  | int i t=>exact slicePart_int h
theorem sliceApplied_gen {sl:Addr}{vl vu:Value}{lo hi:Option Int}{n:Nat}{Q:Int×Int×Nat→Shared→Prop}(hs:s.heap.IsSliceOf sl vl vu .none)(pl:IsPart vl lo)(pu:IsPart vu hi)
    (h:Q (((sIx n 0 lo:Nat):Int),1,sIx n n hi - sIx n 0 lo) s):wpAny (model prog w) A (Builtin.Slice.sliceApplied (.ref sl) (pure (n:Int))) Q E s:=by
  obtain ⟨os,hos,hcs,hds⟩:=id hs
  unfold Builtin.Slice.sliceApplied Builtin.Slice.sliceFields
  refine wpAny_bind (wpAny_bind (wpAny_field hos hds (x:=vl) rfl (wpAny_bind (wpAny_field hos hds (x:=vu) rfl (wpAny_bind (wpAny_field hos hds (x:=.none) rfl (wpAny_pure ?_)))))))
  refine wpAny_bind (slicePart_none ?_)
  show wpAny _ _ (if ((1:Int) == 0)=true then _ else _) _ _ s
  rw [if_neg (by decide)]
  refine wpAny_bind (slicePart_ pl (wpAny_bind (slicePart_ pu (wpAny_bind (wpAny_pure ?_)))))
  show wpAny _ _ (match Builtin.Slice.sliceAdjust lo hi 1 (n:Int) with | (lo,hi)=>pure (lo,(1:Int),Builtin.Slice.slicePlaces lo hi 1)) _ _ s
  rw [adjust_gen lo hi n]
  show wpAny _ _ (pure (((sIx n 0 lo:Nat):Int),(1:Int),Builtin.Slice.slicePlaces ((sIx n 0 lo:Nat):Int) ((sIx n n hi:Nat):Int) 1)) _ _ s
  rw [places_gen]
  exact wpAny_pure h
theorem pick_gen (xs:Array Value)(i k:Nat):((List.range k).filterMap fun (m:Nat)=>xs[((i:Int)+(m:Int) * 1).toNat]?).toArray=((xs.toList.drop i).take k).toArray:=by
  have e:(fun (m:Nat)=>xs[((i:Int)+(m:Int) * 1).toNat]?)=fun m=>xs[i+m]?:=by
    funext m
    have:((i:Int)+(m:Int) * 1).toNat=i+m:=by omega
    rw [this]
  rw [e]
  have:=pick_run xs i k
  rw [List.filterMap_map] at this
  have e2:((fun x=>xs[x]?) ∘ fun x=>i+x)=fun m=>xs[i+m]?:=rfl
  rw [e2] at this
  rw [this]
theorem getItem_tuple_cut {t sl:Addr}{items:Array Value}{vl vu:Value}{lo hi:Option Int}{Q:Value→Shared→Prop}(ht:IsTup s.heap t items)(hs:s.heap.IsSliceOf sl vl vu .none)(pl:IsPart vl lo)(pu:IsPart vu hi)
    (hw:¬ (sIx items.size 0 lo=0∧sIx items.size items.size hi=items.size))
    (h:Q (.ref s.heap.objs.size) { s with heap:=s.heap.push { cls:=.type "tuple",data:=.seq ((items.toList.drop (sIx items.size 0 lo)).take (sIx items.size items.size hi - sIx items.size 0 lo)).toArray } })
    (hsz:items.size≤sizeLine):wpAny (model prog w) A (getItem (.ref t) (.ref sl)) Q E s:=by
  have htake:sizeOk (.seq ((items.toList.drop (sIx items.size 0 lo)).take (sIx items.size items.size hi - sIx items.size 0 lo)).toArray):=by
    show ((items.toList.drop (sIx items.size 0 lo)).take (sIx items.size items.size hi - sIx items.size 0 lo)).toArray.size≤sizeLine
    rw [List.size_toArray,List.length_take,List.length_drop,Array.length_toList]
    omega
  have hj:sIx items.size items.size hi≤items.size:=sIx_le _ _ (Nat.le_refl _) hi
  obtain ⟨os,hos,hcs,hds⟩:=id hs
  have hTs:s.TypeIs (.ref sl) "slice":=⟨os,hos,hcs⟩
  unfold getItem
  try with_reducible refine wpAny_holding ?_
  first | refine wpAny_bind (wpAny_pure ?_) | skip
  refine wpAny_bind (wpAny_sequenceKey ht.typeIs (by decide) ?_)
  refine wpAny_bind (wpAny_callSpecial?_slot (name:=Str.ofString "__getitem__") ht.typeIs PyProof.Rows.slot_tuple_getitem
    (wpAny_call_entry PyProof.Rows.slot_tuple_getitem ht.typeIs entry_tuple_getitem ?_ (args_tuple_getitem _ _)))
  show wpAny _ _ (Builtin.Tuple.tupleItemsOf (.ref t) >>= _) _ _ s
  refine wpAny_bind (tupleItemsOf_ ht ?_)
  refine wpAny_bind (wpAny_typeOf hTs ?_)
  rw [if_pos (by decide)]
  refine wpAny_bind (sliceApplied_gen hs pl pu ?_)
  have hno:¬ ((((sIx items.size 0 lo:Nat):Int) == 0 && (1:Int) == 1 && (sIx items.size items.size hi - sIx items.size 0 lo) == items.size)=true):=by
    intro q
    rw [Bool.and_eq_true,Bool.and_eq_true] at q
    have q1:((sIx items.size 0 lo:Nat):Int)=0:=eq_of_beq q.1.1
    have q2:sIx items.size items.size hi - sIx items.size 0 lo=items.size:=eq_of_beq q.2
    exact hw ⟨by omega,by omega⟩
  show wpAny _ _ (if (((sIx items.size 0 lo:Nat):Int) == 0 && (1:Int) == 1 && (sIx items.size items.size hi - sIx items.size 0 lo) == items.size)=true then _ else _) _ _ s
  rw [if_neg hno,pick_gen]
  first
    | exact wpAny_bind (m:=Builtin.Tuple.tupleExact _) (wpAny_newObj_type (wpAny_pure ⟨_,rfl,wpAny_pure h⟩) htake)
    | exact wpAny_bind (m:=Builtin.Tuple.tupleExact _) (wpAny_newObj_type (wpAny_bind (wpAny_pure (wpAny_pure ⟨_,rfl,wpAny_pure h⟩))) htake)
    | exact wpAny_bind (wpAny_bind (m:=Builtin.Tuple.tupleExact _) (wpAny_newObj_type (wpAny_pure (wpAny_pure ⟨_,rfl,wpAny_pure h⟩)) htake))
    | exact wpAny_bind (wpAny_bind (m:=Builtin.Tuple.tupleExact _) (wpAny_newObj_type (wpAny_pure ⟨_,rfl,wpAny_pure h⟩) htake))
end
end HT
namespace L2
open PySem PySem.Spec PyProof.Rows
abbrev TO:=St→Hp→(Option Int→Hp→Prop)→Prop
def PO (X:Cx)(e:Option Expr)(t:TO):Prop :=
  ∀ (pins:List (Addr×Obj)) (s:Shared) (σ:St) (H:Hp) (Q:Option Int→Hp→Prop),Inv X pins σ H s→t σ H Q →
    wpAny (model X.prog X.w) X.A (evalPart e X.env) (fun u s'=>∃ o H',Inv X pins σ H' s'∧IsPart u o∧Q o H') X.xe s
def tNoPart:TO:=fun _ H Q=>Q none H
def tPart (t:TE):TO:=fun σ H Q=>t σ H fun x H1=>∃ i,x=.int i∧Q (some i) H1
section
variable {X:Cx}{e:Expr}{te:TE}{lo hi:Option Expr}{tl th:TO}{pos p2:Pos}
theorem po_none:PO X none tNoPart:=by
  intro pins s σ H Q I h
  rw [evalPart_none]
  exact wpAny_pure ⟨none,H,I,.none,h⟩
theorem po_some (h:PE X e te):PO X (some e) (tPart te):=by
  intro pins s σ H Q I hw
  rw [evalPart_some]
  refine thn (h pins s σ H _ I hw) fun u s1 ⟨x,H1,I1,r1,q1⟩=>?_
  obtain ⟨i,rfl,q⟩:=q1
  obtain ⟨t,rfl⟩:=r1
  exact ⟨some i,H1,I1,.int i t,q⟩
def SlR (X:Cx)(r:V→Option Int→Option Int→Hp→VK→Prop):Prop :=
  ∀ (pins:List (Addr×Obj)) (s:Shared) (σ:St) (H:Hp) (x:V) (v vl vu:Value) (lo hi:Option Int) (sl:Addr) (Q:VK),Inv X pins σ H s→RelV x v→s.heap.IsSliceOf sl vl vu .none→IsPart vl lo→IsPart vu hi→r x lo hi H Q →
    ∃ T id,typeLookup (.type T) "__getitem__"=pure (some (.builtin id))∧s.TypeIs v T∧wpAny (model X.prog X.w) X.A (getItem v (.ref sl)) (EP X pins σ Q) X.xe s
theorem SlR.or {r r':V→Option Int→Option Int→Hp→VK→Prop}(h:SlR X r)(h':SlR X r'):SlR X (fun x lo hi H Q=>r x lo hi H Q∨r' x lo hi H Q):=by
  intro pins s σ H x v vl vu lo hi sl Q I rx hs pl pu q
  rcases q with q | q
  · exact h pins s σ H x v vl vu lo hi sl Q I rx hs pl pu q
  · exact h' pins s σ H x v vl vu lo hi sl Q I rx hs pl pu q
def tSl (r:V→Option Int→Option Int→Hp→VK→Prop)(te:TE)(tl th:TO):TE:=fun σ H Q=>te σ H fun x H1=>tl σ H1 fun l H2=>th σ H2 fun u H3=>r x l u H3 Q
theorem pe_slice {r:V→Option Int→Option Int→Hp→VK→Prop}(hr:SlR X r)(he:PE X e te)(hl:PO X lo tl)(hu:PO X hi th):PE X (.Subscript e (.Slice lo hi none p2) pos) (tSl r te tl th):=by
  intro pins s σ H Q I h
  refine Subscript_ (thn (he pins s σ H _ I h) fun v s1 ⟨x,H1,I1,r1,q1⟩=>?_)
  refine wpAny_Slice (thn (hl pins s1 σ H1 _ I1 q1) fun vl s2 ⟨l,H2,I2,pl,q2⟩=>thn (hu pins s2 σ H2 _ I2 q2) fun vu s3 ⟨u,H3,I3,pu,q3⟩=>?_)
  rw [evalPart_none]
  refine wpAny_pure ?_
  have I4:Inv X pins σ H3 { s3 with heap:=s3.heap.push { cls:=.type "slice",data:=.fields #[vl,vu,.none] } }:=I3.kept (t':=s3.toks) fun b ob q=>Heap.get?_push_of_some _ q
  obtain ⟨T,id,hT,ht,hg⟩:=hr pins { s3 with heap:=s3.heap.push { cls:=.type "slice",data:=.fields #[vl,vu,.none] } } σ H3 x v vl vu l u s3.heap.objs.size Q I4 r1 (Heap.IsSliceOf.new ..) pl pu q3
  show wpAny (model X.prog X.w) X.A (subscriptTail e (.Slice lo hi none p2) v (.ref s3.heap.objs.size)) (EP X pins σ Q) X.xe { s3 with heap:=s3.heap.push { cls:=.type "slice",data:=.fields #[vl,vu,.none] } }
  exact tail_any (ops:=[.ref s3.heap.objs.size,v]) ht hT hg (by with_unfolding_all rfl)
def cutV (xs:List V)(lo hi:Option Int):List V:=(xs.drop (HT.sIx xs.length 0 lo)).take (HT.sIx xs.length xs.length hi - HT.sIx xs.length 0 lo)
theorem cutV_length (xs:List V)(lo hi:Option Int):(cutV xs lo hi).length≤xs.length:=by
  unfold cutV
  rw [List.length_take,List.length_drop]
  omega
def rSlT (K:PySem.W.Frag):V→Option Int→Option Int→Hp→VK→Prop:=fun x lo hi H Q=>∃ a xs,x=.ref a∧SqT K H a xs ∧
  ¬ (HT.sIx xs.length 0 lo=0∧HT.sIx xs.length xs.length hi=xs.length)∧∀ p,H p=none→Q (.ref p) (upd H p (.tup (cutV xs lo hi)))
theorem sl_tup:SlR X (rSlT X.K):=by
  intro pins s σ H x v vl vu lo hi sl Q I rx hs pl pu h
  obtain ⟨a,xs,rfl,hx,hw,q⟩:=h
  cases rx
  obtain ⟨its,r,ht,hz⟩:=I.tuple hx
  have hlen:its.toArray.size=xs.length:=by rw [List.size_toArray]; exact r.length.symm
  refine ⟨"tuple",_,PyProof.Rows.slot_tuple_getitem.lookup,ht.typeIs,?_⟩
  refine HT.getItem_tuple_cut ht hs pl pu (by rw [hlen]; exact hw) ?_ (by rw [hlen]; exact hz)
  rw [hlen]
  refine ⟨.ref s.heap.objs.size,_,I.laid (t':=s.toks) (o:=.tup (cutV xs lo hi)) (fun b ob q=>Heap.get?_push_of_some _ q) (Nat.le_refl _) ?_,rfl,q _ (I.hok.fresh (Nat.le_refl _))⟩
  exact ⟨Nat.le_trans (cutV_length xs lo hi) hz,_,(r.drop (HT.sIx xs.length 0 lo)).take (HT.sIx xs.length xs.length hi - HT.sIx xs.length 0 lo),IsTup.new _ _⟩
def rCatT (K:PySem.W.Frag):R2:=fun x y H Q=>∃ a b xs ys,x=.ref a∧y=.ref b∧SqT K H a xs∧SqT K H b ys∧xs≠[]∧xs.length+ys.length≤sizeLine ∧
  (ys=[]→Q (.ref a) H)∧(ys≠[]→∀ p,H p=none→Q (.ref p) (upd H p (.tup (xs++ys))))
theorem Vals.nil_iff {xs:List V}{us:List Value}(r:Vals xs us):us=[]↔xs=[]:=by
  cases r with
  | nil=>simp
  | cons _ _=>simp
theorem op_catT:OpR X (binaryOp .Add) (rCatT X.K):=by
  intro pins s σ H x y v u Q I rx ry h
  obtain ⟨a,b,xs,ys,rfl,rfl,ha,hb,hx,hz,q1,q2⟩:=h
  cases rx
  cases ry
  obtain ⟨its,r1,p1,_⟩:=I.tuple ha
  obtain ⟨its2,r2,p2,_⟩:=I.tuple hb
  refine HT.cat_tup p1 p2 (fun z=>hx (r1.nil_iff.mp z)) (fun z=>⟨.ref a,H,I,rfl,q1 (r2.nil_iff.mp z)⟩) (fun z=>?_) (by rw [← r1.length,← r2.length]; exact hz)
  refine ⟨.ref s.heap.objs.size,_,I.laid (t':=s.toks) (o:=.tup (xs++ys)) (fun b ob q=>Heap.get?_push_of_some _ q) (Nat.le_refl _) ?_,rfl,q2 (fun w=>z (r2.nil_iff.mpr w)) _ (I.hok.fresh (Nat.le_refl _))⟩
  exact ⟨by rw [List.length_append]; exact hz,_,r1.append r2,IsTup.new _ _⟩
end
end L2
namespace L2
open PySem PySem.Spec PyProof.Rows
def ixN (n:Nat)(i:Int):Option Nat:=if 0≤i then (if i<n then some i.toNat else none) else if -(n:Int)≤i then some (i+n).toNat else none
def atI {α:Type}(xs:List α)(i:Int):Option α:=(ixN xs.length i).bind fun j=>xs[j]?
theorem ixN_seq {n:Nat}{i:Int}{j:Nat}(h:ixN n i=some j):seqIndex? i n=some j∧j<n∧-(n:Int)≤i∧i<n:=by
  unfold ixN at h
  by_cases h0:0≤i
  · rw [if_pos h0] at h
    by_cases h1:i<n
    · rw [if_pos h1] at h
      have e:i.toNat=j:=Option.some.inj h
      exact ⟨by rw [seqIndex_of h0 h1,e],by omega,by omega,h1⟩
    · rw [if_neg h1] at h; cases h
  · rw [if_neg h0] at h
    by_cases h1:-(n:Int)≤i
    · rw [if_pos h1] at h
      have e:(i+n).toNat=j:=Option.some.inj h
      exact ⟨by rw [seqIndex_neg (by omega) h1,e],by omega,h1,by omega⟩
    · rw [if_neg h1] at h; cases h
theorem atI_get {α:Type}{xs:List α}{i:Int}{v:α}(h:atI xs i=some v):∃ j,seqIndex? i xs.length=some j∧xs[j]?=some v∧j<xs.length∧-(xs.length:Int)≤i∧i<xs.length:=by
  unfold atI at h
  cases e:ixN xs.length i with
  | none=>rw [e] at h; cases h
  | some j =>
    rw [e] at h
    obtain ⟨h1,h2,h3,h4⟩:=ixN_seq e
    exact ⟨j,h1,h,h2,h3,h4⟩
theorem atI_nat {α:Type}{xs:List α}{j:Nat}{v:α}(h:xs[j]?=some v):atI xs (j:Int)=some v:=by
  have hj:j<xs.length:=(List.getElem?_eq_some_iff.mp h).1
  have e:ixN xs.length (j:Int)=some j:=by
    unfold ixN
    rw [if_pos (by omega),if_pos (by omega)]; simp
  unfold atI; rw [e]; exact h
theorem atI_last {α:Type}(xs:List α)(v:α):atI (xs++[v]) (-1)=some v:=by
  have hl:(xs++[v]).length=xs.length+1:=by simp
  have e:ixN (xs++[v]).length (-1)=some xs.length:=by
    unfold ixN
    rw [hl,if_neg (by decide),if_pos (by omega)]
    congr 1
    omega
  unfold atI
  rw [e]
  show (xs++[v])[xs.length]?=some v
  simp
def PlainIx (b:Expr):Prop:=∀ o i,subscripted b false o i=operate [o,i] (getItem o i)
def IxR (X:Cx)(r:R2):Prop :=
  ∀ (value slice:Expr) (pins:List (Addr×Obj)) (s:Shared) (σ:St) (H:Hp) (x y:V) (v u:Value) (Q:VK),Inv X pins σ H s→RelV x v→RelV y u→r x y H Q →
    subscripted slice false v u=operate [v,u] (getItem v u)→wpAny (model X.prog X.w) X.A (subscriptTail value slice v u) (EP X pins σ Q) X.xe s
def MtR (X:Cx)(id:String)(r:V→List V→Hp→VK→Prop):Prop :=
  ∀ (pins:List (Addr×Obj)) (s:Shared) (σ:St) (H:Hp) (x:V) (xs:List V) (v:Value) (us:List Value) (Q:VK),Inv X pins σ H s→RelV x v→Vals xs us→r x xs H Q →
    wpAny (model X.prog X.w) X.A (call (.builtin id) (v::us)) (EP X pins σ Q) X.xe s
section
variable {X:Cx}{a b:Expr}{ta tb:TE}{pos:Pos}
theorem IxR.or {r r':R2}(h:IxR X r)(h':IxR X r'):IxR X (fun x y H Q=>r x y H Q∨r' x y H Q):=by
  intro value slice pins s σ H x y v u Q I rx ry q hs
  rcases q with q | q
  · exact h value slice pins s σ H x y v u Q I rx ry q hs
  · exact h' value slice pins s σ H x y v u Q I rx ry q hs
theorem MtR.or {id:String}{r r':V→List V→Hp→VK→Prop}(h:MtR X id r)(h':MtR X id r'):MtR X id (fun x xs H Q=>r x xs H Q∨r' x xs H Q):=by
  intro pins s σ H x xs v us Q I rx rs q
  rcases q with q | q
  · exact h pins s σ H x xs v us Q I rx rs q
  · exact h' pins s σ H x xs v us Q I rx rs q
theorem qi {r:R2}(hr:IxR X r)(ha:PE X a ta)(hb:PE X b tb)(hs:PlainIx b):PE X (.Subscript a b pos) (tOp r ta tb):=by
  intro pins s σ H Q I h
  exact Subscript_ (binT ha hb I h fun v u s2 x y H2 I2 rx ry q=>hr a b pins s2 σ H2 x y v u Q I2 rx ry q (hs _ _))
def rIxL (K:PySem.W.Frag):R2:=fun x y H Q=>∃ p xs i v,x=.ref p∧y=.int i∧SqL K H p xs∧atI xs i=some v∧Q v H
def rIxT (K:PySem.W.Frag):R2:=fun x y H Q=>∃ p xs i v,x=.ref p∧y=.int i∧SqT K H p xs∧atI xs i=some v∧Q v H
theorem qp:IxR X (rIxL X.K):=by
  intro value slice pins s σ H x y v u Q I rx ry h hs
  obtain ⟨p,xs,i,z,rfl,rfl,hq,he,q⟩:=h
  cases rx
  obtain ⟨t,rfl⟩:=ry
  obtain ⟨its,r,pl,hz⟩:=I.list hq
  obtain ⟨j,h1,h2,h3,h4,h5⟩:=atI_get he
  obtain ⟨w,ew,rw'⟩:=r.get h2
  have hl:=r.length
  have hn:=line63
  have fin:EP X pins σ Q w s:=⟨z,H,I,rw',q⟩
  by_cases h0:0≤i
  · have hj:i.toNat=j:=by
      rw [seqIndex_of h0 h5] at h1
      exact Option.some.inj h1
    exact item_listR pl.isList h0 (by omega) (by rw [hj]; simpa using ew) fin hs
  · have hj:(i+(its.toArray.size:Int)).toNat=j:=by
      rw [seqIndex_neg (by omega) h4] at h1
      rw [List.size_toArray,← hl]
      exact Option.some.inj h1
    exact subscriptTail_builtinR (x:=w) pl.isList.typeIs slot_list_getitem.lookup
      (wpAny_getItem_list_neg (Q:=fun r s'=>r=w∧EP X pins σ Q r s') pl.isList (by omega) (by rw [List.size_toArray] <;> omega) (by omega) (by rw [hj]; simpa using ew) ⟨rfl,fin⟩) hs
theorem qm:IxR X (rIxT X.K):=by
  intro value slice pins s σ H x y v u Q I rx ry h hs
  obtain ⟨p,xs,i,z,rfl,rfl,hq,he,q⟩:=h
  cases rx
  obtain ⟨t,rfl⟩:=ry
  obtain ⟨its,r,pl,hz⟩:=I.tuple hq
  obtain ⟨j,h1,h2,h3,h4,h5⟩:=atI_get he
  obtain ⟨w,ew,rw'⟩:=r.get h2
  have hl:=r.length
  have hn:=line63
  have fin:EP X pins σ Q w s:=⟨z,H,I,rw',q⟩
  exact subscriptTail_builtinR (x:=w) pl.typeIs slot_tuple_getitem.lookup
    (getItem_tuple (j:=j) (Q:=fun r s'=>r=w∧EP X pins σ Q r s') pl (by omega) (by omega) (by rw [List.size_toArray,← hl]; exact h1) (by simpa using ew) ⟨rfl,fin⟩) hs
theorem slice_bounds (lo hi:Option Int)(n:Nat):(sliceBounds lo hi none n).1=((HT.sIx n 0 lo:Nat):Int)∧(sliceBounds lo hi none n).2.1=((HT.sIx n n hi:Nat):Int)∧(sliceBounds lo hi none n).2.2=1:=by
  refine ⟨?_,?_,rfl⟩
  · cases lo with
    | none=>simp [sliceBounds,HT.sIx]
    | some i =>
      simp only [sliceBounds,HT.sIx,Option.getD_none,show (1:Int) > 0 by decide,if_true]
      by_cases h:i<0
      · simp only [h,if_true] <;> omega
      · simp only [h,if_false] <;> omega
  · cases hi with
    | none=>simp [sliceBounds,HT.sIx]
    | some i =>
      simp only [sliceBounds,HT.sIx,Option.getD_none,show (1:Int) > 0 by decide,if_true]
      by_cases h:i<0
      · simp only [h,if_true] <;> omega
      · simp only [h,if_false] <;> omega
theorem slicePick_cut (its:List Value)(lo hi:Option Int):slicePick its.toArray lo hi none=((its.drop (HT.sIx its.length 0 lo)).take (HT.sIx its.length its.length hi - HT.sIx its.length 0 lo)).toArray:=by
  obtain ⟨h1,h2,h3⟩:=slice_bounds lo hi its.toArray.size
  unfold slicePick
  rw [h1,h2,h3]
  simp only [sliceRange_one,pick_run,List.size_toArray] <;> rfl
def rSlL (K:PySem.W.Frag):V→Option Int→Option Int→Hp→VK→Prop:=fun x lo hi H Q=>∃ a xs,x=.ref a∧SqL K H a xs∧∀ p,H p=none→Q (.ref p) (upd H p (.lst (cutV xs lo hi)))
theorem sl_list:SlR X (rSlL X.K):=by
  intro pins s σ H x v vl vu lo hi sl Q I rx hs pl pu h
  obtain ⟨a,xs,rfl,hx,q⟩:=h
  cases rx
  obtain ⟨its,r,ht,hz⟩:=I.list hx
  have hlen:=r.length
  refine ⟨"list",_,slot_list_getitem.lookup,ht.isList.typeIs,?_⟩
  refine wpAny_getItem_list_slice ht.isList hs pl pu .none (by simp) ?_ (by rw [List.size_toArray] <;> omega)
  rw [slicePick_cut,← hlen]
  refine ⟨.ref s.heap.objs.size,_,I.laid (t':=s.toks) (o:=.lst (cutV xs lo hi)) (fun b ob q=>Heap.get?_push_of_some _ q) (Nat.le_refl _) ?_,rfl,q _ (I.hok.fresh (Nat.le_refl _))⟩
  exact ⟨Nat.le_trans (cutV_length xs lo hi) hz,_,0,(r.drop (HT.sIx xs.length 0 lo)).take (HT.sIx xs.length xs.length hi - HT.sIx xs.length 0 lo),Heap.get?_push_size _ rfl⟩
def flatV:V→Bool
  | .non=>true
  | .bl _=>true
  | .int _=>true
  | .str _=>true
  | _=>false
def eqV:V→V→Bool
  | .non,.non=>true
  | .bl a,.bl b=>a == b
  | .bl a,.int b=>(if a then 1 else 0) == b
  | .int a,.bl b=>a == (if b then 1 else 0)
  | .int a,.int b=>a == b
  | .str a,.str b=>a == b
  | _,_=>false
theorem eqAt_V {A:Around}{s:Shared}{y x:V}{u v:Value}(ry:RelV y u)(rx:RelV x v)(fy:flatV y=true)(fx:flatV x=true):SeqAt.EqAt A s u v (eqV y x):=by
  cases y with
  | non =>
    cases ry
    cases x with
    | non=>cases rx; exact SeqAt.EqAt.same _
    | bl b=>cases rx; exact SeqAt.EqAt.none_bool b
    | int b=>obtain ⟨t,rfl⟩:=rx; exact SeqAt.EqAt.none_int b t
    | str b=>obtain ⟨t,rfl⟩:=rx; exact SeqAt.EqAt.none_str b t
    | _=>exact absurd (show false=true from fx) Bool.false_ne_true
  | bl a =>
    cases ry
    cases x with
    | non=>cases rx; exact SeqAt.EqAt.bool_none a
    | bl b=>cases rx; exact SeqAt.EqAt.bool_bool a b
    | int b=>obtain ⟨t,rfl⟩:=rx; exact SeqAt.EqAt.bool_int a b t
    | str b=>obtain ⟨t,rfl⟩:=rx; exact SeqAt.EqAt.bool_str a b t
    | _=>exact absurd (show false=true from fx) Bool.false_ne_true
  | int a =>
    obtain ⟨t',rfl⟩:=ry
    cases x with
    | non=>cases rx; exact SeqAt.EqAt.int_none a t'
    | bl b=>cases rx; exact SeqAt.EqAt.int_bool a t' b
    | int b=>obtain ⟨t,rfl⟩:=rx; exact SeqAt.EqAt.int_int a t' b t
    | str b=>obtain ⟨t,rfl⟩:=rx; exact SeqAt.EqAt.int_str a t' b t
    | _=>exact absurd (show false=true from fx) Bool.false_ne_true
  | str a =>
    obtain ⟨t',rfl⟩:=ry
    cases x with
    | non=>cases rx; exact SeqAt.EqAt.str_none a t'
    | bl b=>cases rx; exact SeqAt.EqAt.str_bool a t' b
    | int b=>obtain ⟨t,rfl⟩:=rx; exact SeqAt.EqAt.str_int a t' b t
    | str b=>obtain ⟨t,rfl⟩:=rx; exact SeqAt.EqAt.str_str a t' b t
    | _=>exact absurd (show false=true from fx) Bool.false_ne_true
  | _=>exact absurd (show false=true from fy) Bool.false_ne_true
def eqU (x:V)(u:Value):Bool:=match u with
  | .none=>eqV .non x
  | .bool b=>eqV (.bl b) x
  | .int i _=>eqV (.int i) x
  | .str z _=>eqV (.str z) x
  | _=>false
theorem eqU_of {x y:V}{u:Value}(r:RelV y u)(f:flatV y=true):eqU x u=eqV y x:=by
  cases y with
  | non=>cases r; rfl
  | bl b=>cases r; rfl
  | int i=>obtain ⟨t,rfl⟩:=r; rfl
  | str z=>obtain ⟨t,rfl⟩:=r; rfl
  | _=>exact absurd (show false=true from f) Bool.false_ne_true
theorem any_eqU {x:V}:∀ {xs:List V} {us:List Value},Vals xs us→xs.all flatV=true→us.any (eqU x)=xs.any fun y=>eqV y x
  | _,_,.nil,_=>rfl
  | y::xs,u::us,.cons r t,f=>by
    rw [List.all_cons,Bool.and_eq_true] at f
    rw [List.any_cons,List.any_cons,eqU_of r f.1,any_eqU t f.2]
theorem mem_eqAt {A:Around}{s:Shared}{x:V}{v:Value}(rx:RelV x v)(fx:flatV x=true):∀ {xs:List V} {us:List Value},Vals xs us→xs.all flatV=true→∀ u∈us,SeqAt.EqAt A s u v (eqU x u)
  | _,_,.nil,_=>fun u hu=>by cases hu
  | y::xs,u::us,.cons r t,f=>fun u' hu=>by
    rw [List.all_cons,Bool.and_eq_true] at f
    rcases List.mem_cons.mp hu with rfl | hu
    · rw [eqU_of r f.1]; exact eqAt_V r rx f.1 fx
    · exact mem_eqAt rx fx t f.2 u' hu
def inV (x:V)(xs:List V):Bool:=xs.any fun y=>eqV y x
def rIn (K:PySem.W.Frag)(neg:Bool):R2:=fun x y H Q=>∃ p xs,y=.ref p∧(SqL K H p xs∨SqT K H p xs)∧flatV x=true∧xs.all flatV=true∧Q (.bl (if neg then !inV x xs else inV x xs)) H
theorem op_in_seq:OpR X (compareOp .In) (rIn X.K false):=by
  intro pins s σ H x y v u Q I rx ry h
  obtain ⟨p,xs,rfl,hq,fx,fs,q⟩:=h
  cases ry
  rcases hq with hq | hq
  · obtain ⟨its,r,pl,hz⟩:=I.list hq
    refine SeqAt.in_listAt (eqU x) pl.isList (fun w hw=>mem_eqAt rx fx r fs w (by simpa using hw)) ⟨.bl _,H,I,rfl,?_⟩
    rw [show its.toArray.any (eqU x)=its.any (eqU x) by simp,any_eqU r fs]
    exact q
  · obtain ⟨its,r,pl,hz⟩:=I.tuple hq
    refine SeqAt.in_tupleAt (eqU x) pl (fun w hw=>mem_eqAt rx fx r fs w (by simpa using hw)) ⟨.bl _,H,I,rfl,?_⟩
    rw [show its.toArray.any (eqU x)=its.any (eqU x) by simp,any_eqU r fs]
    exact q
theorem call_len_seq:CallR X (.builtin "len") (fun xs H Q=>∃ p ys,xs=[.ref p]∧(SqL X.K H p ys∨SqT X.K H p ys)∧Q (.int ys.length) H):=by
  intro pins s σ H xs us Q I r h
  obtain ⟨p,ys,rfl,hq,q⟩:=h
  obtain ⟨u,rfl,rx⟩:=vals1 r
  cases rx
  have hn:=line63
  rcases hq with hq | hq
  · obtain ⟨its,r',pl,hz⟩:=I.list hq
    have hlen:=r'.length
    exact Calls.call_len_list pl.isList (by simp only [List.size_toArray] <;> omega) ⟨.int ys.length,H,I.tok _,⟨s.toks+1,by rw [List.size_toArray,hlen]⟩,q⟩
  · obtain ⟨its,r',pl,hz⟩:=I.tuple hq
    have hlen:=r'.length
    exact len_tuple pl (by simp only [List.size_toArray] <;> omega) ⟨.int ys.length,H,I.tok _,⟨s.toks+1,by rw [List.size_toArray,hlen]⟩,q⟩
theorem CallR.or {f:Value}{r r':List V→Hp→VK→Prop}(h:CallR X f r)(h':CallR X f r'):CallR X f (fun xs H Q=>r xs H Q∨r' xs H Q):=by
  intro pins s σ H xs us Q I rs q
  rcases q with q | q
  · exact h pins s σ H xs us Q I rs q
  · exact h' pins s σ H xs us Q I rs q
theorem call_list_of:CallR X (.type "list") (fun xs H Q=>∃ p ys,xs=[.ref p]∧(SqL X.K H p ys∨SqT X.K H p ys)∧∀ l,H l=none→Q (.ref l) (upd H l (.lst ys))):=by
  intro pins s σ H xs us Q I r h
  obtain ⟨p,ys,rfl,hq,q⟩:=h
  obtain ⟨u,rfl,rx⟩:=vals1 r
  cases rx
  have fin:∀ (its:List Value),Vals ys its→ys.length≤sizeLine→∀ (h':Heap) (c':Nat),(∀ b o',s.heap.get? b=some o'→h'.get? b=some o') →
      h'.get? s.heap.objs.size=some { cls:=.type "list",dict:=none,data:=.seq its.toArray c',slots:=#[] }→EP X pins σ Q (.ref s.heap.objs.size) { s with heap:=h' }:=fun its r' hz h' c' kp e =>
    ⟨.ref s.heap.objs.size,_,I.laid (t':=s.toks) kp (Nat.le_refl _) (show ObjOk X.prog X.w _ h' _ (.lst ys) from ⟨hz,its,c',r',e⟩),rfl,q _ (I.hok.fresh (Nat.le_refl _))⟩
  rcases hq with hq | hq
  · obtain ⟨its,r',pl,hz⟩:=I.list hq
    have hlen:=r'.length
    obtain ⟨o,ho,hc,n,hd⟩:=pl.isList
    exact call_list_seq p (.inl rfl) ho hc hd (fun h' c' kp e=>fin its r' hz h' c' kp e) (by simp only [List.size_toArray] <;> omega)
  · obtain ⟨its,r',pl,hz⟩:=I.tuple hq
    have hlen:=r'.length
    obtain ⟨o,ho,hc,n,hd⟩:=pl
    exact call_list_seq p (.inr rfl) ho hc hd (fun h' c' kp e=>fin its r' hz h' c' kp e) (by simp only [List.size_toArray] <;> omega)
def tyV (K:PySem.W.Frag)(T:String)(x:V)(H:Hp):Prop:=match x with
  | .str _=>T="str"
  | .int _=>T="int"
  | .ref p=>(T="list"∧∃ xs,SqL K H p xs)∨(T="tuple"∧∃ o,K.lookup p=some o∧o.cls=.type "tuple"∧o.dict=none) ∨
      (T="dict"∧((∃ kvs,H p=some (.dK kvs))∨∃ kvs,H p=some (.dT kvs)))∨(T="set"∧∃ S n,H p=some (.set S n))
  | _=>False
theorem tyV_is {pins:List (Addr×Obj)}{σ:St}{H:Hp}{s:Shared}{T:String}{x:V}{v:Value}(I:Inv X pins σ H s)(r:RelV x v)(ty:tyV X.K T x H) :
    s.TypeIs v T∧∀ a,v=.ref a→∃ ob,s.heap.get? a=some ob∧ob.dict=none:=by
  cases x with
  | str z =>
    obtain ⟨t,rfl⟩:=r
    cases (show T="str" from ty)
    exact ⟨typeIs_str s z t,fun _ e=>nomatch e⟩
  | int i =>
    obtain ⟨t,rfl⟩:=r
    cases (show T="int" from ty)
    exact ⟨typeIs_int s i t,fun _ e=>nomatch e⟩
  | ref p =>
    cases r
    rcases ty with ⟨rfl,xs,hq⟩ | ⟨rfl,o,hk,hc,hd⟩ | ⟨rfl,hk⟩ | ⟨rfl,S,n,hk⟩
    · obtain ⟨its,_,pl,_⟩:=I.list hq
      refine ⟨pl.isList.typeIs,fun a e=>?_⟩
      cases e
      obtain ⟨o,n,e,c,hd,_⟩:=pl
      exact ⟨o,e,hd⟩
    · refine ⟨⟨o,I.kIn p o hk,hc⟩,fun a e=>?_⟩
      cases e
      exact ⟨o,I.kIn _ o hk,hd⟩
    · have z:∃ o,s.heap.get? p=some o∧o.ExactDict:=by
        rcases hk with ⟨kvs,hk⟩ | ⟨kvs,hk⟩
        · obtain ⟨_,_,_,_,o,_,_,e,ex,_⟩:=I.hok p _ hk
          exact ⟨o,e,ex⟩
        · obtain ⟨_,_,_,_,o,_,_,e,ex,_⟩:=I.hok p _ hk
          exact ⟨o,e,ex⟩
      obtain ⟨o,e,ex⟩:=z
      refine ⟨⟨o,e,ex.1⟩,fun a e2=>?_⟩
      cases e2
      exact ⟨o,e,ex.2.1⟩
    · obtain ⟨o,_,_,_,e,ex,_⟩:=I.hok p _ hk
      refine ⟨⟨o,e,ex.1⟩,fun a e2=>?_⟩
      cases e2
      exact ⟨o,e,ex.2.1⟩
  | _=>exact False.elim ty
def tBM0 (K:PySem.W.Frag)(T:String)(r:V→List V→Hp→VK→Prop)(to:TE):TE:=fun σ H Q=>to σ H fun x H1=>tyV K T x H1∧r x [] H1 Q
def tBM (K:PySem.W.Frag)(T:String)(r:V→List V→Hp→VK→Prop)(to:TE)(t:TA):TE:=fun σ H Q=>to σ H fun x H1=>tyV K T x H1∧t σ H1 fun xs H2=>r x xs H2 Q
variable {o e:Expr}{es:List Expr}{to:TE}{t:TA}{name:Str}{apos cpos:Pos}{T id:String}{r:V→List V→Hp→VK→Prop}
theorem pe_bm0 (pa:PlainAttrs T)(slot:Slot T name id)(hty:typeOf (.builtin id)=pure (.type "method_descriptor"))(hm:MtR X id r)(ho:PE X o to)
    (hbase:attributeBase o name X.env (eval o X.env)=eval o X.env:=by rfl) (hline:(apos.endLine == cpos.line)=true:=by rfl):PE X (.Call (.Attribute o name apos) [] [] cpos) (tBM0 X.K T r to):=by
  intro pins s σ H Q I h
  refine wpAny_Call_method0_late hbase hline (thn (ho pins s σ H _ I h) fun v s1 ⟨x,H1,I1,r1,ty,q1⟩=>?_)
  obtain ⟨h1,h2⟩:=tyV_is I1 r1 ty
  exact ⟨T,id,pa,slot,hty,h1,h2,Calls.callWith_builtin rfl (PySem.evalArgs_none (hm pins s1 σ H1 x [] v [] Q I1 r1 .nil q1))⟩
theorem pe_bm (pa:PlainAttrs T)(slot:Slot T name id)(hty:typeOf (.builtin id)=pure (.type "method_descriptor"))(hm:MtR X id r)(ho:PE X o to)(ha:PA X (e::es) t)
    (hbase:attributeBase o name X.env (eval o X.env)=eval o X.env:=by rfl)
    (hfew:((backTo cpos (starEach (e::es) X.env)).all (fun x=>!x.1) && (backToKw cpos (keywordEach [] X.env)).all (fun x=>x.1.isSome)
      && decide ((e::es).length+([]:List Keyword).length+(if ([]:List Keyword).isEmpty then 0 else 1)<30))=true:=by rfl)
    (hline:(apos.endLine == cpos.line)=true:=by rfl) (hs:starEach (e::es) X.env=(false,eval e X.env)::starEach es X.env:=by rfl) (hplain:(backTo cpos (starEach es X.env)).any (·.1)=false:=by rfl) :
    PE X (.Call (.Attribute o name apos) (e::es) [] cpos) (tBM X.K T r to t):=by
  intro pins s σ H Q I h
  refine wpAny_Call_method_late hbase hfew hline rfl (thn (ho pins s σ H _ I h) fun v s1 ⟨x,H1,I1,r1,ty,q1⟩=>?_)
  obtain ⟨h1,h2⟩:=tyV_is I1 r1 ty
  refine ⟨T,id,pa,slot,hty,h1,h2,?_⟩
  have hA:=ha cpos pins s1 σ H1 _ I1 q1
  rw [hs] at hA ⊢
  refine Calls.callWith_builtin (by show (false || (backTo cpos (starEach es X.env)).any (·.1))=false; rw [hplain] <;> rfl) (Calls.evalArgs_plain ?_)
  exact thn hA fun us s2 ⟨vs,H2,I2,r2,q2⟩=>hm pins s2 σ H2 x vs v us Q I2 r1 r2 q2
/- xs.append(e),list.index on a module's tuple .. are MtR facts of 06m -/
end
end L2
namespace L2
open PySem PySem.Spec PyProof.Rows
def MtM (X:Cx)(id:String)(r:V→List V→Hp→VK→Prop):Prop :=
  ∀ (pins:List (Addr×Obj)) (s:Shared) (σ:St) (H:Hp) (x:V) (xs:List V) (v:Value) (us:List Value) (Q:VK),Inv X pins σ H s→RelV x v→Vals xs us→r x xs H Q →
    wpAny (model X.prog X.w) X.A (call (.builtin id) (v::us)) (EP X pins σ Q) X.xe s
theorem Vals.one:∀ {x:V} {us:List Value},Vals [x] us→∃ u,us=[u]∧RelV x u
  | _,_,.cons r .nil=>⟨_,rfl,r⟩
theorem Vals.zero:∀ {us:List Value},Vals [] us→us=[]
  | _,.nil=>rfl
theorem Vals.dropLast {xs:List V}{us:List Value}(h:Vals xs us):Vals xs.dropLast us.dropLast:=by
  induction h with
  | nil=>exact .nil
  | cons r t ih =>
    cases t with
    | nil=>exact .nil
    | cons q t'=>exact .cons r ih
theorem erase_last {α:Type}(l:List α):l.eraseIdx (l.length - 1)=l.dropLast:=by
  induction l with
  | nil=>rfl
  | cons a r ih =>
    cases r with
    | nil=>rfl
    | cons b r =>
      have e:(a::b::r).length - 1=((b::r).length - 1)+1:=by
        have h1:(a::b::r).length=r.length+2:=rfl
        have h2:(b::r).length=r.length+1:=rfl
        omega
      rw [e,List.eraseIdx_cons_succ,ih]
      all_goals rfl
section
variable {X:Cx}{pins:List (Addr×Obj)}{σ:St}{H:Hp}{s:Shared}{l b:Addr}{xs ys zs:List V}
theorem Inv.lset {its its':List Value}{n:Nat}{f:Array Value→Array Value}{t':Nat}(I:Inv X pins σ H s)(hH:H l=some (.lst xs))
    (e:s.heap.get? l=some { cls:=.type "list",data:=.seq its.toArray n }) (hf:f its.toArray=its'.toArray) (hv:Vals ys its') (hz:ys.length≤sizeLine) :
    Inv X pins σ (upd H l (.lst ys)) { s with heap:=s.heap.update l (Obj.mapSeq f),toks:=t' }:=by
  have q:=PySem.IsL.update e f
  rw [hf] at q
  refine I.write (x:=l) (e:=l) (by rw [hH]; exact trivial) (.inl rfl) (fun b' u hb hu=>(Heap.get?_update_other s.heap (Obj.mapSeq f) (Ne.symm hb)).trans hu) ⟨_,q⟩ ?_
  exact ⟨hz,its',_,hv,q⟩
theorem Inv.lnew {its:List Value}{t':Nat}(I:Inv X pins σ H s)(hv:Vals ys its)(hz:ys.length≤sizeLine) :
    Inv X pins σ (upd H s.heap.objs.size (.lst ys)) { s with heap:=s.heap.push { cls:=.type "list",data:=.seq its.toArray },toks:=t' } :=
  I.laid (fun _ _ q=>Heap.get?_push_of_some _ q) (Nat.le_refl _) ⟨hz,its,0,hv,Heap.get?_push_size _ rfl⟩
theorem Inv.fresh (I:Inv X pins σ H s):H s.heap.objs.size=none:=I.hok.fresh (Nat.le_refl _)
theorem Inv.lstM (I:Inv X pins σ H s)(hH:H l=some (.lst xs)):xs.length≤sizeLine∧∃ (its:List Value) (n:Nat),Vals xs its∧xs.length=its.length∧s.heap.get? l=some { cls:=.type "list",data:=.seq its.toArray n }:=by
  obtain ⟨z,its,n,r,e⟩:=I.hok l _ hH
  exact ⟨z,its,n,r,r.length,e⟩
end
section
variable {X:Cx}
def rAppend:V→List V→Hp→VK→Prop:=fun x vs H Q=>∃ l xs y,x=.ref l∧vs=[y]∧H l=some (.lst xs)∧xs.length<sizeLine∧Q .non (upd H l (.lst (xs++[y])))
theorem mt_append:MtM X "list.append" rAppend:=by
  intro pins s σ H x vs v us Q I rx rv h
  obtain ⟨l,xs,y,rfl,rfl,hH,hz,q⟩:=h
  cases rx
  obtain ⟨u,rfl,ru⟩:=rv.one
  obtain ⟨z,its,n,r,hl,e⟩:=I.lstM hH
  refine call_meets F.slot_list_append ⟨_,e,rfl⟩ F.entry_list_append (F.args_list_append_2 _ _) (PySem.list_append l its.toArray n u (by rw [List.size_toArray]; omega)) ⟨e,?_⟩
  refine ⟨.non,_,I.lset (its':=its++[u]) hH e (by simp) (r.append (.cons ru .nil)) ?_,rfl,q⟩
  rw [List.length_append,List.length_singleton]
  omega
def rPop:V→List V→Hp→VK→Prop:=fun x vs H Q=>∃ l xs y,x=.ref l∧vs=[]∧H l=some (.lst xs)∧xs[xs.length - 1]?=some y∧Q y (upd H l (.lst xs.dropLast))
theorem mt_pop:MtM X "list.pop" rPop:=by
  intro pins s σ H x vs v us Q I rx rv h
  obtain ⟨l,xs,y,rfl,rfl,hH,hy,q⟩:=h
  cases rx
  have hus:=rv.zero
  subst hus
  obtain ⟨z,its,n,r,hl,e⟩:=I.lstM hH
  obtain ⟨u,hu,ru⟩:=r.get hy
  have hy':its.toArray[its.toArray.size - 1]?=some u:=by
    show its.toArray[its.length - 1]?=some u
    rw [← Array.getElem?_toList,← hl]
    exact hu
  refine call_meets F.slot_list_pop ⟨_,e,rfl⟩ F.entry_list_pop (F.args_list_pop_1 _) (MeetsSeq.list_pop_last l its.toArray n u hy' (by rw [List.size_toArray]; omega)) ⟨e,?_⟩
  refine ⟨y,_,I.lset (its':=its.dropLast) hH e ?_ r.dropLast ?_,ru,q⟩
  · show its.toArray.eraseIdxIfInBounds (its.toArray.size - 1)=its.dropLast.toArray
    rw [List.size_toArray,List.eraseIdxIfInBounds_toArray,erase_last]
  · rw [List.length_dropLast]
    omega
def rClear:V→List V→Hp→VK→Prop:=fun x vs H Q=>∃ l xs,x=.ref l∧vs=[]∧H l=some (.lst xs)∧Q .non (upd H l (.lst []))
theorem mt_clear:MtM X "list.clear" rClear:=by
  intro pins s σ H x vs v us Q I rx rv h
  obtain ⟨l,xs,rfl,rfl,hH,q⟩:=h
  cases rx
  have hus:=rv.zero
  subst hus
  obtain ⟨z,its,n,r,hl,e⟩:=I.lstM hH
  refine call_meets F.slot_list_clear ⟨_,e,rfl⟩ F.entry_list_clear (F.args_list_clear_1 _) (AutoSeq1.list_clear_list_0 l its.toArray n (by rw [List.size_toArray]; omega)) ⟨e,?_⟩
  exact ⟨.non,_,I.lset (its':=[]) (ys:=[]) hH e rfl .nil (Nat.zero_le _),rfl,q⟩
end
section
variable {prog:Program}{w:World}{A:Around}{E:Value→Shared→Prop}{s:Shared}
set_option maxRecDepth 100000 in
end
section
variable {X:Cx}
end
end L2
namespace Att
open PySem PySem.W PySem.Calls PyProof.Rows
theorem ints_of_wellAll {P:Params}{h:Heap}:∀ (ns:List Int) (vs:List Value),WellAll P h vs (ns.map WData.int)→IntsAre vs ns:=by
  intro ns
  induction ns with
  | nil =>
    intro vs w
    rw [List.map_nil] at w
    cases w
    exact .nil
  | cons n ns ih =>
    intro vs w
    rw [List.map_cons] at w
    cases w with
    | cons a b =>
      cases a
      exact .cons _ _ (ih _ b)
theorem script_of {l:OpenLaw}{n:Nat}(hn:l.most=some n){P:Params}{h:Heap}{args:List WData}{vals:List Value}
    (hpre:l.row.toRowW.claim.pre args=true) (hwl:WellAll P h vals args) :
    ∃ a vs ns,vals=[Value.ref a]∧args=[WData.list (ns.map WData.int)]∧h.get? a=some { cls:=.type "list",data:=.seq vs.toArray }∧IntsAre vs ns∧ns.length≤n:=by
  have hsh:WShape.hasAll [] args [.list .int]=true:=(pre_splitW hpre).1
  have hc:l.pre.holds [] { args:=args }=true:=(pre_splitW hpre).2
  obtain ⟨d,r,rfl,h1,h2⟩:=hasAllW_cons hsh
  obtain rfl:=hasAllW_nil h2
  obtain ⟨xs,rfl,h3⟩:=hasW_list h1
  obtain ⟨ns,rfl⟩:=items_int h3
  have hlen:ns.length≤n:=by
    unfold OpenLaw.pre at hc
    have h4:(WTm.not (.lt (.lit (.int (n:Int))) (.len (.arg 0)))).holds [] { args:=[.list (ns.map .int)] }=true:=by
      have h4:=(holds_andW hc).1
      rw [hn] at h4
      exact h4
    have h5:=condW_of h4 (w_not (w_lt w_lit (w_len_list (w_arg rfl))))
    rw [List.length_map] at h5
    refine Nat.le_of_not_lt fun q=>?_
    have q':(n:Int)<((ns.length:Nat):Int):=by omega
    first
      | (rw [decide_eq_true q'] at h5; exact absurd h5 (by decide))
      | (simp at h5; omega)
  cases hwl with
  | cons w1 w2 =>
    cases w2
    cases w1 with
    | list ho hall=>exact ⟨_,_,ns,rfl,rfl,ho,ints_of_wellAll ns _ hall,hlen⟩
theorem post_true (l:OpenLaw)(args:List WData):l.row.toRowW.claim.post args (.bool true) args=true :=
  postW_of (r:=l.row.toRowW) (X:=(true == true))
    (show WShape.has [] (.bool true) .bool=true by first | rfl | decide | simp [WShape.has,WShape.arms,WShape.armsAll])
    (show (WTm.eq .res (.lit (.bool true))).value [] { args:=args,res:=some (.bool true),after:=args }=some (.bool (true == true)) from w_eq_bool (w_res rfl) w_lit) rfl
theorem attach_call {l:OpenLaw}{n:Nat}{q:Program}{loose:List Str}{XP:(Str→Option Value)→Heap→Prop}{YP:World→Heap→Prop}{d:DefRec}
    (hn:l.most=some n) (hdf:d.params.defaults=[])
    (call:∀ (w:World) (s₀ s₁:Shared) (mg mb:Str→Option Value) (fa:Addr) (o:Obj) (pm cd doc:Value) (a:Addr) (vs:List Value) (ns:List Int),
      Ground q loose [] XP w s₀ mg mb s₁.heap→YP w s₁.heap →
      s₁.heap.get? fa=some o→o.data=.func (docDef d.name d.params d.body d.scope pm cd doc)→s₁.heap.CodeRec cd d.name→mg d.name=some (.ref fa) →
      s₁.heap.get? a=some { cls:=.type "list",data:=.seq vs.toArray }→IntsAre vs ns→ns.length≤n→s₁.gens=#[] →
      codeAny (model l.prog w) callerA (.call (.ref fa) ⟨[.ref a],[]⟩) (fun r s'=>r=.ok (.ret (.bool true))∧OldK s₁.heap s'.heap∧s'.os=s₁.os∧AllBare s'.gens) s₁) :
    WalkO q loose XP YP l.row.toRowW d [] (fun f vs=>PySem.call f vs):=by
  intro w s₀ s₁ mg mb G Y fa o pm cd doc dV kV ho hd hcd hD hmg hg args vals as hpre hlay hrd hwl hlo
  obtain rfl:dV=.none:=Dflts.none hD hdf
  obtain rfl:kV=.none:=Dflts.noKw hD
  obtain ⟨a,vs,ns,rfl,rfl,hobj,hints,hlen⟩:=script_of hn hpre hwl
  refine enter_call (codeAny_mono (call w s₀ s₁ mg mb fa o pm cd doc a vs ns G Y ho (fd_plain hd) hcd hmg hobj hints hlen hg) fun r s' hq=>?_)
  obtain ⟨rfl,h2,h3,h4⟩:=hq
  exact ⟨.inl ⟨.bool true,.bool true,[],rfl,fun _=>rfl,.bool true,post_true l _,fun _=>⟨List.Pairwise.nil,fun _ hm=>(nomatch hm)⟩⟩,h2,h3,h4⟩
section
variable {prog:Program}{w:World}{A:Around}{E:Value→Shared→Prop}{s:Shared}{K:Frag}
end
end Att
namespace L2
open PySem PySem.Spec PyProof.Rows
theorem vals_ints:∀ {vs:List Value} {ns:List Int},IntsAre vs ns→Vals (ns.map V.int) vs
  | _,_,.nil=>.nil
  | _,_,.cons n t h=>.cons ⟨t,rfl⟩ (vals_ints h)
def Only (H:Hp):Prop:=∀ b,H b=none∨∃ o xs,H b=some (.frz o (.lst xs))
theorem law_call {P:Program}{w:World}{K:PySem.W.Frag}{mg mb:Str→Option Value}{CX:CXT}{k:Nat}{fa a:Addr}{fd:FuncData}{x:Str}{sp:Sp}{s₁:Shared}{vs:List Value}{ns:List Int}
    (KX:K.In s₁.heap) (hns:s₁.heap.Ns mainGlobals mg) (hb:s₁.heap.Ns builtinsNs mb) (hbb:∀ x:Str,x≠"__name__"→mb x=bootBuiltins x) (hlim:s₁.heap.NoLimit) (hg:s₁.gens=#[])
    (ha:s₁.heap.get? a=some { cls:=.type "list",data:=.seq vs.toArray }) (hi:IntsAre vs ns) (hl:ns.length≤sizeLine) (hr:Room k callerA)
    (F:∀ base:Heap,K.In base→base.Ns mainGlobals mg→FnOk P w K mg base CX k fa fd [x] sp) (hbind:∀ (s:Shared) (u:Value),BindsTo s fd ⟨[u],[]⟩ [(x,u)])
    (hsp:∀ H:Hp,Only H→SqL K H a (ns.map V.int)→sp [.ref a] H (fun v _=>v=.bl true) fun _ _ _=>False)
    (hCX:∀ H e s',CX [] H s₁ (fun _ _ _=>False) e s'→False) :
    codeAny (model P w) callerA (.call (.ref fa) ⟨[.ref a],[]⟩) (fun r s'=>r=.ok (.ret (.bool true))∧OldK s₁.heap s'.heap∧s'.os=s₁.os∧AllBare s'.gens) s₁:=by
  have rv:=vals_ints hi
  have lenV:=hi.length
  -- from an abstract heap in which nothing but the script may be tracked
  have core:∀ H:Hp,Only H→SqL K H a (ns.map V.int)→HOk P w H s₁.heap→(∀ b,H b≠none→b=a)→(H a≠none→K.lookup a=none) →
      codeAny (model P w) callerA (.call (.ref fa) ⟨[.ref a],[]⟩) (fun r s'=>r=.ok (.ret (.bool true))∧OldK s₁.heap s'.heap∧s'.os=s₁.os∧AllBare s'.gens) s₁:=by
    intro H hO hS hok hA hK
    have base_of:∀ {b:Addr} {o:Obj},s₁.heap.get? b=some o→H b=none→(hidT s₁.heap H).get? b=some o:=fun e n=>hidT_get e n
    have noA:∀ {b:Addr} {o:Obj} {es:Array DictEntry} {ep:Nat},s₁.heap.get? b=some o→o.data=.dict es ep→H b=none:=fun {b o es ep} e d=>by
      cases q:H b with
      | none=>rfl
      | some u =>
        have e':b=a:=hA b (by rw [q]; simp)
        subst e'
        rw [ha] at e; cases e
        have d':Data.seq vs.toArray _=Data.dict es ep:=d
        cases d'
    have nsK:∀ {b:Addr} {m:Str→Option Value},s₁.heap.Ns b m→(hidT s₁.heap H).Ns b m:=fun {b m} ⟨o,es,ep,e,d,r⟩=>⟨o,es,ep,base_of e (noA e d),d,r⟩
    have hKb:K.In (hidT s₁.heap H):=fun b o e=>base_of (KX b o e) (by
      cases q:H b with
      | none=>rfl
      | some u =>
        have e':b=a:=hA b (by rw [q]; simp)
        subst e'
        rw [hK (by rw [q]; simp)] at e; cases e)
    have hM:Mod K mg (hidT s₁.heap H):=⟨hKb,nsK hns,⟨mb,nsK hb,hbb⟩,let ⟨mc,h1,h2⟩:=hlim; ⟨mc,nsK h1,h2⟩⟩
    have e0:Env0 P w K mg (hidT s₁.heap H) callerA [] s₁ H:=⟨rfl,hM,fun b o e=>of_hidT e,Nat.le_of_eq (hidT_size _ _),trivial,fun b hb=>absurd (show b∈([]:List Addr) from hb) (by simp),hok,.of_eq hg⟩
    refine codeAny_mono ((F _ hKb (nsK hns)).run callerA [] s₁ H ⟨[.ref a],[]⟩ [.ref a] [.ref a] _ _ hr e0 (hbind s₁ (.ref a)) (.cons rfl .nil) (hsp H hO hS)) fun r s' h=>?_
    cases r with
    | error e=>exact (hCX H e s' h).elim
    | ok fl =>
      cases fl with
      | next=>exact False.elim h
      | brk=>exact False.elim h
      | cont=>exact False.elim h
      | ret u =>
        obtain ⟨v,H',os,bare,un,hok',r',q⟩:=h
        have q':v=.bl true:=q
        subst q'
        obtain rfl:u=Value.bool true:=r'
        refine ⟨rfl,OldK.of_keep fun b o e=>?_,os,bare⟩
        cases q:H b with
        | none=>exact un.keep b o e q (by intro z; exact absurd (show b∈([]:List Addr) from z) (by simp)) (by simp)
        | some u =>
          rcases hO b with z | ⟨ob,xs,z⟩
          · rw [q] at z; cases z
          · have z2:=un.frzs b ob _ z
            obtain ⟨e1,_⟩:=hok b _ z
            obtain ⟨e2,_⟩:=hok' b _ z2
            rw [e] at e1; cases e1
            exact e2
  cases hk:K.lookup a with
  | some o =>
    -- the script is one of the module's own objects
    have e:=KX a o hk
    rw [ha] at e
    cases e
    refine core (fun _=>none) (fun _=>.inl rfl) (.inr ⟨_,vs.toArray,_,hk,rfl,rfl,rfl,by rw [List.size_toArray,lenV]; exact hl,by simpa using rv⟩) (fun b u z=>by have z':(none:Option HO)=some u:=z; cases z') (fun b z=>absurd rfl z) fun z=>absurd rfl z
  | none =>
    refine core (fun b=>if b=a then some (.frz { cls:=.type "list",data:=.seq vs.toArray } (.lst (ns.map V.int))) else none) (fun b=>?_) (.inl (.inr ⟨{ cls:=.type "list",data:=.seq vs.toArray },if_pos rfl⟩)) (fun b u z=>?_) (fun b z=>?_) fun _=>hk
    · by_cases hb:b=a
      · exact .inr ⟨_,_,if_pos hb⟩
      · exact .inl (if_neg hb)
    · by_cases hb:b=a
      · have z':=(if_pos hb).symm.trans z
        cases z'
        subst hb
        exact ⟨ha,by rw [List.length_map]; exact hl,vs,_,rv,ha⟩
      · have z':=(if_neg hb).symm.trans z
        cases z'
    · by_cases hb:b=a
      · exact hb
      · exact absurd (if_neg hb) z
end L2
namespace L2
open PySem PySem.Spec PyProof.Rows
theorem walk_of {l:PySem.W.OpenLaw}{n k:Nat}{q:Program}{loose:List Str}{XP:(Str→Option Value)→Heap→Prop}{YP:World→Heap→Prop}{d:DefRec}{K:Params→PySem.W.Frag}{CX:World→CXT}{sp:World→Sp}{x:Str}
    (hn:l.most=some n) (hn2:n≤sizeLine) (hdf:d.params.defaults=[]) (hr:Room k callerA)
    (hY:∀ (w:World) (h:Heap),YP w h→(K w.params).In h)
    (F:∀ (w:World) (mg:Str→Option Value) (fa:Addr) (h:Heap),(K w.params).In h→h.Ns mainGlobals mg→mg d.name=some (.ref fa) →
      ∃ fd:FuncData,(∀ (s:Shared) (u:Value),BindsTo s fd ⟨[u],[]⟩ [(x,u)]) ∧
        ∀ base:Heap,(K w.params).In base→base.Ns mainGlobals mg→FnOk l.prog w (K w.params) mg base (CX w) k fa fd [x] (sp w))
    (hsp:∀ (w:World) (H:Hp) (a:Addr) (ns:List Int),ns.length≤n→Only H→SqL (K w.params) H a (ns.map V.int)→sp w [.ref a] H (fun v _=>v=.bl true) fun _ _ _=>False)
    (hCX:∀ (w:World) (H:Hp) (s:Shared) (e:Value) (s':Shared),CX w [] H s (fun _ _ _=>False) e s'→False) :
    PySem.W.WalkO q loose XP YP l.row.toRowW d [] (fun f vs=>PySem.call f vs):=by
  refine Att.attach_call hn hdf fun w s₀ s₁ mg mb fa o pm cd doc a vs ns G Y ho hd hcd hmg hobj hints hlen hg=>?_
  have KX:=hY w _ Y
  obtain ⟨fd,hb,hF⟩:=F w mg fa _ KX G.T.g hmg
  exact law_call KX G.T.g G.T.b G.T.builtins G.T.nolimit hg hobj hints (Nat.le_trans hlen hn2) hr hF hb (fun H hO hS=>hsp w H a ns hlen hO hS) fun H e s'=>hCX w H s₁ e s'
end L2
/- THE LAST THEOREM (shape; LID,My.* are yours):
   My.Adr: a structure of the addresses that your layer names (classes,functions); My.Txt K t: a structure (Prop) of the equations over K;
   My.txt_mk:{K} {implicit addresses ..} (e1:nsIn K mainGlobals "law"=some (some (.ref f))) (e2:K.lookup f=some ⟨oc,od,.func (fnOf "law" "law" params body scope dV kV doc pm an cdv ct),sl⟩) (e3:codeIn K cdv "law"=true) ..:∃ t,My.Txt K t
set_option maxRecDepth 100000 in
set_option maxHeartbeats 0 in
theorem PySem.Challenge.cw_LID_holds : PySem.Challenge.rw_LID.Holds := by
  w_on; o_law; k_head; (case hw=>w_witness2)
  k_fill
  refine L2.walk_of (l:=PySem.Challenge.rw_LID) (n:=63) (k:=40) (x:="script") (CX:=fun w=>..) (sp:=fun _=>My.sp_law) rfl (by decide) rfl ⟨rfl,by decide,by decide⟩ (fun w h Y=>PySem.W.kIn_of Y) ?F ?S ?C
  case F =>
    intro w mg fa h KX G hmg
    have T:∃ t,My.Txt (L2.KOf KX) t:=by
      dsimp only [L2.KOf]                          -- K must stand as «<heap const> w.params» for k_is
      refine' My.txt_mk ?e1 ?e2 ?e3 ..
      (case e1=>PySem.W.k_is)                    -- in the order: a name -> its address -> its object -> its parts
      (case e2=>PySem.W.k_is)
      ..
    obtain ⟨t,T⟩:=T
    have e0:=hmg.symm.trans (PySem.W.mg_of KX G T.law)
    cases e0                                       -- fa is the law's own address
    exact ⟨_,fun s u=>.of_eq rfl,fun base kb nb=>My.law_fn T kb nb⟩     -- if «.of_eq rfl» comes too early: refine' ⟨_,?b,fun base kb nb=>My.law_fn T kb nb⟩; exact fun s u=>.of_eq rfl
  case S=>exact fun w H a ns hl hO hS=>..
  case C=>exact ..
(the tactic k_is has no namespace: write k_is) -/
namespace L2
open PySem PySem.Spec PyProof.Rows
def qc1 (s:Stmt)(j:Nat):Stmt:=match s with
  | .ClassDef _ _ _ body _ _ _ _ _ _ _=>body.getD j (.Pass ⟨0,0,0,0⟩)
  | _=>.Pass ⟨0,0,0,0⟩
def defArgs (s:Stmt):Arguments:=match s with
  | .FunctionDef _ a _ _ _ _ _ _ _ _=>a
  | _=>{ posonlyargs:=[],args:=[],vararg:=none,kwonlyargs:=[],kw_defaults:=[],kwarg:=none,defaults:=[] }
def qh2 (s:Stmt):List Stmt:=match s with
  | .FunctionDef _ _ b _ _ _ _ _ _ _=>b
  | _=>[]
def qg (s:Stmt):Scope:=match s with
  | .FunctionDef _ _ _ _ _ _ sc _ _ _=>sc
  | _=>{ kind:=.function,names:=[],isGenerator:=false,isCoroutine:=false }
abbrev CX0:CXT:=fun _ _ _ _ _ _=>False
abbrev E0:XK:=fun _ _ _=>False
theorem pass0 {X:Cx}:Passes CX0 X E0:=fun _ _ _ _ _ _ _ h=>h.elim
structure Fun (K:PySem.W.Frag)(x qual:Str)(st:Stmt)(f:Addr)(fd:FuncData):Prop where
  ex:∃ (oc:Value) (od:Option Addr) (kV doc pm:Value) (an:Option Addr) (cdv ct:Value) (osl:Array (Option Value)),
    fd=PySem.W.fnOf x qual (defArgs st) (qh2 st) (qg st) .none kV doc pm an cdv ct∧K.lookup f=some ⟨oc,od,.func fd,osl⟩∧PySem.W.codeIn K cdv qual=true
  kp:PySem.W.keepIn K (.ref f)=true
section
variable {P:Program}{w:World}{K:PySem.W.Frag}{mg:Str→Option Value}{base:Heap}
theorem Fun.ok {x qual:Str}{st:Stmt}{f:Addr}{fd:FuncData}{N ps:List Str}{k:Nat}{sp:Sp}(F:Fun K x qual st f fd)(S:qj N ps (qg st))(len:∀ vs H Q E,sp vs H Q E→vs.length=ps.length)
    (hbody:∀ (cdv:Value) (A:Around) (outer:List Env) (s:Shared) (H:Hp) (vs:List V) (Q:VK) (E:XK),Room k (A.deeper (envOfC qual (qg st) s.heap.objs.size f cdv))→sp vs H Q E →
      ∃ t,PSs (cxOf CX0 P w K mg base N qual (qg st) f cdv A outer s H E).nox (qh2 st) t∧t { nx:=fun _ H'=>Q .non H',rt:=Q } (qd1 N vs) H):FnOk P w K mg base CX0 (k+1) f fd ps sp:=by
  obtain ⟨oc,od,kV,doc,pm,an,cdv,ct,osl,rfl,lk,hcd⟩:=F.ex
  refine fn_of lk hcd S len fun A outer s H vs Q E hr hsp=>?_
  obtain ⟨t,h,q⟩:=hbody cdv A outer s H vs Q E hr hsp
  exact ⟨t,h.nox,q⟩
theorem Fun.binds {x qual:Str}{st:Stmt}{f:Addr}{fd:FuncData}{ps:List Str}(F:Fun K x qual st f fd)
    (h:∀ (kV doc pm:Value) (an:Option Addr) (cdv ct:Value) (us:List Value),us.length=ps.length→bindArgs (PySem.W.fnOf x qual (defArgs st) (qh2 st) (qg st) .none kV doc pm an cdv ct) ⟨us,[]⟩=pure (ps.zip us)):Binds K fd ps []:=by
  obtain ⟨oc,od,kV,doc,pm,an,cdv,ct,osl,rfl,lk,hcd⟩:=F.ex
  exact .all (h kV doc pm an cdv ct)
theorem fun_mk {x qual:Str}{st:Stmt}{f:Addr}{oc:Value}{od an:Option Addr}{osl:Array (Option Value)}{kV doc pm cdv ct:Value}(l:K.lookup f=some ⟨oc,od,.func (PySem.W.fnOf x qual (defArgs st) (qh2 st) (qg st) .none kV doc pm an cdv ct),osl⟩)
    (c:PySem.W.codeIn K cdv qual=true) (k:PySem.W.keepIn K (.ref f)=true):Fun K x qual st f (PySem.W.fnOf x qual (defArgs st) (qh2 st) (qg st) .none kV doc pm an cdv ct):=⟨⟨oc,od,kV,doc,pm,an,cdv,ct,osl,rfl,l,c⟩,k⟩
end
theorem hu_of {A:Around}{k:Nat}(hr:Room k A):A.units+1<cLine:=Nat.lt_of_le_of_lt (Nat.add_le_add_left (by decide:1≤64) _) hr.units
theorem qs1 {n:Nat}(h:n≤1000):n<sizeLine:=Nat.lt_of_le_of_lt h (by decide)
section
variable {X:Cx}
theorem pv (i:Nat){x:Str}{pos:Pos}(hN:X.N[i]?=some x:=by rfl)(hv:Vis X.env.scope x:=by first | exact Or.inl rfl | exact Or.inr (Or.inl rfl) | exact Or.inr (Or.inr rfl))(hd:(x == ("__debug__":Str))=false:=by decide)
    (hcd:(x == ("__classdict__":Str))=false:=by decide):PE X (.Name x pos) (tVar i):=pe_var hN hv hd hcd
end
def Same (H H':Hp):Prop:=∀ b o,H b=some o→H' b=some o
theorem Same.refl (H:Hp):Same H H:=fun _ _ h=>h
theorem Same.trans {H H1 H2:Hp}(a:Same H H1)(b:Same H1 H2):Same H H2:=fun c o h=>b c o (a c o h)
theorem Same.free {H H':Hp}(e:Same H H'){l:Addr}(h:H' l=Option.none):H l=Option.none:=by
  cases q:H l with
  | none=>rfl
  | some o =>
    rw [e l o q] at h
    cases h
theorem Same.seq {K:PySem.W.Frag}{H H':Hp}{a:Addr}{xs:List V}(e:Same H H')(h:SqL K H a xs):SqL K H' a xs:=by
  rcases h with (h | ⟨o,h⟩) | h
  · exact .inl (.inl (e _ _ h))
  · exact .inl (.inr ⟨o,e _ _ h⟩)
  · exact .inr h
end L2
section
end
set_option maxHeartbeats 4000000
namespace Sv
open PySem PySem.Spec PyProof.Rows L2
section
variable {X:Cx}
def CDivW (_ j:Int):Prop:=0<j∧j<18446744073709551616
theorem qy1:OpR X (binaryOp .FloorDiv) (rI CDivW fun i j=>.int (i / j)):=opI fun i j _ _ _ _ _ hc q=>by
 have p1:(0:Int)<j:=hc.1
 have p2:j<18446744073709551616:=hc.2
 have lg:j.natAbs.log2<9000:=by
  have a:j.natAbs≠0:=by omega
  have b:j.natAbs<2 ^ 64:=by omega
  have c:=(Nat.log2_lt a).mpr b
  omega
 refine floordiv_int (by omega) ?_ (.inl (PyProof.noPylong_of_log2 lg))
 rw [Int.fdiv_eq_ediv_of_nonneg i (by omega)]
 exact q
def Its (lo c:Int)(n:Nat):It:=⟨fun i _=>i<n,fun i H x H'=>H'=H∧x=.int (lo+(i:Int) * c),fun i _=>n≤i⟩
def evens (hi:Int):Nat:=((hi+1) / 2).toNat
mutual
inductive Dt (H:Hp):V→PyData→Prop where
 | non:Dt H .non .none
 | bl (b:Bool):Dt H (.bl b) (.bool b)
 | int (i:Int):Dt H (.int i) (.int i)
 | str (x:Str):Dt H (.str x) (.str x)
 | tup {a:Addr} {xs:List V} {ds:List PyData} (e:Rd H a (.tup xs)) (r:Dts H xs ds):Dt H (.ref a) (.tuple ds)
 | lst {a:Addr} {xs:List V} {ds:List PyData} (e:Rd H a (.lst xs)) (r:Dts H xs ds):Dt H (.ref a) (.list ds)
inductive Dts (H:Hp):List V→List PyData→Prop where
 | nil:Dts H [] []
 | cons {x:V} {d:PyData} {xs:List V} {ds:List PyData} (h:Dt H x d) (t:Dts H xs ds):Dts H (x::xs) (d::ds)
end
mutual
theorem Dt.reads {pins:List (Addr×Obj)}{σ:L2.St}{H:Hp}{s:Shared}(I:Inv X pins σ H s):∀ {x:V} {d:PyData} {u:Value},Dt H x d→RelV x u→∃ as,Reads s.heap u d as
 | _,_,_,.non,r=>by cases r; exact ⟨_,.none⟩
 | _,_,_,.bl b,r=>by cases r; exact ⟨_,.bool b⟩
 | _,_,_,.int i,r=>by obtain ⟨t,rfl⟩:=r; exact ⟨_,.int i t⟩
 | _,_,_,.str x,r=>by obtain ⟨t,rfl⟩:=r; exact ⟨_,.str x t⟩
 | _,_,_,.tup e q,r=>by
  cases r
  obtain ⟨_,its,rv,o,h1,h2,n,h3⟩:=e.ok I.hok
  obtain ⟨as,ra⟩:=Dts.reads I q rv
  exact ⟨_,.tuple h1 h2 h3 (by simpa using ra)⟩
 | _,_,_,.lst e q,r=>by
  cases r
  obtain ⟨_,its,n,rv,h1⟩:=e.ok I.hok
  obtain ⟨as,ra⟩:=Dts.reads I q rv
  exact ⟨_,.list h1 rfl rfl (by simpa using ra)⟩
theorem Dts.reads {pins:List (Addr×Obj)}{σ:L2.St}{H:Hp}{s:Shared}(I:Inv X pins σ H s):∀ {xs:List V} {ds:List PyData} {us:List Value},Dts H xs ds→Vals xs us→∃ as,ReadsAll s.heap us ds as
 | _,_,_,.nil,r=>by cases r; exact ⟨_,.nil⟩
 | _,_,_,.cons h t,r=>by
  cases r with
  | cons r1 r2 =>
   obtain ⟨a1,q1⟩:=Dt.reads I h r1
   obtain ⟨a2,q2⟩:=Dts.reads I t r2
   exact ⟨_,.cons q1 q2⟩
end
def rEqD (neg:Bool):R2:=fun x y H Q=>∃ d e,Dt H x d∧Dt H y e∧SeqAt.shaped d=true∧SeqAt.shaped e=true∧Q (.bl (if neg then !PyData.eqv d e else PyData.eqv d e)) H
theorem op_eqD (hu:X.A.units+64<cLine):OpR X (compareOp .Eq) (rEqD false):=by
 intro pins s σ H x y v u Q I rx ry h
 obtain ⟨d,e,hd,he,sd,se,q⟩:=h
 obtain ⟨as,ra⟩:=hd.reads I rx
 obtain ⟨bs,rb⟩:=he.reads I ry
 exact SeqAt.eqOverData X.prog X.w X.A _ s v u d e as bs _ ra rb (SeqAt.canLay_of_shaped sd) (SeqAt.canLay_of_shaped se) (SeqAt.room_of_shaped sd hu) ⟨.bl _,H,I,rfl,q⟩
theorem op_neD (hu:X.A.units+64<cLine):OpR X (compareOp .NotEq) (rEqD true):=by
 intro pins s σ H x y v u Q I rx ry h
 obtain ⟨d,e,hd,he,sd,se,q⟩:=h
 obtain ⟨as,ra⟩:=hd.reads I rx
 obtain ⟨bs,rb⟩:=he.reads I ry
 exact SeqAt.neOverData X.prog X.w X.A _ s v u d e as bs _ ra rb (SeqAt.canLay_of_shaped sd) (SeqAt.canLay_of_shaped se) (SeqAt.room_of_shaped sd hu) ⟨.bl _,H,I,rfl,q⟩
end
end Sv
namespace Sv
open PySem PySem.Spec PyProof.Rows L2
def BrS (b:Bool)(f g:L2.St→Hp→Prop)(σ:L2.St)(H:Hp):Prop:=if b=true then f σ H else g σ H
def BrA (b:Bool)(u:TT)(σ:L2.St)(H:Hp)(Q:Bool→Hp→Prop):Prop:=if b=true then u σ H Q else Q false H
def BrO (b:Bool)(u:TT)(σ:L2.St)(H:Hp)(Q:Bool→Hp→Prop):Prop:=if b=true then Q true H else u σ H Q
def BrAV (b:Bool)(u:TE)(σ:L2.St)(H:Hp)(Q:VK):Prop:=if b=true then u σ H Q else Q (.bl false) H
def BrOV (b:Bool)(u:TE)(σ:L2.St)(H:Hp)(Q:VK):Prop:=if b=true then Q (.bl true) H else u σ H Q
section
variable {f g:L2.St→Hp→Prop}{σ:L2.St}{H:Hp}{u:TT}{ue:TE}{Q:Bool→Hp→Prop}{Qv:VK}{b:Bool}
theorem brS_t:BrS true f g σ H=f σ H:=rfl
theorem brS_f:BrS false f g σ H=g σ H:=rfl
theorem brA_t:BrA true u σ H Q=u σ H Q:=rfl
theorem brA_f:BrA false u σ H Q=Q false H:=rfl
theorem brO_t:BrO true u σ H Q=Q true H:=rfl
theorem brO_f:BrO false u σ H Q=u σ H Q:=rfl
theorem brAV_t:BrAV true ue σ H Qv=ue σ H Qv:=rfl
theorem brAV_f:BrAV false ue σ H Qv=Qv (.bl false) H:=rfl
theorem brOV_t:BrOV true ue σ H Qv=Qv (.bl true) H:=rfl
theorem brOV_f:BrOV false ue σ H Qv=ue σ H Qv:=rfl
theorem BrS.go (h1:b=true→f σ H)(h2:b=false→g σ H):BrS b f g σ H:=by
 cases b with
 | true=>exact h1 rfl
 | false=>exact h2 rfl
theorem BrS.dec {c:Prop} [Decidable c](h1:c→f σ H)(h2:¬ c→g σ H):BrS (decide c) f g σ H :=
 BrS.go (fun e=>h1 (of_decide_eq_true e)) fun e=>h2 (of_decide_eq_false e)
theorem BrS.ndec {c:Prop} [Decidable c](h1:¬ c→f σ H)(h2:c→g σ H):BrS (!decide c) f g σ H:=by
 by_cases z:c
 ·rw [decide_eq_true z]; exact h2 z
 ·rw [decide_eq_false z]; exact h1 z
theorem BrO.dec {c:Prop} [Decidable c](h1:c→Q true H)(h2:¬ c→u σ H Q):BrO (decide c) u σ H Q:=by
 by_cases z:c
 ·rw [decide_eq_true z]; exact h1 z
 ·rw [decide_eq_false z]; exact h2 z
end
def ForR (J:It)(g:TG)(tb:TS)(D:Ends)(σ:L2.St)(H:Hp):Prop:=∃ W:Nat→Nat→L2.St→Hp→Prop,(∃ m,W 0 m σ H)∧∀ i m σ H,W i m σ H →
 (J.stop i H∧D.nx σ H)∨(J.go i H∧∃ N:L2.St→Hp→Prop,(∀ σ' H',N σ' H'→∃ m',m'<m∧W (i+1) m' σ' H')∧∀ x H',J.yld i H x H'→g x σ H' fun σ2 H2=>tb { D with nx:=N,ct:=N,bk:=D.nx } σ2 H2)
theorem ForR.range {lo:Int}{n:Nat}{g:TG}{tb:TS}{D:Ends}{σ:L2.St}{H:Hp}(Pv:Nat→L2.St→Hp→Prop)(h0:Pv 0 σ H)
  (hs:∀ i σ H,i<n→Pv i σ H→g (.int (lo+i)) σ H fun σ2 H2=>tb { D with nx:=Pv (i+1),ct:=Pv (i+1),bk:=D.nx } σ2 H2) (hd:∀ σ H,Pv n σ H→D.nx σ H):ForR (Itr lo n) g tb D σ H :=
 for_range Pv h0 hs hd
theorem ForR.list {K:PySem.W.Frag}{a:Addr}{xs:List V}{g:TG}{tb:TS}{D:Ends}{σ:L2.St}{H:Hp}(Pv:Nat→L2.St→Hp→Prop)(h0:Pv 0 σ H)(hl:∀ i σ H,i≤xs.length→Pv i σ H→SqL K H a xs)
  (hs:∀ i x σ H,xs[i]?=some x→Pv i σ H→g x σ H fun σ2 H2=>tb { D with nx:=Pv (i+1),ct:=Pv (i+1),bk:=D.nx } σ2 H2) (hd:∀ σ H,Pv xs.length σ H→D.nx σ H):ForR (Itl K a) g tb D σ H :=
 for_list Pv h0 hl hs hd
def WhR (Pv:L2.St→Hp→Prop)(μ:L2.St→Hp→Nat)(m:Nat)(tb:TS)(D:Ends)(b:Bool)(σ:L2.St)(H:Hp):Prop :=
 if b=true then ∃ N:L2.St→Hp→Prop,(∀ σ' H',N σ' H'→∃ m',m'<m∧(m'=μ σ' H'∧Pv σ' H'))∧tb { D with nx:=N,ct:=N,bk:=D.nx } σ H else D.nx σ H
theorem WhR.on {Pv:L2.St→Hp→Prop}{μ:L2.St→Hp→Nat}{m:Nat}{tb:TS}{D:Ends}{b:Bool}{σ:L2.St}{H:Hp}(h1:b=true→tb { D with nx:=fun σ' H'=>Pv σ' H'∧μ σ' H'<m,ct:=fun σ' H'=>Pv σ' H'∧μ σ' H'<m,bk:=D.nx } σ H)
  (h2:b=false→D.nx σ H):WhR Pv μ m tb D b σ H:=by
 cases b with
 | true=>exact ⟨_,fun σ' H' p=>⟨_,p.2,rfl,p.1⟩,h1 rfl⟩
 | false=>exact h2 rfl
theorem while_go {c:TT}{tb:TS}{D:Ends}{σ:L2.St}{H:Hp}(Pv:L2.St→Hp→Prop)(μ:L2.St→Hp→Nat)(h0:Pv σ H)
  (hs:∀ σ H,Pv σ H→c σ H fun b H1=>WhR Pv μ (μ σ H) tb D b σ H1):tWhile c tb D σ H:=by
 refine ⟨fun m σ H=>m=μ σ H∧Pv σ H,⟨_,rfl,h0⟩,fun m σ H hw=>?_⟩
 obtain ⟨rfl,p⟩:=hw
 exact hs σ H p
section
variable {t u:TS}{D:Ends}{σ:L2.St}{H:Hp}{te ta tb tc:TE}{Q:VK}{tr:TA}{c tt tu:TT}{Qb:Bool→Hp→Prop}{Ql:List V→Hp→Prop}{G:TG}{v x:V}{r r':R2}{wi:TI}
theorem seq_:tSeq t u D σ H=t { D with nx:=u D } σ H:=rfl
theorem next_:tNext D σ H=D.nx σ H:=rfl
theorem ret_:tRet te D σ H=te σ H D.rt:=rfl
theorem drop_:tDrop te D σ H=te σ H fun _ H1=>D.nx σ H1:=rfl
theorem ifS_:tIfS c t u D σ H=c σ H fun b H1=>BrS b (t D) (u D) σ H1:=rfl
theorem asg_:tAsg te G D σ H=te σ H fun x H1=>G x σ H1 D.nx:=rfl
theorem gname_ {i:Nat}{R:L2.St→Hp→Prop}:gName i v σ H R=R (σ.set i (some v)) H:=rfl
theorem var_ {i:Nat}:tVar i σ H Q=∃ v,σ[i]?=some (some v)∧Q v H:=rfl
theorem ex_ {α:Type}{x:α}{P:α→Prop}:(∃ v,some (some x)=some (some v)∧P v)=P x:=by
 apply propext
 constructor
 ·intro h
  obtain ⟨v,e,p⟩:=h
  cases e
  exact p
 ·exact fun p=>⟨x,rfl,p⟩
theorem exb_ {b:Bool}{P:Bool→Prop}:(∃ k,V.bl b=V.bl k∧P k)=P b:=by
 apply propext
 constructor
 ·intro h
  obtain ⟨v,e,p⟩:=h
  cases e
  exact p
 ·exact fun p=>⟨b,rfl,p⟩
theorem c_:tC v σ H Q=Q v H:=rfl
theorem op_:tOp r ta tb σ H Q=ta σ H fun x H1=>tb σ H1 fun y H2=>r x y H2 Q:=rfl
theorem un_ {f:V→Hp→VK→Prop}:tUn f ta σ H Q=ta σ H fun x H1=>f x H1 Q:=rfl
theorem test_:tTest te σ H Qb=te σ H fun x H1=>∃ k,x=.bl k∧Qb k H1:=rfl
theorem tB_:tB te σ H Qb=te σ H fun x H1=>∃ k,x=.bl k∧Qb k H1:=rfl
theorem and_:tAnd tt tu σ H Qb=tt σ H fun b H1=>BrA b tu σ H1 Qb:=rfl
theorem or_:tOr tt tu σ H Qb=tt σ H fun b H1=>BrO b tu σ H1 Qb:=rfl
theorem not_:tNot tt σ H Qb=tt σ H fun b H1=>Qb (!b) H1:=rfl
theorem andV_:tAndV ta tb σ H Q=ta σ H fun x H1=>∃ k,x=.bl k∧BrAV k tb σ H1 Q:=rfl
theorem orV_:tOrV ta tb σ H Q=ta σ H fun x H1=>∃ k,x=.bl k∧BrOV k tb σ H1 Q:=rfl
theorem rI0_ {g:Int→Int→V}{i j:Int}:rI0 g (.int i) (.int j) H Q=Q (g i j) H:=by
 apply propext
 constructor
 ·intro h
  obtain ⟨a,b,e1,e2,q⟩:=h
  cases e1; cases e2
  exact q
 ·exact fun q=>⟨i,j,rfl,rfl,q⟩
theorem rI_ {C:Int→Int→Prop}{g:Int→Int→V}{i j:Int}:rI C g (.int i) (.int j) H Q=(C i j∧Q (g i j) H):=by
 apply propext
 constructor
 ·intro h
  obtain ⟨a,b,e1,e2,q⟩:=h
  cases e1; cases e2
  exact q
 ·exact fun q=>⟨i,j,rfl,rfl,q⟩
theorem rEqI_ {i j:Int}:rEq (.int i) (.int j) H Q=Q (.bl (decide (i=j))) H:=by
 have e:decide (V.int i=V.int j)=decide (i=j):=by rw [dec_int,Bool.beq_eq_decide_eq]
 unfold rEq
 rw [e]
 exact propext ⟨fun h=>h.2,fun h=>⟨rfl,h⟩⟩
theorem rNeI_ {i j:Int}:rNe (.int i) (.int j) H Q=Q (.bl (!decide (i=j))) H:=by
 have e:decide (V.int i=V.int j)=decide (i=j):=by rw [dec_int,Bool.beq_eq_decide_eq]
 unfold rNe
 rw [e]
 exact propext ⟨fun h=>h.2,fun h=>⟨rfl,h⟩⟩
theorem rEqS_ {i j:Str}:rEq (.str i) (.str j) H Q=Q (.bl (decide (i=j))) H:=by
 have e:decide (V.str i=V.str j)=decide (i=j):=by rw [dec_str,Bool.beq_eq_decide_eq]
 unfold rEq
 rw [e]
 exact propext ⟨fun h=>h.2,fun h=>⟨rfl,h⟩⟩
theorem rNeS_ {i j:Str}:rNe (.str i) (.str j) H Q=Q (.bl (!decide (i=j))) H:=by
 have e:decide (V.str i=V.str j)=decide (i=j):=by rw [dec_str,Bool.beq_eq_decide_eq]
 unfold rNe
 rw [e]
 exact propext ⟨fun h=>h.2,fun h=>⟨rfl,h⟩⟩
theorem rU_ {g:Int→V}{i:Int}:rU g (.int i) H Q=Q (g i) H:=by
 apply propext
 constructor
 ·intro h
  obtain ⟨a,e,q⟩:=h
  cases e
  exact q
 ·exact fun q=>⟨i,rfl,q⟩
theorem nil_:tNil σ H Ql=Ql [] H:=rfl
theorem cons_:tCons te tr σ H Ql=te σ H fun x H1=>tr σ H1 fun xs H2=>Ql (x::xs) H2:=rfl
def TupR (xs:List V)(H:Hp)(Q:VK):Prop:=xs.length≤sizeLine∧∀ p,H p=none→Q (.ref p) (upd H p (.tup xs))
def LstR (xs:List V)(H:Hp)(Q:VK):Prop:=xs.length≤sizeLine∧∀ p,H p=none→Q (.ref p) (upd H p (.lst xs))
theorem tup_:tTup tr σ H Q=tr σ H fun xs H1=>TupR xs H1 Q:=rfl
theorem lst_:tLst tr σ H Q=tr σ H fun xs H1=>LstR xs H1 Q:=rfl
theorem TupR.go {xs:List V}(h:xs.length≤1000)(q:∀ p,H p=none→Q (.ref p) (upd H p (.tup xs))):TupR xs H Q:=⟨Nat.le_of_lt (qs1 h),q⟩
theorem LstR.go {xs:List V}(h:xs.length≤1000)(q:∀ p,H p=none→Q (.ref p) (upd H p (.lst xs))):LstR xs H Q:=⟨Nat.le_of_lt (qs1 h),q⟩
theorem call_ {sp:Sp}{E:XK}:tCall sp [] E tr σ H Q=tr σ H fun vs H1=>sp vs H1 Q E:=by
 unfold tCall
 simp only [List.append_nil]
theorem cb_ {f:List V→Hp→VK→Prop}:tCB f tr σ H Q=tr σ H fun vs H1=>f vs H1 Q:=rfl
theorem for_:tFor wi G t D σ H=wi σ H fun J H1=>ForR J G t D σ H1:=rfl
def RngR (vs:List V)(H:Hp)(R:It→Hp→Prop):Prop:=∃ j:Int,vs=[.int j]∧-(2 ^ 62)≤j∧j<2 ^ 62∧R (Itr 0 j.toNat) H
theorem rng1_ {R:It→Hp→Prop}:iRng1 tr σ H R=tr σ H fun vs H1=>RngR vs H1 R:=rfl
theorem RngR.go {j:Int}{R:It→Hp→Prop}(h1:-(2 ^ 62)≤j)(h2:j<2 ^ 62)(q:R (Itr 0 j.toNat) H):RngR [.int j] H R:=⟨j,rfl,h1,h2,q⟩
def Rng3R (vs:List V)(H:Hp)(R:It→Hp→Prop):Prop:=∃ j:Int,vs=[.int 0,.int j,.int 2]∧0≤j∧j<1000000∧R (Its 0 2 (evens j)) H
theorem Rng3R.go {j:Int}{R:It→Hp→Prop}(h1:0≤j)(h2:j<1000000)(q:R (Its 0 2 (evens j)) H):Rng3R [.int 0,.int j,.int 2] H R:=⟨j,rfl,h1,h2,q⟩
def LenR (K:PySem.W.Frag):List V→Hp→VK→Prop:=fun xs H Q=>∃ p ys,xs=[.ref p]∧(SqL K H p ys∨SqT K H p ys)∧Q (.int ys.length) H
theorem call_lenR {X:Cx}:CallR X (.builtin "len") (LenR X.K):=call_len_seq
theorem LenR.lst {K:PySem.W.Frag}{a:Addr}{ys:List V}(h:SqL K H a ys)(q:Q (.int ys.length) H):LenR K [.ref a] H Q:=⟨a,ys,rfl,.inl h,q⟩
def MaxR:List V→Hp→VK→Prop:=fun xs H Q=>∃ i j,xs=[.int i,.int j]∧Q (.int (if j > i then j else i)) H
def MinR:List V→Hp→VK→Prop:=fun xs H Q=>∃ i j,xs=[.int i,.int j]∧Q (.int (if j<i then j else i)) H
theorem call_maxR {X:Cx}(hc:X.calm=true):CallR X (.builtin "max") MaxR:=call_max2 hc
theorem call_minR {X:Cx}(hc:X.calm=true):CallR X (.builtin "min") MinR:=call_min2 hc
theorem max_ {i j:Int}:MaxR [.int i,.int j] H Q=Q (.int (max i j)) H:=by
 have e:(if j > i then j else i)=max i j:=by split <;> omega
 apply propext
 constructor
 ·intro h
  obtain ⟨a,b,e1,q⟩:=h
  cases e1
  rw [e] at q
  exact q
 ·intro q
  refine ⟨i,j,rfl,?_⟩
  rw [e]
  exact q
theorem min_ {i j:Int}:MinR [.int i,.int j] H Q=Q (.int (min i j)) H:=by
 have e:(if j<i then j else i)=min i j:=by split <;> omega
 apply propext
 constructor
 ·intro h
  obtain ⟨a,b,e1,q⟩:=h
  cases e1
  rw [e] at q
  exact q
 ·intro q
  refine ⟨i,j,rfl,?_⟩
  rw [e]
  exact q
theorem ixT_go {K:PySem.W.Frag}{a:Addr}{xs:List V}{i:Nat}(h:SqT K H a xs)(e:xs[i]?=some v)(q:Q v H):rIxT K (.ref a) (.int (i:Int)) H Q:=⟨a,xs,_,v,rfl,rfl,h,atI_nat e,q⟩
theorem qe1 {K:PySem.W.Frag}{a:Addr}{xs:List V}{i:Nat}(h:SqL K H a xs)(e:xs[i]?=some v)(q:Q v H):rIxL K (.ref a) (.int (i:Int)) H Q:=⟨a,xs,_,v,rfl,rfl,h,atI_nat e,q⟩
theorem bm0_ {K:PySem.W.Frag}{T:String}{f:V→List V→Hp→VK→Prop}:tBM0 K T f te σ H Q=te σ H fun x H1=>tyV K T x H1∧f x [] H1 Q:=rfl
theorem bm_ {K:PySem.W.Frag}{T:String}{f:V→List V→Hp→VK→Prop}:tBM K T f te tr σ H Q=te σ H fun x H1=>tyV K T x H1∧tr σ H1 fun xs H2=>f x xs H2 Q:=rfl
theorem tyInt_ {K:PySem.W.Frag}{i:Int}:tyV K "int" (.int i) H=True:=propext ⟨fun _=>True.intro,fun _=>rfl⟩
theorem tyStr_ {K:PySem.W.Frag}{z:Str}:tyV K "str" (.str z) H=True:=propext ⟨fun _=>True.intro,fun _=>rfl⟩
end
theorem cxK {CX:CXT}{P:Program}{w:World}{K:PySem.W.Frag}{mg:Str→Option Value}{base:Heap}{N:List Str}{qual:Str}{sc:Scope}{f:Addr}{cd:Value}{A:Around}{outer:List Env}{s:Shared}{H:Hp}{E:XK} :
  (cxOf CX P w K mg base N qual sc f cd A outer s H E).nox.K=K:=rfl
theorem qh {H:Hp}{p:Addr}(h:H p=none)(o:HO):Same H (upd H p o):=fun b u q=>by
 rw [qu0 (qy0 q h)]
 exact q
end Sv
namespace Sv
open PySem L2
end Sv
namespace Sv
open PySem L2
theorem gtup2 {K:PySem.W.Frag}{a:Addr}{x y:V}{i j:Nat}{σ:L2.St}{H:Hp}{R:L2.St→Hp→Prop}(h:SqT K H a [x,y])(q:R ((σ.set i (some x)).set j (some y)) H) :
  gTup K 2 (gCons (gName i) (gCons (gName j) gNil)) (.ref a) σ H R:=⟨a,_,rfl,h,rfl,_,_,rfl,_,_,rfl,rfl,q⟩
theorem app_go {l:Addr}{xs:List V}{y:V}{H:Hp}{Q:VK}(h:H l=some (.lst xs))(z:xs.length≤1000)(q:Q .non (upd H l (.lst (xs++[y])))):rAppend (.ref l) [y] H Q :=
 ⟨l,xs,y,rfl,rfl,h,qs1 z,q⟩
theorem ty_lst {K:PySem.W.Frag}{l:Addr}{xs:List V}{H:Hp}(h:H l=some (.lst xs)):tyV K "list" (.ref l) H:=.inl ⟨rfl,xs,SqL.of h⟩
end Sv
namespace Sv
open PySem L2
def IlR (K:PySem.W.Frag)(x:V)(H:Hp)(R:It→Hp→Prop):Prop:=∃ a,x=.ref a∧(∃ xs,SqL K H a xs)∧R (Itl K a) H
theorem ilist_ {K:PySem.W.Frag}{te:TE}{σ:L2.St}{H:Hp}{R:It→Hp→Prop}:iList K te σ H R=te σ H fun x H1=>IlR K x H1 R:=rfl
theorem IlR.go {K:PySem.W.Frag}{a:Addr}{xs:List V}{H:Hp}{R:It→Hp→Prop}(h:SqL K H a xs)(q:R (Itl K a) H):IlR K (.ref a) H R:=⟨a,rfl,⟨xs,h⟩,q⟩
end Sv
namespace Sv
open PySem L2
def BrC (b:Bool)(tc:TE)(r':R2)(y:V)(σ:L2.St)(H:Hp)(Q:VK):Prop:=if b=true then tc σ H fun w H4=>r' y w H4 Q else Q (.bl false) H
theorem brC_t {tc:TE}{r':R2}{y:V}{σ:L2.St}{H:Hp}{Q:VK}:BrC true tc r' y σ H Q=tc σ H fun w H4=>r' y w H4 Q:=rfl
theorem brC_f {tc:TE}{r':R2}{y:V}{σ:L2.St}{H:Hp}{Q:VK}:BrC false tc r' y σ H Q=Q (.bl false) H:=rfl
theorem chain_ {r r':R2}{ta tb tc:TE}{σ:L2.St}{H:Hp}{Q:VK}:tChain r r' ta tb tc σ H Q=ta σ H fun x H1=>tb σ H1 fun y H2=>r x y H2 fun z H3=>∃ k,z=.bl k∧BrC k tc r' y σ H3 Q:=rfl
theorem cxK2 {CX:CXT}{P:Program}{w:World}{K:PySem.W.Frag}{mg:Str→Option Value}{base:Heap}{N:List Str}{qual:Str}{sc:Scope}{f:Addr}{cd:Value}{A:Around}{outer:List Env}{s:Shared}{H:Hp}{E:XK} :
  (cxOf CX P w K mg base N qual sc f cd A outer s H E).K=K:=rfl
end Sv
namespace Sv
open PySem PySem.Spec PyProof.Rows L2
theorem bo_len:bootBuiltins "len"=some (.builtin "len"):=by decide +kernel
theorem bo_max:bootBuiltins "max"=some (.builtin "max"):=by decide +kernel
theorem bo_min:bootBuiltins "min"=some (.builtin "min"):=by decide +kernel
theorem bo_isinstance:bootBuiltins "isinstance"=some (.builtin "isinstance"):=by decide +kernel
theorem bo_all:bootBuiltins "all"=some (.builtin "all"):=by decide +kernel
theorem bo_int:bootBuiltins "int"=some (.type "int"):=by decide +kernel
theorem bo_list:bootBuiltins "list"=some (.type "list"):=by decide +kernel
structure Fn (P:Program)(w:World)(K:PySem.W.Frag)(mg:Str→Option Value)(base:Heap)(x:Str)(k:Nat)(ps:List Str)(sp:Sp):Prop where
 ex:∃ (f:Addr) (fd:FuncData),FnOk P w K mg base CX0 k f fd ps sp∧mg x=some (.ref f)∧PySem.W.keepIn K (.ref f)=true∧Binds K fd ps []
section
variable {X:Cx}{x:Str}{k j:Nat}{ps:List Str}{sp:Sp}{e:Expr}{es:List Expr}{t:TA}{p pos:Pos}
theorem qj1 (F:Fn X.prog X.w X.K X.mg X.base x k ps sp)(hr:Room j X.A)(hk:k≤j)(hg:Gl X x)(ha:PA X (e::es) t)(hdb:(x == ("__debug__":Str))=false:=by decide)
  (he:starEach (e::es) X.env=(false,eval e X.env)::starEach es X.env:=by rfl) (hpl:(backTo pos (starEach es X.env)).any (·.1)=false:=by rfl):PE X (.Call (.Name x p) (e::es) [] pos) (tCall sp [] E0 t):=by
 obtain ⟨f,fd,G,m,kp,b⟩:=F.ex
 exact pe_call G (hr.mono hk) hg m kp b .nil pass0 ha hdb he hpl
end
structure Def (K:PySem.W.Frag)(mg:Str→Option Value)(x:Str)(st:Stmt):Prop where
 ex:∃ (f:Addr) (fd:FuncData),Fun K x x st f fd∧mg x=some (.ref f)
theorem mk_def {K:PySem.W.Frag}{h:Heap}{mg:Str→Option Value}{x:Str}{st:Stmt}{f:Addr}{oc kV dc pm cd ct:Value}{od an:Option Addr}{sl:Array (Option Value)}(X:K.In h)(G:h.Ns mainGlobals mg)
  (a:PySem.W.nsIn K mainGlobals x=some (some (.ref f))) (l:K.lookup f=some ⟨oc,od,.func (PySem.W.fnOf x x (defArgs st) (qh2 st) (qg st) .none kV dc pm an cd ct),sl⟩)
  (c:PySem.W.codeIn K cd x=true) (k:PySem.W.keepIn K (.ref f)=true):Def K mg x st:=⟨⟨f,_,fun_mk l c k,PySem.W.mg_of X G a⟩⟩
theorem Def.fn {P:Program}{w:World}{K:PySem.W.Frag}{mg:Str→Option Value}{base:Heap}{x:Str}{st:Stmt}{k:Nat}{ps:List Str}{sp:Sp}(D:Def K mg x st)
  (b:∀ (kV doc pm:Value) (an:Option Addr) (cdv ct:Value) (us:List Value),us.length=ps.length→bindArgs (PySem.W.fnOf x x (defArgs st) (qh2 st) (qg st) .none kV doc pm an cdv ct) ⟨us,[]⟩=pure (ps.zip us))
  (ok:∀ (f:Addr) (fd:FuncData),Fun K x x st f fd→FnOk P w K mg base CX0 k f fd ps sp):Fn P w K mg base x k ps sp:=by
 obtain ⟨f,fd,F,m⟩:=D.ex
 exact ⟨⟨f,fd,ok f fd F,m,F.kp,F.binds b⟩⟩
def cell (ns:List Int)(k:Int):Int:=ns.getD k.toNat 0
def spCell (K:PySem.W.Frag):Sp:=fun vs H Q _=>∃ (a:Addr) (ns:List Int) (k:Int),vs=[.ref a,.int k]∧SqL K H a (ns.map V.int)∧0≤k∧Q (.int (cell ns k)) H
def spWhole:Sp:=fun vs H Q _=>∃ i:Int,vs=[.int i]∧Q (.bl true) H
def spLaw (K:PySem.W.Frag):Sp:=fun vs H Q _=>∃ (a:Addr) (ns:List Int),vs=[.ref a]∧SqL K H a (ns.map V.int)∧ns.length≤63∧∀ H',Q (.bl true) H'
theorem spCell.go {K:PySem.W.Frag}{H:Hp}{Q:VK}{E:XK}{a:Addr}{ns:List Int}{k:Int}(h:SqL K H a (ns.map V.int))(h0:0≤k)(q:Q (.int (cell ns k)) H):spCell K [.ref a,.int k] H Q E:=⟨a,ns,k,rfl,h,h0,q⟩
theorem spWhole.go {H:Hp}{Q:VK}{E:XK}{i:Int}(q:Q (.bl true) H):spWhole [.int i] H Q E:=⟨i,rfl,q⟩
end Sv
namespace Sv
theorem us1 {α:Type}{us:List α}(h:us.length=1):∃ a,us=[a]:=by
 cases us with
 | nil=>cases h
 | cons a us=>cases us with
  | nil=>exact ⟨a,rfl⟩
  | cons b us=>cases h
theorem us2 {α:Type}{us:List α}(h:us.length=2):∃ a b,us=[a,b]:=by
 cases us with
 | nil=>cases h
 | cons a us =>
  obtain ⟨b,rfl⟩:=us1 (Nat.succ.inj h)
  exact ⟨a,b,rfl⟩
theorem us3 {α:Type}{us:List α}(h:us.length=3):∃ a b c,us=[a,b,c]:=by
 cases us with
 | nil=>cases h
 | cons a us =>
  obtain ⟨b,c,rfl⟩:=us2 (Nat.succ.inj h)
  exact ⟨a,b,c,rfl⟩
theorem us4 {α:Type}{us:List α}(h:us.length=4):∃ a b c d,us=[a,b,c,d]:=by
 cases us with
 | nil=>cases h
 | cons a us =>
  obtain ⟨b,c,d,rfl⟩:=us3 (Nat.succ.inj h)
  exact ⟨a,b,c,d,rfl⟩
end Sv
namespace Sv
open PySem PySem.Spec PyProof.Rows L2
def VarQ (o:Option (Option V))(H:Hp)(Q:VK):Prop:=match o with
 | some (some v)=>Q v H
 | _=>False
theorem VarQ.ex {o:Option (Option V)}{H:Hp}{Q:VK}(h:VarQ o H Q):∃ v,o=some (some v)∧Q v H:=by
 match o,h with
 | some (some v),h=>exact ⟨v,rfl,h⟩
def jI0 (g:Int→Int→V):R2:=fun x y H Q=>match x,y with
 | .int i,.int j=>Q (g i j) H
 | _,_=>False
def jI (C:Int→Int→Prop)(g:Int→Int→V):R2:=fun x y H Q=>match x,y with
 | .int i,.int j=>C i j∧Q (g i j) H
 | _,_=>False
theorem jI0.ex {g:Int→Int→V}{x y:V}{H:Hp}{Q:VK}(h:jI0 g x y H Q):rI0 g x y H Q:=by
 match x,y,h with
 | .int i,.int j,h=>exact ⟨i,j,rfl,rfl,h⟩
theorem jI.ex {C:Int→Int→Prop}{g:Int→Int→V}{x y:V}{H:Hp}{Q:VK}(h:jI C g x y H Q):rI C g x y H Q:=by
 match x,y,h with
 | .int i,.int j,h=>exact ⟨i,j,rfl,rfl,h.1,h.2⟩
section
variable {X:Cx}
variable {x:Str}{k j:Nat}{ps:List Str}{sp:Sp}{e:Expr}{es:List Expr}{t:TA}{p pos:Pos}
end
end Sv
namespace Sv
open PySem PySem.Spec PyProof.Rows L2
theorem forIn_foldl {α β:Type}{f:α→β→Sem (ForInStep β)}(g:β→α→β):∀ (l:List α) (c:β),(∀ x∈l,∀ c,f x c=pure (.yield (g c x)))→forIn l c f=pure (l.foldl g c)
 | [],_,_=>rfl
 | x::l,c,h=>by
  rw [List.forIn_cons,h x List.mem_cons_self,pure_bind]
  exact forIn_foldl g l (g c x) fun y hy=>h y (List.mem_cons_of_mem _ hy)
def clStep (env:Env)(b:List (Str×Addr))(x:Str×NameKind):List (Str×Addr):=if x.2 == .free then (x.1,(env.cells.lookup x.1).getD 0)::b else b
def clOf (env:Env)(sc:Scope):List (Str×Addr):=sc.names.foldl (clStep env) []
theorem closure_eq {env:Env}{sc:Scope}(hf:∀ x∈sc.names,x.2=.free→∃ c,env.cells.lookup x.1=some c):closureFor sc env=pure (clOf env sc):=by
 simp only [closureFor]
 rw [forIn_foldl (clStep env) sc.names [] (fun x hx c=>by
  obtain ⟨n,k⟩:=x
  cases hk:k == NameKind.free with
  | true =>
   obtain ⟨a,ha⟩:=hf (n,k) hx (by simpa using hk)
   have ha':env.cells.lookup n=some a:=ha
   simp only [clStep,hk,if_true,cellOf,ha',Option.getD_some,pure_bind]
  | false=>simp only [clStep,hk,Bool.false_eq_true,if_false])]
 rfl
theorem cl_all {env:Env}:∀ (names:List (Str×NameKind)) (acc:List (Str×Addr)),(∀ x∈names,x.2=.free→∃ c,env.cells.lookup x.1=some c)→(∀ p∈acc,env.cells.lookup p.1=some p.2) →
  ∀ p∈names.foldl (clStep env) acc,env.cells.lookup p.1=some p.2
 | [],_,_,ha,p,hp=>ha p hp
 | (n,k)::r,acc,hf,ha,p,hp=>by
  refine cl_all r (clStep env acc (n,k)) (fun x hx=>hf x (List.mem_cons_of_mem _ hx)) (fun q hq=>?_) p hp
  unfold clStep at hq
  split at hq
  ·rename_i hk
   rcases List.mem_cons.mp hq with e | hq
   ·obtain ⟨c,hc⟩:=hf (n,k) List.mem_cons_self (by simpa using hk)
    have hc':env.cells.lookup n=some c:=hc
    rw [e]
    show env.cells.lookup n=some ((env.cells.lookup n).getD 0)
    rw [hc']
    rfl
   ·exact ha q hq
  ·exact ha q hq
theorem cl_sub {env:Env}:∀ (names:List (Str×NameKind)) (acc:List (Str×Addr)) (p:Str×Addr),p∈acc→p∈names.foldl (clStep env) acc
 | [],_,_,h=>h
 | (n,k)::r,acc,p,h=>by
  refine cl_sub r (clStep env acc (n,k)) p ?_
  unfold clStep
  split
  ·exact List.mem_cons_of_mem _ h
  ·exact h
theorem cl_mem {env:Env}:∀ (names:List (Str×NameKind)) (acc:List (Str×Addr)) (x:Str),(x,NameKind.free)∈names→∃ c,(x,c)∈names.foldl (clStep env) acc
 | [],_,_,h=>nomatch h
 | (n,k)::r,acc,x,h=>by
  rcases List.mem_cons.mp h with e | h
  ·have e1:x=n:=congrArg Prod.fst e
   have e2:k=.free:=(congrArg Prod.snd e).symm
   refine ⟨(env.cells.lookup n).getD 0,cl_sub r (clStep env acc (n,k)) _ ?_⟩
   simp [clStep,e1,e2]
  ·exact cl_mem r (clStep env acc (n,k)) x h
theorem lookup_some {β:Type}:∀ {l:List (Str×β)} {x:Str} {c:β},(x,c)∈l→∃ c',l.lookup x=some c'
 | [],_,_,h=>nomatch h
 | (y,d)::r,x,c,h=>by
  rw [List.lookup_cons]
  cases e:x == y with
  | true=>exact ⟨d,rfl⟩
  | false =>
   rcases List.mem_cons.mp h with q | q
   ·cases q
    simp at e
   ·exact lookup_some q
theorem relabel_back {env:Env}:∀ {names:List (Str×NameKind)} {x:Str} {k':NameKind},
  (names.map fun (n,k)=>if (k == NameKind.free && env.scope.kind == .function && env.kindOf n == some .cell) then (n,NameKind.cell) else (n,k)).lookup x=some k' →
   names.lookup x=some k'∨(names.lookup x=some .free∧k'=.cell)
 | [],_,_,h=>by simp at h
 | (n,k)::r,x,k',h=>by
  have ih:=@relabel_back env r x k'
  rw [List.map_cons] at h
  dsimp only at h
  by_cases hc:(k == NameKind.free && env.scope.kind == .function && env.kindOf n == some .cell)=true
  ·rw [if_pos hc] at h
   have hk:k=.free:=by
    rw [Bool.and_eq_true,Bool.and_eq_true] at hc
    simpa using hc.1.1
   cases e:x == n with
   | true =>
    simp only [List.lookup_cons,e] at h ⊢
    rw [hk]
    exact .inr ⟨rfl,(Option.some.inj h).symm⟩
   | false =>
    simp only [List.lookup_cons,e] at h ⊢
    exact ih h
  ·rw [if_neg hc] at h
   cases e:x == n with
   | true =>
    simp only [List.lookup_cons,e] at h ⊢
    exact .inl h
   | false =>
    simp only [List.lookup_cons,e] at h ⊢
    exact ih h
theorem relabel_free {env:Env}:∀ {names:List (Str×NameKind)} {x:Str},names.lookup x=some .free →
  (names.map fun (n,k)=>if (k == NameKind.free && env.scope.kind == .function && env.kindOf n == some .cell) then (n,NameKind.cell) else (n,k)).lookup x=some .cell ∨
  (names.map fun (n,k)=>if (k == NameKind.free && env.scope.kind == .function && env.kindOf n == some .cell) then (n,NameKind.cell) else (n,k)).lookup x=some .free
 | [],_,h=>by simp at h
 | (n,k)::r,x,h=>by
  have ih:=@relabel_free env r x
  rw [List.map_cons]
  dsimp only
  by_cases hc:(k == NameKind.free && env.scope.kind == .function && env.kindOf n == some .cell)=true
  ·rw [if_pos hc]
   cases e:x == n with
   | true =>
    simp only [List.lookup_cons,e]
    exact .inl trivial
   | false =>
    simp only [List.lookup_cons,e] at h ⊢
    exact ih h
  ·rw [if_neg hc]
   cases e:x == n with
   | true =>
    simp only [List.lookup_cons,e] at h ⊢
    exact .inr h
   | false =>
    simp only [List.lookup_cons,e] at h ⊢
    exact ih h
def cxC (X:Cx)(sc:Scope)(T:List Str)(cap:List Nat)(fp:List Addr)(s:Shared)(H:Hp):Cx where
 prog:=X.prog
 w:=X.w
 K:=X.K
 mg:=X.mg
 base:=X.base
 A:=X.A
 N:=T++cap.map fun i=>X.N.getD i Str.empty
 s₀:=s
 H₀:=H
 env:=compEnvC sc (clOf X.env sc) s.heap.objs.size X.env
 outer:=X.stack
 stack:=X.stack
 ex:=fp
 fn:=fun _=>false
 calm:=X.calm
 pn:=[]
 xe:=fun _ _=>False
structure COk (X:Cx)(sc:Scope)(cap:List Nat):Prop where
 kind:sc.kind=.function
 nocell:∀ y∈sc.names,y.2≠.cell
 loc:∀ y∈sc.names,y.2=.local→sc.names.lookup y.1=some .local
 free:∀ y∈sc.names,y.2=.free→X.env.kindOf y.1=some .cell∨X.env.kindOf y.1=some .free
 cap:∀ i∈cap,∃ x,X.N[i]?=some x∧sc.names.lookup x=some .free
def cChk (sc out:Scope)(N:List Str)(cap:List Nat):Bool :=
 sc.kind == .function && (sc.names.all fun y=>y.2 != .cell && (y.2 != .local || sc.names.lookup y.1 == some .local) && (y.2 != .free || (out.names.lookup y.1 == some .cell || out.names.lookup y.1 == some .free))) &&
  cap.all fun i=>match N[i]? with | some x=>sc.names.lookup x == some .free | none=>false
theorem COk.of {X:Cx}{sc out:Scope}{N:List Str}{cap:List Nat}(ho:X.env.scope=out)(hN:X.N=N)(h:cChk sc out N cap=true):COk X sc cap:=by
 unfold cChk at h
 rw [Bool.and_eq_true,Bool.and_eq_true,List.all_eq_true,List.all_eq_true] at h
 obtain ⟨⟨h1,h2⟩,h3⟩:=h
 have h2':∀ y∈sc.names,y.2≠.cell∧(y.2=.local→sc.names.lookup y.1=some .local)∧(y.2=.free→out.names.lookup y.1=some .cell∨out.names.lookup y.1=some .free):=fun y hy=>by
  have q:=h2 y hy
  rw [Bool.and_eq_true,Bool.and_eq_true] at q
  obtain ⟨⟨q1,q2⟩,q3⟩:=q
  refine ⟨by simpa using q1,fun e=>?_,fun e=>?_⟩
  ·rw [e] at q2
   simpa using q2
  ·rw [e] at q3
   simpa using q3
 refine ⟨by simpa using h1,fun y hy=>(h2' y hy).1,fun y hy=>(h2' y hy).2.1,fun y hy e=>?_,fun i hi=>?_⟩
 ·have q:=(h2' y hy).2.2 e
  rw [← ho] at q
  exact q
 ·have q:=h3 i hi
  rw [hN]
  cases e:N[i]? with
  | none =>
   rw [e] at q
   cases q
  | some x =>
   rw [e] at q
   exact ⟨x,rfl,by simpa using q⟩
section
variable {X:Cx}{sc:Scope}{T:List Str}{cap:List Nat}{fp:List Addr}{pins:List (Addr×Obj)}{σ:L2.St}{H:Hp}{s:Shared}{h₁:Heap}{t':Nat}{m:Str→Option Value}
theorem COk.cells (O:COk X sc cap)(ok:X.Ok):∀ x∈sc.names,x.2=.free→∃ c,X.env.cells.lookup x.1=some c:=fun x hx e=>ok.has x.1 (O.free x hx e)
theorem COk.cl (O:COk X sc cap)(ok:X.Ok){x:Str}{c:Addr}(h:(clOf X.env sc).lookup x=some c):X.env.cells.lookup x=some c :=
 cl_all sc.names [] (O.cells ok) (fun p hp=>nomatch hp) (x,c) (PySem.mem_of_lookup h)
theorem COk.has (O:COk X sc cap){x:Str}(h:sc.names.lookup x=some .free):∃ c,(clOf X.env sc).lookup x=some c:=by
 obtain ⟨c,hc⟩:=cl_mem (env:=X.env) sc.names [] x (PySem.mem_of_lookup h)
 exact lookup_some hc
theorem inv_comp (O:COk X sc cap)(I:Inv X pins σ H s)(hf:∀ b∈fp,FpOk X pins H b)(hfo:∀ b∈fp,∃ o,s.heap.get? b=some o)(hn:h₁.Ns s.heap.objs.size m)(keep:∀ b o,s.heap.get? b=some o→h₁.get? b=some o) :
  Inv (cxC X sc T cap fp s H) [] (List.replicate T.length none++cap.map fun i=>σ.getD i none) H { s with heap:=h₁,toks:=t' }:=by
 have cle:∀ x c,(clOf X.env sc).lookup x=some c→X.env.cells.lookup x=some c:=fun x c h=>O.cl I.ok h
 have fr:∀ x,(cxC X sc T cap fp s H).env.kindOf x=some .cell∨(cxC X sc T cap fp s H).env.kindOf x=some .free→sc.names.lookup x=some .free:=fun x h=>by
  rcases h with h | h
  ·rcases relabel_back (env:=X.env) (names:=sc.names) (x:=x) h with q | q
   ·exact absurd rfl (O.nocell _ (PySem.mem_of_lookup q))
   ·exact q.1
  ·rcases relabel_back (env:=X.env) (names:=sc.names) (x:=x) h with q | q
   ·exact q
   ·exact q.1
 refine ⟨⟨I.ok.mod,O.kind,I.ok.glob,I.ok.blt,Nat.le_refl _,fun x y c h1 h2=>I.ok.inj x y c (cle x c h1) (cle y c h2),fun x h=>O.has (fr x h),fun x c h=>absurd h Bool.false_ne_true,I.ok.hd,I.ok.frames,.inl rfl,
  fun b hb=>?_,I.bs,Nat.le_trans I.ok.bsz I.sz,fun b o e hb=>?_,fun b hb h=>?_,I.stack,I.stkFree⟩,rfl,I.bare,Un.kept keep,⟨m,hn,fun i x v e1 e2 e3=>?_⟩,fun x c e=>?_,I.hok.fresh (Nat.le_refl _),fun x c e=>I.freeC x c (cle x c e),
  fun p hp=>absurd hp (by simp [cxC]),I.hok.kept keep,?_⟩
 ·obtain ⟨o,ho⟩:=hfo b hb
  exact ⟨Nat.ne_of_lt (Heap.lt_size ho),fun x c e=>(hf b hb).2.2.2.2.1 x c (cle x c e)⟩
 ·rcases (hf b hb).2.2.2.1 with z | z
  ·exact I.ok.noex b o e z
  ·exact absurd (Nat.lt_of_lt_of_le (Heap.lt_size e) (Nat.le_trans I.ok.bsz z)) (Nat.lt_irrefl _)
 ·rcases List.mem_cons.mp (I.stkSub b h) with z | z
  ·exact (hf b hb).2.1 z
  ·exact (hf b hb).2.2.1 z
 ·have e1':(T++cap.map fun i=>X.N.getD i Str.empty)[i]?=some x:=e1
  by_cases hi:i<T.length
  ·rw [List.getElem?_append_left (by simpa using hi),List.getElem?_replicate] at e2
   split at e2 <;> cases e2
  ·rw [List.getElem?_append_right (by simpa using hi),List.length_replicate,List.getElem?_map] at e2
   rw [List.getElem?_append_right (by simpa using hi),List.getElem?_map] at e1'
   cases q:cap[i - T.length]? with
   | none=>rw [q] at e2; cases e2
   | some j =>
    rw [q] at e1' e2
    obtain ⟨x',hx',hfr⟩:=O.cap j (List.mem_of_getElem? q)
    have ex:x'=x:=by
     have z:X.N.getD j Str.empty=x:=Option.some.inj e1'
     rw [List.getD_eq_getElem?_getD,hx'] at z
     exact z
    subst ex
    have ev:σ[j]?=some (some v):=by
     have z:σ.getD j none=some v:=Option.some.inj e2
     rw [List.getD_eq_getElem?_getD] at z
     cases q2:σ[j]? with
     | none=>rw [q2] at z; cases z
     | some y=>rw [q2] at z; exact congrArg some z
    have vis:=O.free (x',.free) (PySem.mem_of_lookup hfr) rfl
    obtain ⟨m0,hn0,hl0⟩:=I.loc
    obtain ⟨u,r,l⟩:=hl0 j x' v hx' ev (.inr vis)
    refine ⟨u,r,.inr ⟨relabel_free (env:=X.env) hfr,?_⟩⟩
    obtain ⟨c',hc'⟩:=O.has hfr
    rcases l with ⟨kk,_⟩ | ⟨_,c,ec,z⟩
    ·rcases vis with z | z
     ·rw [show X.env.kindOf x'=some .local from kk] at z; cases z
     ·rw [show X.env.kindOf x'=some .local from kk] at z; cases z
    ·have e:=cle x' c' hc'
     rw [ec] at e
     cases e
     obtain ⟨o,ho,hd⟩:=z
     exact ⟨_,hc',o,keep _ o ho,hd⟩
 ·obtain ⟨v,o,ho,hd⟩:=I.cell x c (cle x c e)
  exact ⟨v,o,keep c o ho,hd⟩
 ·show _=(T++cap.map fun i=>X.N.getD i Str.empty).length
  simp
end
section
variable {prog:Program}{w:World}{A:Around}{R:Result→Shared→Prop}{s:Shared}
theorem compLoop_any {elt target iter:Expr}{ifs:List Expr}{scope:Scope}{pos:Pos}{it acc:Value}{env:Env}(I:Nat→Shared→Prop)
  (turn:∀ n s,I n s→wpAny (model prog w) A (pyNext it) (fun r s₁=>match r with
   | none=>R (.ok .next) s₁
   | some v=>wpAny (model prog w) A (letOwnedTupleGo target it v) (fun _ s₀=>wpAny (model prog w) A (assign target env v) (fun _ s₂ =>
     wpAny (model prog w) A (forIn ifs true fun c r=>if r=true then do let ok ← isTrue c env (eval c env); pure (ForInStep.yield ok) else pure (ForInStep.yield r)) (fun ok s₃ =>
      if ok=true then wpAny (model prog w) A (eval elt env) (fun x s₄=>wpAny (model prog w) A (call (.builtin "list.append") [acc,x]) (fun _ s₅=>∃ m,m<n∧I m s₅) (fun _ _=>False) s₄) (fun _ _=>False) s₃
      else ∃ m,m<n∧I m s₃) (fun _ _=>False) s₂) (fun _ _=>False) s₀) (fun _ _=>False) s₁) (fun _ _=>False) s)
  (n:Nat) (h:I n s):codeAny (model prog w) A (.compLoop (.ListComp elt [⟨target,iter,ifs,0⟩] scope pos) 0 it acc env) R s:=by
 refine codeAny_loop rfl I (fun n s hI=>?_) n h
 show wpAny _ A ((compTurn (.ListComp elt [⟨target,iter,ifs,0⟩] scope pos) 0 it acc env).onRaise (fun x=>do noteFrame x env; theTreesLotGoes x)) _ _ s
 refine wpAny_noted ?_
 rw [compTurn_list]
 have nf:∀ {E:Value→Shared→Prop} (x:Value) (s:Shared),(fun _ _=>False:Value→Shared→Prop) x s→E x s:=fun _ _ z=>z.elim
 refine wpAny_bind (wpAny_standAt (wpAny_bind (wpAny_mono (turn n s hI) (fun r s₁ h₁=>?_) nf)))
 cases r with
 | none=>exact wpAny_pure h₁
 | some v =>
  refine wpAny_bind (wpAny_mono h₁ (fun _ s₀ h₀=>wpAny_bind (wpAny_mono h₀ (fun _ s₂ h₂=>wpAny_bind (wpAny_mono h₂ (fun ok s₃ h₃=>?_) nf)) nf)) nf)
  cases ok with
  | false=>exact wpAny_pure ⟨rfl,h₃⟩
  | true=>exact wpAny_bind (wpAny_bind (wpAny_mono h₃ (fun x s₄ h₄=>wpAny_bind (wpAny_mono h₄ (fun _ s₅ h₅=>wpAny_pure (wpAny_pure ⟨rfl,h₅⟩)) nf)) nf))
end
def PIfs (X:Cx)(ifs:List Expr)(tc:TT):Prop:=∀ (pins:List (Addr×Obj)) (s:Shared) (σ:L2.St) (H:Hp) (Q:Bool→Hp→Prop),Inv X pins σ H s→tc σ H Q →
 wpAny (model X.prog X.w) X.A (forIn ifs true fun c r=>if r=true then do let ok ← isTrue c X.env (eval c X.env); pure (ForInStep.yield ok) else pure (ForInStep.yield r)) (TP X pins σ Q) X.xe s
def tYes:TT:=fun _ H Q=>Q true H
theorem pifs_nil {X:Cx}:PIfs X [] tYes:=fun _ _ _ H _ I h=>wpAny_tests_nil ⟨H,I,h⟩
theorem pifs_one {X:Cx}{c:Expr}{tc:TT}(hc:PT X c tc):PIfs X [c] tc:=fun pins s σ H Q I h=>wpAny_tests_one (hc pins s σ H Q I h)
def CompR (D:Addr)(J:It)(g:TG)(tc:TT)(te:TE)(σ:L2.St)(H:Hp)(Q:VK):Prop :=
 ∃ W:Nat→Nat→L2.St→Hp→Prop,(∃ m,W 0 m σ H)∧∀ i m σ H,W i m σ H →
  (J.stop i H∧Q (.ref D) H)∨(J.go i H∧∃ N:L2.St→Hp→Prop,(∀ σ' H',N σ' H'→∃ m',m'<m∧W (i+1) m' σ' H') ∧
   ∀ x H',J.yld i H x H'→g x σ H' fun σ2 H2=>tc σ2 H2 fun b H3=>if b=true then te σ2 H3 fun y H4=>∃ ys,H4 D=some (.lst ys)∧ys.length<sizeLine∧N σ2 (upd H4 D (.lst (ys++[y]))) else N σ2 H3)
def CmpR (nT:Nat)(cap:List Nat)(g:TG)(tc:TT)(te:TE)(J:It)(σ:L2.St)(H:Hp)(Q:VK):Prop :=
 ∀ D,H D=none→CompR D J g tc te (List.replicate nT none++cap.map fun i=>σ.getD i none) (upd H D (.lst [])) Q
def tComp (wi:TI)(nT:Nat)(cap:List Nat)(g:TG)(tc:TT)(te:TE):TE:=fun σ H Q=>wi σ H fun J H1=>CmpR nT cap g tc te J σ H1 Q
section
variable {X:Cx}{sc:Scope}{T:List Str}{cap:List Nat}{tg elt iter:Expr}{ifs:List Expr}{pos:Pos}{g:TG}{tc:TT}{te:TE}{wi:TI}
theorem comp_core {pins:List (Addr×Obj)}{s₂:Shared}{σ:L2.St}{H2:Hp}{it:Addr}{fp:List Addr}{tn:Nat→Heap→Prop}{J:It}{Q:VK}{RR:Value→Addr→Result→Shared→Prop}{E:Value→Shared→Prop}
  (hc:X.calm=true) (O:COk X sc cap) (hg:∀ fp s H,PG (cxC X sc T cap fp s H) tg g) (hifs:∀ fp s H,PIfs (cxC X sc T cap fp s H) ifs tc) (helt:∀ fp s H,PE (cxC X sc T cap fp s H) elt te)
  (I2:Inv X pins σ H2 s₂) (Tn:Turn X.prog X.w X.K tg J fp it tn) (st2:tn 0 s₂.heap) (f2:∀ b∈fp,FpOk X pins H2 b) (h:CmpR T.length cap g tc te J σ H2 Q)
  (hRR:∀ D C s' H',Inv X pins σ H' s'→FpOk X pins H' C→(∃ m,s'.heap.Ns C m)→Q (.ref D) H'→RR (.ref D) C (.ok .next) s') :
  wpAny (model X.prog X.w) X.A (newList []) (fun acc s₃=>wpAny (model X.prog X.w) X.A (newFunctionEnv sc X.env.globals (clOf X.env sc) [] X.env.qual none .none (some X.env)) (fun cenv s₄ =>
   codeAny (model X.prog X.w) X.A (.compStart (.ListComp elt [⟨tg,iter,ifs,0⟩] sc pos) 0 (.ref it) acc { cenv with scope:=relabel sc X.env }) (RR acc cenv.locals) s₄) E s₃) E s₂:=by
 have I3:=I2.lnew (its:=[]) (ys:=[]) (t':=s₂.toks) .nil (Nat.zero_le _)
 have hD:H2 s₂.heap.objs.size=none:=I2.fresh
 obtain ⟨W,⟨m0,w0⟩,turn⟩:=h _ hD
 refine wpAny_newObj_type (wpAny_newFunctionEnv O.nocell (by intro y hy; simp at hy) (fun h₁ hns₁ hsb₁=>?_) O.kind)
 dsimp only at hns₁ hsb₁ ⊢
 generalize hs3:({ s₂ with heap:=s₂.heap.push { cls:=.type "list",data:=.seq ([]:List Value).toArray },toks:=s₂.toks }:Shared)=s3 at I3
 have eh:s₂.heap.push { cls:=.type "list",dict:=none,data:=.seq ([]:List Value).toArray }=s3.heap:=by rw [← hs3]
 have e3:s3.os=s₂.os:=by rw [← hs3]
 have keep2:∀ b o,s₂.heap.get? b=some o→s3.heap.get? b=some o:=fun b o e=>by rw [← eh]; exact Heap.get?_push_of_some _ e
 have keep:∀ b o,s3.heap.get? b=some o→h₁.get? b=some o:=fun b o e=>by
  rw [eh] at hsb₁
  rw [hsb₁.2 b (Nat.ne_of_lt (Heap.lt_size e))]
  exact Heap.get?_push_of_some _ e
 have f3:∀ b∈fp,FpOk X pins (upd H2 s₂.heap.objs.size (.lst [])) b:=fun b hb=>by
  refine ⟨?_,(f2 b hb).2⟩
  obtain ⟨o,ho,_⟩:=Tn.obj 0 _ st2 b hb
  rw [qu0 (Nat.ne_of_lt (Heap.lt_size ho))]
  exact (f2 b hb).1
 have fo3:∀ b∈fp,∃ o,s3.heap.get? b=some o:=fun b hb=>by
  obtain ⟨o,ho,_⟩:=Tn.obj 0 _ st2 b hb
  exact ⟨o,keep2 b o ho⟩
 have hns:h₁.Ns s3.heap.objs.size (fun x=>([]:List (Str×Value)).reverse.lookup x):=by rw [← eh]; exact hns₁
 have I4:=fun t'=>inv_comp (T:=T) (fp:=fp) (t':=t') O I3 f3 fo3 hns keep
 have st4:tn 0 h₁:=Tn.keep 0 _ _ st2 fun b _ o e=>keep b o (keep2 b o e)
 generalize hX:cxC X sc T cap fp s3 (upd H2 s₂.heap.objs.size (.lst []))=X' at I4
 have ex:X'.ex=fp:=by rw [← hX]; rfl
 have stat:∀ {H':Hp},(∀ b∈fp,H' b=none)→∀ b∈fp,FpOk X' [] H' b:=fun hn b hb=>by
  have ok:=(I4 0).ok
  have q:=ok.exf b (by rw [ex]; exact hb)
  refine ⟨hn b hb,q.1,ok.exfs b (by rw [ex]; exact hb),.inl (by rw [ex]; exact hb),q.2,fun p hp=>?_⟩
  subst hX
  exact absurd hp (by simp [cxC])
 have nf:∀ {E:Value→Shared→Prop} (x:Value) (s:Shared),X'.xe x s→E x s:=fun x s z=>by
  subst hX
  exact False.elim z
 have loop:∀ s4:Shared,(∃ t',s4={ s3 with heap:=h₁,toks:=t' })→codeAny (model X.prog X.w) X.A (.compLoop (.ListComp elt [⟨tg,iter,ifs,0⟩] sc pos) 0 (.ref it) (.ref s₂.heap.objs.size) (compEnvC sc (clOf X.env sc) s3.heap.objs.size X.env))
   (RR (.ref s₂.heap.objs.size) s3.heap.objs.size) s4:=by
  rintro s4 ⟨t',rfl⟩
  refine compLoop_any (fun n s'=>∃ i σ' H',Inv X' [] σ' H' s'∧tn i s'.heap∧(∀ b∈fp,H' b=none)∧W i n σ' H') ?_ m0 ⟨0,_,_,I4 t',st4,fun b hb=>(f3 b hb).1,w0⟩
  rintro n s5 ⟨i,σ5,H5,I5,st5,fr5,w5⟩
  rcases turn i n σ5 H5 w5 with ⟨stop,qn⟩ | ⟨go,N,hN,step⟩
  ·have ep:X'.prog=X.prog:=by rw [← hX]; rfl
   have ew:X'.w=X.w:=by rw [← hX]; rfl
   have eK:X'.K=X.K:=by rw [← hX]; rfl
   have ec:X'.calm=true:=by rw [← hX]; exact hc
   have eA:X'.A=X.A:=by rw [← hX]; rfl
   have d:=Tn.done X' ep ew eK ec i [] s5 σ5 H5 (fun _ _=>False) I5 (stat fr5) st5 stop
   rw [eA] at d
   refine thn d fun r s6 ⟨hr,I6⟩=>?_
   subst hr
   have un:=(Un.laid (fs:=frs X.stack) (ex:=fp) (o:=.lst []) keep2 (Nat.le_refl _) hD).trans (by
    have b:=I6.base
    subst hX
    exact b:Un (frs X.stack) fp (upd H2 s₂.heap.objs.size (.lst [])) H5 s3.heap s6.heap)
   have os6:s6.os=s₂.os:=by
    have q:=I6.os
    subst hX
    exact q.trans e3
   have hok:HOk X.prog X.w H5 s6.heap:=by
    have q:=I6.hok
    rw [ep,ew] at q
    exact q
   have J1:Inv X pins σ H5 s6:=I2.call' os6 un hok I6.bare fun b hb=>⟨(f2 b hb).2.2.2.1,(f2 b hb).2.1,(f2 b hb).2.2.2.2.1,(f2 b hb).2.2.2.2.2⟩
   have eL:X'.env.locals=s3.heap.objs.size:=by rw [← hX]; rfl
   have sz:s₂.heap.objs.size≤s3.heap.objs.size:=by rw [← eh,Heap.size_push]; exact Nat.le_succ _
   refine hRR _ _ s6 H5 J1 (I2.fpOk sz ?_) ?_ qn
   ·rw [← eL]; exact I6.free
   ·obtain ⟨m6,hm6,_⟩:=I6.loc
    rw [eL] at hm6
    exact ⟨m6,hm6⟩
  ·have ep:X'.prog=X.prog:=by rw [← hX]; rfl
   have ew:X'.w=X.w:=by rw [← hX]; rfl
   have eK:X'.K=X.K:=by rw [← hX]; rfl
   have ec:X'.calm=true:=by rw [← hX]; exact hc
   have d:=Tn.item X' ep ew eK ec i [] s5 σ5 H5 (fun _ _=>False) I5 (stat fr5) st5 go
   subst hX
   refine thn d fun r s6 ⟨u,hr,h6⟩=>?_
   subst hr
   refine thn h6 fun _ s7 ⟨x,H7,I7,r7,y7,st7,fr7⟩=>?_
   have I7':=I7.pinned (stat fr7) (Tn.obj _ _ st7)
   refine wpAny_mono (hg _ _ _ _ s7 σ5 H7 x u _ I7' r7 (step x H7 y7)) (fun _ s8 ⟨σ8,H8,I8,q8⟩=>?_) nf
   refine wpAny_mono (hifs _ _ _ _ s8 σ8 H8 _ I8 q8) (fun b s9 ⟨H9,I9,q9⟩=>?_) nf
   have again:∀ {s':Shared} {σ':L2.St} {H':Hp},Inv (cxC X sc T cap fp s3 (upd H2 s₂.heap.objs.size (.lst []))) ([]++pinsAt fp s7.heap) σ' H' s'→N σ' H' →
     ∃ m,m<n∧∃ i σ' H',Inv (cxC X sc T cap fp s3 (upd H2 s₂.heap.objs.size (.lst []))) [] σ' H' s'∧tn i s'.heap∧(∀ b∈fp,H' b=none)∧W i m σ' H':=fun {s' σ' H'} Ia na=>by
    obtain ⟨m',hm,w'⟩:=hN σ' H' na
    refine ⟨m',hm,i+1,σ',H',Ia.unpinned,Tn.keep _ _ _ st7 fun b hb o e=>(Ia.pin (b,o) (List.mem_append_right _ (List.mem_append_right _ (mem_pinsAt hb e)))).1,fun b hb=>?_,w'⟩
    obtain ⟨o,e,_⟩:=Tn.obj _ _ st7 b hb
    exact (Ia.pin (b,o) (List.mem_append_right _ (List.mem_append_right _ (mem_pinsAt hb e)))).2.1
   cases b with
   | false =>
    rw [if_neg Bool.false_ne_true] at q9 ⊢
    exact again I9 q9
   | true =>
    rw [if_pos rfl] at q9 ⊢
    refine wpAny_mono (helt _ _ _ _ s9 σ8 H9 _ I9 q9) (fun y s10 ⟨yv,H10,I10,ry,ys,hl,hz,n10⟩=>?_) nf
    refine wpAny_mono (mt_append (X:=cxC X sc T cap fp s3 (upd H2 s₂.heap.objs.size (.lst []))) _ s10 σ8 H10 (.ref s₂.heap.objs.size) [yv] (.ref s₂.heap.objs.size) [y] (fun _ H'=>N σ8 H') I10 rfl (.cons ry .nil) ⟨_,ys,yv,rfl,rfl,hl,hz,n10⟩)
     (fun _ s11 ⟨_,H11,I11,_,n11⟩=>again I11 n11) nf
 subst hs3
 exact codeAny_compStart_list (loop _ ⟨_,rfl⟩) (Tn.self X.A 0 _ _ _ st4 (loop _ ⟨_,rfl⟩))
theorem pe_comp (hc:X.calm=true)(O:COk X sc cap)(hi:PI X tg iter wi)(hg:∀ fp s H,PG (cxC X sc T cap fp s H) tg g)(hifs:∀ fp s H,PIfs (cxC X sc T cap fp s H) ifs tc)(helt:∀ fp s H,PE (cxC X sc T cap fp s H) elt te)
  (hs:∀ x,foldedSetIterable iter X.env x=pure x:=by intro _; rfl):PE X (.ListComp elt [⟨tg,iter,ifs,0⟩] sc pos) (tComp wi T.length cap g tc te):=by
 intro pins s σ H Q I h
 rw [eval_ListComp]
 refine wpAny_comprehension_free (use:=none) rfl hs (closure_eq (O.cells I.ok)) O.kind O.loc (wpAny_mono (hi pins s σ H _ I h) (fun v s1 h1=>wpAny_mono h1 (fun itv s2 h2=>?_) fun _ _ e=>e) fun _ _ e=>e)
 obtain ⟨it,fp,tn,J,H2,e,I2,Tn,st2,f2,R⟩:=h2
 subst e
 refine comp_core (RR:=fun acc C=>compPost (model X.prog X.w) X.A X.xe none (EP X pins σ Q) acc C) hc O hg hifs helt I2 Tn st2 f2 R fun D C s' H' I' f' hm q=>?_
 obtain ⟨m,hm⟩:=hm
 refine ⟨m,hm,fun h' hs'=>⟨.ref D,H',?_,rfl,q⟩⟩
 exact I'.turned (t':=s'.toks) (fun b o hb e=>(hs'.2 b hb).trans e) f'.1 f'.2.1 f'.2.2.2.1 f'.2.2.2.2.1 f'.2.2.2.2.2
def tSetComp (i:Nat)(te:TE):TS:=fun D σ H=>te σ H fun x H1=>D.nx (σ.set i (some x)) H1
theorem ps_setComp {i:Nat}{x:Str}{px spos:Pos}(hc:X.calm=true)(O:COk X sc cap)(hN:X.N.Nodup)(hix:X.N[i]?=some x)(hx:Loc X.env.scope x)(hi:PI X tg iter wi)(hg:∀ fp s H,PG (cxC X sc T cap fp s H) tg g)(hifs:∀ fp s H,PIfs (cxC X sc T cap fp s H) ifs tc)
  (helt:∀ fp s H,PE (cxC X sc T cap fp s H) elt te) (hsw:swapsWith (.ListComp elt [⟨tg,iter,ifs,0⟩] sc pos) (some (.Name x px)) spos.line X.env=pure true:=by rfl)
  (hf:X.fn x=true∨X.env.scope.names.lookup x=some .local:=by first | exact .inl rfl | exact .inr rfl | assumption)
  (hs:∀ x,foldedSetIterable iter X.env x=pure x:=by intro _; rfl):PS X (.Assign [.Name x px] (.ListComp elt [⟨tg,iter,ifs,0⟩] sc pos) spos) (tSetComp i (tComp wi T.length cap g tc te)):=by
 intro pins s σ H D I h
 rw [exec_Assign_Name_used _ _ _ _ hsw]
 refine wpAny_bind (wpAny_standAt (wpAny_bind ?_))
 show wpAny _ X.A (do let _ ← comprehension (.ListComp elt [⟨tg,iter,ifs,0⟩] sc pos) sc X.env _ (newList []) false (eval iter X.env) (some (assign (.Name x px) X.env))) _ _ s
 refine wpAny_bind (wpAny_mono (wpAny_comprehension_free (use:=some (assign (.Name x px) X.env)) (Q:=fun _ s'=>SP X pins D .next s') rfl hs (closure_eq (O.cells I.ok)) O.kind O.loc
  (wpAny_mono (hi pins s σ H _ I h) (fun v s1 h1=>wpAny_mono h1 (fun itv s2 h2=>?_) fun _ _ e=>e) fun _ _ e=>e)) (fun _ s' hq=>wpAny_pure (wpAny_pure hq)) fun _ _ e=>e)
 obtain ⟨it,fp,tn,J,H2,e,I2,Tn,st2,f2,R⟩:=h2
 subst e
 refine comp_core (RR:=fun acc C=>compPost (model X.prog X.w) X.A X.xe (some (assign (.Name x px) X.env)) (fun _ s'=>SP X pins D .next s') acc C) hc O hg hifs helt I2 Tn st2 f2 R fun Dl C s' H' I' f' hm q=>?_
 obtain ⟨m,hm⟩:=hm
 show wpAny _ X.A (assign (.Name x px) X.env (.ref Dl)) _ _ s'
 refine wpAny_assign_Name (store_ok2 (v:=.ref Dl) I' hN hix hx rfl (fun s'' I'' hsb=>?_) hf)
 obtain ⟨a,hsb,ha⟩:=hsb
 have hCa:C≠a:=by
  rcases ha with z | z
  ·rw [z]; exact f'.2.1
  ·exact fun e=>f'.2.2.2.2.1 x a z e.symm
 refine ⟨m,hm.sameBut hsb hCa,fun h' hs'=>⟨_,H',?_,q⟩⟩
 exact I''.turned (t':=s''.toks) (fun b o hb e=>(hs'.2 b hb).trans e) f'.1 f'.2.1 f'.2.2.2.1 f'.2.2.2.2.1 f'.2.2.2.2.2
end
structure ItOf (J:It)(xs:List V)(Ok:Hp→Prop):Prop where
 go:∀ i H,Ok H→i<xs.length→J.go i H
 yld:∀ i H x H',Ok H→i<xs.length→J.yld i H x H'→H'=H∧xs[i]?=some x
 stop:∀ i H,Ok H→xs.length≤i→J.stop i H
theorem itl {K:PySem.W.Frag}{a:Addr}{xs:List V}:ItOf (Itl K a) xs (fun H=>SqL K H a xs) :=
 ⟨fun i _ h l=>⟨xs,xs[i],h,List.getElem?_eq_getElem l⟩,fun _ _ _ _ h _ y=>⟨y.1,y.2 xs h⟩,fun _ _ h l=>⟨xs,h,l⟩⟩
def rngV (lo:Int)(n:Nat):List V:=(List.range n).map fun (i:Nat)=>V.int (lo+(i:Int))
theorem rngV_length (lo:Int)(n:Nat):(rngV lo n).length=n:=by unfold rngV; rw [List.length_map,List.length_range]
theorem rngV_get {lo:Int}{n i:Nat}(h:i<n):(rngV lo n)[i]?=some (.int (lo+(i:Int))):=by
 unfold rngV
 rw [List.getElem?_map,List.getElem?_range h]
 rfl
theorem itr {lo:Int}{n:Nat}:ItOf (Itr lo n) (rngV lo n) (fun _=>True) where
 go:=fun i H _ l=>by
  rw [rngV_length] at l
  exact l
 yld:=fun i H x H' _ l y=>by
  rw [rngV_length] at l
  refine ⟨y.1,?_⟩
  rw [rngV_get l,y.2]
 stop:=fun i H _ l=>by
  rw [rngV_length] at l
  exact l
theorem CmpR.map {cap:List Nat}{te:TE}{J:It}{σ:L2.St}{H:Hp}{Q:VK}{xs:List V}{Ok:Hp→Prop}(f:V→V)(it:ItOf J xs Ok)(hz:xs.length≤1000)(ok:∀ D ys,H D=none→Ok (upd H D (.lst ys)))
  (hs:∀ D x ys (Q':VK),H D=none→x∈xs→Q' (f x) (upd H D (.lst ys))→te (some x::cap.map fun i=>σ.getD i none) (upd H D (.lst ys)) Q')
  (hd:∀ D,H D=none→Q (.ref D) (upd H D (.lst (xs.map f)))):CmpR 1 cap (gName 0) tYes te J σ H Q:=by
 intro D hD
 refine ⟨fun i m σ' H'=>m=xs.length - i∧i≤xs.length∧∃ t,σ'=t::(cap.map fun i=>σ.getD i none)∧H'=upd H D (.lst ((xs.take i).map f)),⟨_,rfl,Nat.zero_le _,none,rfl,rfl⟩,fun i m σ' H' hw=>?_⟩
 obtain ⟨rfl,hi,t,rfl,rfl⟩:=hw
 by_cases lt:i<xs.length
 ·refine .inr ⟨it.go i _ (ok D _ hD) lt,fun σ2 H2=>∃ t,σ2=t::(cap.map fun i=>σ.getD i none)∧H2=upd H D (.lst ((xs.take (i+1)).map f)),fun σ2 H2 n2=>⟨_,?_,rfl,lt,n2⟩,fun x H2 y=>?_⟩
  ·omega
  ·obtain ⟨rfl,hx⟩:=it.yld i _ x H2 (ok D _ hD) lt y
   show te (some x::(cap.map fun i=>σ.getD i none)) _ _
   refine hs D x _ _ hD (List.mem_of_getElem? hx) ⟨_,qe,?_,_,rfl,?_⟩
   ·rw [List.length_map,List.length_take]
    exact qs1 (by omega)
   ·rw [upd_upd,List.take_add_one,hx,List.map_append]
    rfl
 ·obtain rfl:i=xs.length:=by omega
  refine .inl ⟨it.stop _ _ (ok D _ hD) (Nat.le_refl _),?_⟩
  rw [List.take_length]
  exact hd D hD
theorem CmpR.mapS {cap:List Nat}{te:TE}{J:It}{σ:L2.St}{H:Hp}{Q:VK}{xs:List V}{Ok:Hp→Prop}(f:V→V)(it:ItOf J xs Ok)(hz:xs.length≤1000)(ok:∀ H',Same H H'→Ok H')
  (hs:∀ x H' (Q':VK),x∈xs→Same H H'→(∀ H2,Same H' H2→Q' (f x) H2)→te (some x::cap.map fun i=>σ.getD i none) H' Q')
  (hd:∀ D H',H D=none→Same H H'→H' D=some (.lst (xs.map f))→Q (.ref D) H'):CmpR 1 cap (gName 0) tYes te J σ H Q:=by
 intro D hD
 have keep:∀ {H':Hp} {o:HO},Same H H'→Same H (upd H' D o):=fun sm b o e=>by
  rw [qu0 (qy0 e hD)]
  exact sm b o e
 refine ⟨fun i m σ' H'=>m=xs.length - i∧i≤xs.length∧∃ t,σ'=t::(cap.map fun i=>σ.getD i none)∧Same H H'∧H' D=some (.lst ((xs.take i).map f)),⟨_,rfl,Nat.zero_le _,none,rfl,keep (Same.refl _),qe⟩,fun i m σ' H' hw=>?_⟩
 obtain ⟨rfl,hi,t,rfl,sm,hl⟩:=hw
 by_cases lt:i<xs.length
 ·refine .inr ⟨it.go i _ (ok _ sm) lt,fun σ2 H2=>∃ t,σ2=t::(cap.map fun i=>σ.getD i none)∧Same H H2∧H2 D=some (.lst ((xs.take (i+1)).map f)),fun σ2 H2 n2=>⟨_,?_,rfl,lt,n2⟩,fun x H2 y=>?_⟩
  ·omega
  ·obtain ⟨rfl,hx⟩:=it.yld i _ x H2 (ok _ sm) lt y
   show te (some x::(cap.map fun i=>σ.getD i none)) _ _
   refine hs x H2 _ (List.mem_of_getElem? hx) sm fun H3 s3=>⟨_,s3 _ _ hl,?_,_,rfl,keep (sm.trans s3),?_⟩
   ·rw [List.length_map,List.length_take]
    exact qs1 (by omega)
   ·rw [qe,List.take_add_one,hx,List.map_append]
    rfl
 ·obtain rfl:i=xs.length:=by omega
  refine .inl ⟨it.stop _ _ (ok _ sm) (Nat.le_refl _),?_⟩
  rw [List.take_length] at hl
  exact hd D H' hD sm hl
section
variable {wi:TI}{nT:Nat}{cap:List Nat}{g:TG}{tc:TT}{te:TE}{σ:L2.St}{H:Hp}{Q:VK}{D:Ends}{i:Nat}{Qb:Bool→Hp→Prop}
theorem comp_:tComp wi nT cap g tc te σ H Q=wi σ H fun J H1=>CmpR nT cap g tc te J σ H1 Q:=rfl
theorem setComp_:tSetComp i te D σ H=te σ H fun x H1=>D.nx (σ.set i (some x)) H1:=rfl
theorem yes_:tYes σ H Qb=Qb true H:=rfl
end
def ItR (K:PySem.W.Frag)(x:V)(H:Hp)(R:It→Hp→Prop):Prop:=∃ a,x=.ref a∧(∃ xs,SqT K H a xs)∧R (Itt K a) H
theorem ItR.go {K:PySem.W.Frag}{a:Addr}{xs:List V}{H:Hp}{R:It→Hp→Prop}(h:SqT K H a xs)(q:R (Itt K a) H):ItR K (.ref a) H R:=⟨a,rfl,⟨xs,h⟩,q⟩
theorem ForR.items {J:It}{xs:List V}{Ok:Hp→Prop}{g:TG}{tb:TS}{D:Ends}{σ:L2.St}{H:Hp}(it:ItOf J xs Ok)(Pv:Nat→L2.St→Hp→Prop)(h0:Pv 0 σ H)(hok:∀ i σ H,Pv i σ H→Ok H)
  (hs:∀ i x σ H,xs[i]?=some x→Pv i σ H→g x σ H fun σ2 H2=>tb { D with nx:=Pv (i+1),ct:=Pv (i+1),bk:=D.nx } σ2 H2) (hd:∀ σ H,Pv xs.length σ H→D.nx σ H):ForR J g tb D σ H:=by
 refine ⟨fun i m σ H=>m=xs.length - i∧i≤xs.length∧Pv i σ H,⟨_,rfl,Nat.zero_le _,h0⟩,fun i m σ H hw=>?_⟩
 obtain ⟨rfl,hi,p⟩:=hw
 by_cases lt:i<xs.length
 ·refine .inr ⟨it.go i H (hok i σ H p) lt,Pv (i+1),fun σ' H' p'=>⟨_,?_,rfl,lt,p'⟩,fun x H' y=>?_⟩
  ·omega
  ·obtain ⟨rfl,hx⟩:=it.yld i H x H' (hok i σ H p) lt y
   exact hs i x σ H' hx p
 ·obtain rfl:i=xs.length:=by omega
  exact .inl ⟨it.stop _ _ (hok _ _ _ p) (Nat.le_refl _),hd σ H p⟩
def Itc (z:Str):It:=⟨fun i _=>i<z.cps.size,fun i H x H'=>H'=H∧∃ c,z.cps[i]?=some c∧x=.str ⟨#[c]⟩,fun i _=>z.cps.size≤i⟩
def IsR (x:V)(H:Hp)(R:It→Hp→Prop):Prop:=∃ z,x=.str z∧R (Itc z) H
theorem IsR.go {z:Str}{H:Hp}{R:It→Hp→Prop}(q:R (Itc z) H):IsR (.str z) H R:=⟨z,rfl,q⟩
end Sv
namespace Sv
open PySem PySem.Spec PyProof.Rows L2
open PySem.Builtin PySem.Builtin.Str
section
variable {X:Cx}
theorem all_get:∀ bs:List Bool,(List.range bs.length).all (fun i=>bs.getD i false)=bs.all id:=fun bs=>by
 rw [Bool.eq_iff_iff,List.all_eq_true,List.all_eq_true]
 constructor
 ·intro h x hx
  obtain ⟨i,hi,e⟩:=List.mem_iff_getElem.mp hx
  have q:=h i (List.mem_range.mpr hi)
  rw [List.getD_eq_getElem?_getD,List.getElem?_eq_getElem hi] at q
  rw [← e]
  exact q
 ·intro h i hi
  have hi':=List.mem_range.mp hi
  rw [List.getD_eq_getElem?_getD,List.getElem?_eq_getElem hi']
  exact h _ (List.getElem_mem hi')
def rAll (K:PySem.W.Frag):List V→Hp→VK→Prop:=fun xs H Q=>∃ (a:Addr) (bs:List Bool),xs=[.ref a]∧SqL K H a (bs.map V.bl)∧Q (.bl (bs.all id)) H
theorem call_all (hc:X.calm=true):CallR X (.builtin "all") (rAll X.K):=by
 intro pins s σ H xs us Q I r h
 obtain ⟨a,bs,rfl,hq,q⟩:=h
 obtain ⟨u,rfl,ru⟩:=r.one
 obtain rfl:u=Value.ref a:=ru
 obtain ⟨its,rv,p,hz⟩:=I.list hq
 have hl:bs.length=its.length:=by
  have:=rv.length
  rw [List.length_map] at this
  exact this
 have ha:a<s.heap.objs.size:=by
  obtain ⟨o,n,e,_⟩:=p
  exact Heap.lt_size e
 refine call_all_walk (wpAny_pyIter_list p.isList ?_)
 refine ⟨s.heap.objs.size,[s.heap.objs.size,a],[s.heap.objs.size],its.toArray.size,_,_,fun i=>bs.getD i false,rfl,Walks.list (A:=X.A.in1) (I.ok.hd hc) _ a (Nat.ne_of_lt ha) its.toArray,⟨⟨_,Heap.get?_push_size _ rfl,rfl,rfl⟩,?_⟩,?_,fun h' tk k=>?_⟩
 ·obtain ⟨o,n,e,c,_,d⟩:=p
  exact ⟨o,Heap.get?_push_of_some _ e,c,n,d⟩
 ·intro i v s' Q' E' hp hQ
  have hv:its[i]?=some v:=by simpa using hp
  have hi:i<bs.length:=by
   rw [hl]
   exact (List.getElem?_eq_some_iff.mp hv).1
  obtain ⟨u,hu,ru⟩:=rv.get (i:=i) (x:=V.bl bs[i]) (by rw [List.getElem?_map,List.getElem?_eq_getElem hi]; rfl)
  rw [hv] at hu
  cases hu
  obtain rfl:v=Value.bool bs[i]:=ru
  refine wpAny_truthy_bool ?_
  have hQ':Q' (bs.getD i false) s':=hQ
  rw [List.getD_eq_getElem?_getD,List.getElem?_eq_getElem hi] at hQ'
  exact hQ'
 ·refine ⟨.bl (bs.all id),H,I.kept (t':=tk) fun b o e=>k b o (fun z=>?_) (Heap.get?_push_of_some _ e),?_,q⟩
  ·have:=Heap.lt_size e
   rw [List.mem_singleton.mp z] at this
   exact absurd this (Nat.lt_irrefl _)
  ·show Value.bool _=Value.bool _
   rw [List.size_toArray,← hl,all_get]
theorem all_go {K:PySem.W.Frag}{a:Addr}{bs:List Bool}{H:Hp}{Q:VK}(h:SqL K H a (bs.map V.bl))(q:Q (.bl (bs.all id)) H):rAll K [.ref a] H Q:=⟨a,bs,rfl,h,q⟩
def rCatQ (K:PySem.W.Frag):R2:=fun x y H Q=>∃ l b xs zs,x=.ref l∧y=.ref b∧SqL K H l xs∧SqL K H b zs∧xs.length+zs.length≤sizeLine∧∀ p,H p=none→Q (.ref p) (upd H p (.lst (xs++zs)))
theorem op_catQ:OpR X (binaryOp .Add) (rCatQ X.K):=by
 intro pins s σ H x y v u Q I rx ry h
 obtain ⟨l,b,xs,zs,rfl,rfl,h1,h2,hz,q⟩:=h
 cases rx
 cases ry
 obtain ⟨its,r,p,_⟩:=I.list h1
 obtain ⟨its2,r2,p2,_⟩:=I.list h2
 obtain ⟨⟨c,d,dt,sl⟩,n,e,hc,hd,hdt⟩:=p
 obtain ⟨⟨c2,d2,dt2,sl2⟩,n2,e2,hc2,hd2,hdt2⟩:=p2
 simp only at hc hd hdt hc2 hd2 hdt2
 subst hc hd hdt hc2 hd2 hdt2
 have l1:=r.length
 have l2:=r2.length
 refine concat_meets ⟨_,e,rfl⟩ ⟨_,e2,rfl⟩ noFill_list_add seq_list_add PySem.F.slot_list_add PySem.F.entry_list_add (PySem.F.args_list_add_2 _ _) (list_addW l b its.toArray its2.toArray n n2 none none sl sl2 (by rw [List.size_toArray,List.size_toArray]; omega)) ⟨e,e2,?_⟩
 have ea:its.toArray++its2.toArray=(its++its2).toArray:=by simp
 rw [ea]
 exact ⟨.ref _,_,I.lnew (t':=s.toks) (r.append r2) (by rw [List.length_append]; omega),rfl,q _ I.fresh⟩
theorem catQ_go {K:PySem.W.Frag}{l b:Addr}{xs zs:List V}{H:Hp}{Q:VK}(h1:SqL K H l xs)(h2:SqL K H b zs)(hz:xs.length+zs.length≤1000000)(q:∀ p,H p=none→Q (.ref p) (upd H p (.lst (xs++zs)))):rCatQ K (.ref l) (.ref b) H Q :=
 ⟨l,b,xs,zs,rfl,rfl,h1,h2,Nat.le_trans hz (by decide),q⟩
end
end Sv
namespace Sv
open PySem PySem.Spec PyProof.Rows L2
def Chn:List (Addr×Obj)→Value→Prop
 | [],v=>v=.none
 | p::l,v=>v=.ref p.1∧∃ (ws:Array Value) (c:Value),p.2.data=.fields ws∧ws[2]?=some c∧Chn l c
def Ctx2 (B:Heap)(U:Addr→Prop)(vs:Array Value):Prop:=∃ (c:Value) (l:List (Addr×Obj)),vs[2]?=some c∧Chn l c∧∀ p∈l,B.get? p.1=some p.2∧U p.1
theorem Ctx2.no {B:Heap}{U:Addr→Prop}{vs:Array Value}(h:vs[2]?=some .none):Ctx2 B U vs:=⟨_,[],h,rfl,fun _ z=>nomatch z⟩
section
variable {M:Model}{A:Around}{E:Value→Shared→Prop}{s:Shared}{B:Heap}{U:Addr→Prop}{env:Env}{outer:List Env}{L e:Addr}{cls:Value}{dd:Option Addr}{Q:Unit→Shared→Prop}
end
end Sv
namespace Sv
open PySem PySem.Spec PyProof.Rows L2
theorem obj_there {P:Program}{w:World}{H:Hp}{h:Heap}{a:Addr}{o:HO}(x:ObjOk P w H h a o):∃ ob,h.get? a=some ob:=by
 cases o with
 | lst xs=>obtain ⟨_,_,_,_,e⟩:=x; exact ⟨_,e⟩
 | tup xs=>obtain ⟨_,_,_,ob,e,_⟩:=x; exact ⟨ob,e⟩
 | dK kvs=>obtain ⟨_,_,_,_,ob,_,_,e,_⟩:=x; exact ⟨ob,e⟩
 | dT kvs=>obtain ⟨_,_,_,_,ob,_,_,e,_⟩:=x; exact ⟨ob,e⟩
 | set S n=>obtain ⟨ob,_,_,_,e,_⟩:=x; exact ⟨ob,e⟩
 | ins C dx fs=>obtain ⟨_,_,_,e,_⟩:=x; exact ⟨_,e⟩
 | own y=>exact x
 | xd fs=>obtain ⟨_,⟨ob,_,_,e,_⟩,_⟩:=x; exact ⟨ob,e⟩
 | rng lo hi=>obtain ⟨_,_,_,e⟩:=x; exact ⟨_,e⟩
 | frz ob u=>exact ⟨ob,x.1⟩
 | tbl ps=>exact ⟨_,x⟩
 | met f y=>exact ⟨_,x⟩
 | ext φ=>exact x.2.1
structure DefCx (X:Cx):Prop where
 stk:X.stack=X.env::X.outer
 frm:X.env.frame=some X.env.locals
 ex:X.ex=[]
section
variable {X:Cx}{E:XK}{pins:List (Addr×Obj)}{σ:L2.St}{H:Hp}{s s':Shared}{h' B:Heap}
end
structure ExcC (K:PySem.W.Frag)(mg:Str→Option Value)(x:Str)(C:Addr):Prop where
 mg:mg x=some (.ref C)
 own:∃ (Bn newId initId:String) (bm:List Value),ExcBaseFacts Bn newId initId bm∧PySem.W.excIn K C bm newId=true
theorem ExcC.cls {K:PySem.W.Frag}{mg:Str→Option Value}{x:Str}{C:Addr}{h:Heap}(O:ExcC K mg x C)(kin:K.In h):∃ (Bn newId initId:String) (bm:List Value),ExcBaseFacts Bn newId initId bm∧OwnCls x C bm newId mg h:=by
 obtain ⟨Bn,newId,initId,bm,F,q⟩:=O.own
 refine ⟨Bn,newId,initId,bm,F,O.mg,?_⟩
 unfold PySem.W.excIn at q
 split at q
 ·rename_i dd cd sl ho
  split at q
  ·rename_i C' tl k0 k1 k2 k3 n k5 hm hs
   simp only [Bool.and_eq_true,beq_iff_eq,Bool.not_eq_true'] at q
   obtain ⟨⟨⟨⟨⟨rfl,rfl⟩,hdel⟩,ht⟩,hok⟩,hni⟩:=q
   obtain ⟨nm,bs,mro,ns,qn,hd,sn,sub,ab,col,del⟩:=cd
   dsimp only at hm hdel hok hni
   subst hm hdel
   have hsl:sl=#[k0,k1,k2,k3,some (.builtin n),k5]:=by
    obtain ⟨l⟩:=sl
    simp only at hs
    rw [hs]
   subst hsl
   exact ⟨tl,ns,nm,qn,bs,hd,sn,sub,ab,col,dd,k0,k1,k2,k3,k5,_,kin _ _ ho,.of_isNs (PySem.W.isNs_of_in kin hok),PySem.W.nsMap_none_of_in kin hok hni,PySem.W.tail_of_in kin ht⟩
  ·cases q
 ·cases q
end Sv
namespace Sv
open PySem PySem.Spec PyProof.Rows L2
def cxP (X:Cx)(pn:List (Addr×Obj)):Cx:={ X with pn:=pn }
section
variable {X:Cx}{pins pn:List (Addr×Obj)}{σ:L2.St}{H:Hp}{s s':Shared}{xa:Addr}{D:Ends}{f:Flow}
end
def excO (xa:Addr)(cls:Value)(dd:Option Addr):HO:=.ext fun h=>∃ (vs:Array Value) (sl:Array (Option Value)),h.get? xa=some ⟨cls,dd,.fields vs,sl⟩
abbrev RX:=Value→Option Addr→L2.St→Hp→Prop
section
variable {X:Cx}{pins:List (Addr×Obj)}{σ:L2.St}{H:Hp}{s s':Shared}{Rr:RX}
theorem DefCx.p {pn:List (Addr×Obj)}(d:DefCx X):DefCx (cxP X pn):=⟨d.stk,d.frm,d.ex⟩
end
def asEnds (i:Nat)(D:Ends):Ends:={ nx:=fun σ H=>D.nx (σ.set i none) H,rt:=D.rt,bk:=fun σ H=>D.bk (σ.set i none) H,ct:=fun σ H=>D.ct (σ.set i none) H }
section
variable {X:Cx}{body suite:List Stmt}{b₀:Stmt}{x n:Str}{C:Addr}{np hpos pos:Pos}{tb ts:TS}{i:Nat}
end
section
variable {X:Cx}{x:Str}{k j:Nat}{ps:List Str}{sp:Sp}{e:Expr}{es:List Expr}{t:TA}{p pos:Pos}
end
section
variable {prog:Program}{w:World}{A:Around}{E:Value→Shared→Prop}{K:PySem.W.Frag}{x D:Addr}{ox:Obj}{odo:Option Obj}{name:Str}{s:Shared}
end
def jn:List TE→Str→TE
 | [],acc=>fun _ H Q=>Q (.str acc) H
 | t::r,acc=>fun σ H Q=>t σ H fun x H1=>∃ y,x=.str y∧(acc++y).length≤sizeLine∧jn r (acc++y) σ H1 Q
section
variable {X:Cx}{e v₁ v₂:Expr}{es rest:List Expr}{t:TE}{ts:List TE}{pos:Pos}
theorem jn0_ {acc:Str}{σ:L2.St}{H:Hp}{Q:VK}:jn [] acc σ H Q=Q (.str acc) H:=rfl
def JnR (r:List TE)(acc:Str)(σ:L2.St)(Q:VK)(x:V)(H1:Hp):Prop:=∃ y,x=.str y∧(acc++y).length≤sizeLine∧jn r (acc++y) σ H1 Q
theorem jnC_ {acc:Str}{σ:L2.St}{H:Hp}{Q:VK}:jn (t::ts) acc σ H Q=t σ H fun x H1=>JnR ts acc σ Q x H1:=rfl
theorem JnR.go {r:List TE}{acc y:Str}{σ:L2.St}{Q:VK}{H1:Hp}(h:(acc++y).length≤10000000)(q:jn r (acc++y) σ H1 Q):JnR r acc σ Q (.str y) H1:=⟨y,rfl,Nat.le_trans h (by decide),q⟩
def RepR (Q:VK)(x:V)(H1:Hp):Prop:=∃ y,x=.str y∧(reprText y).length≤sizeLine∧Q (.str (reprText y)) H1
theorem RepR.go {y:Str}{Q:VK}{H1:Hp}(h:(reprText y).length≤10000000)(q:Q (.str (reprText y)) H1):RepR Q (.str y) H1:=⟨y,rfl,Nat.le_trans h (by decide),q⟩
def RaR (C:Addr)(E:XK)(vs:List V)(H1:Hp):Prop:=vs.length≤sizeLine∧E (.ref C) none H1
theorem RaR.go {C:Addr}{E:XK}{vs:List V}{H1:Hp}(h:vs.length≤1000)(q:E (.ref C) none H1):RaR C E vs H1:=⟨Nat.le_of_lt (qs1 h),q⟩
theorem asnx_ {i:Nat}{D:Ends}{σ:L2.St}{H:Hp}:(asEnds i D).nx σ H=D.nx (σ.set i none) H:=rfl
theorem asrt_ {i:Nat}{D:Ends}:(asEnds i D).rt=D.rt:=rfl
end
end Sv
namespace Sv
open PySem PySem.Spec PyProof.Rows L2
section
variable {X:Cx}
def steps (c hi:Int):Nat:=(Builtin.Range.rangeSize 0 hi c).toNat
end
section
variable {H:Hp}{Q:VK}{σ:L2.St}{tr:TA}
def RngS (c:Int)(vs:List V)(H:Hp)(R:It→Hp→Prop):Prop:=∃ j:Int,vs=[.int 0,.int j,.int c]∧0≤j∧j<1000000∧R (Its 0 c (steps c j)) H
theorem RngS.go {c j:Int}{R:It→Hp→Prop}(h1:0≤j)(h2:j<1000000)(q:R (Its 0 c (steps c j)) H):RngS c [.int 0,.int j,.int c] H R:=⟨j,rfl,h1,h2,q⟩
theorem rEqB_ {i j:Bool}:rEq (.bl i) (.bl j) H Q=Q (.bl (decide (i=j))) H:=by
 unfold rEq
 have e:(V.bl i=V.bl j)=(i=j):=propext ⟨fun h=>V.bl.inj h,fun h=>by rw [h]⟩
 simp only [e]
 exact propext ⟨fun h=>h.2,fun h=>⟨rfl,h⟩⟩
theorem _root_.L2.Same.seqT {K:PySem.W.Frag}{H H':Hp}{a:Addr}{xs:List V}(e:Same H H')(h:SqT K H a xs):SqT K H' a xs:=by
 rcases h with (h | ⟨o,h⟩) | h
 ·exact .inl (.inl (e _ _ h))
 ·exact .inl (.inr ⟨o,e _ _ h⟩)
 ·exact .inr h
end
theorem ix_tupK {X:Cx}{K:PySem.W.Frag}(h:X.K=K):IxR X (rIxT K):=h▸qm
def IntB:List V→Hp→VK→Prop:=fun xs H Q=>∃ k,xs=[.bl k]∧Q (.int (if k=true then 1 else 0)) H
theorem call_intB {X:Cx}:CallR X (.type "int") IntB:=fun pins s σ H xs us Q I r h=>call_int1 pins s σ H xs us Q I r (.inr h)
theorem IntB.go {b:Bool}{H:Hp}{Q:VK}(q:Q (.int (if b=true then 1 else 0)) H):IntB [.bl b] H Q:=⟨b,rfl,q⟩
end Sv
namespace Sv
open PySem PySem.Spec PyProof.Rows L2
section
variable {X:Cx}
end
theorem shaped_of {d:PyData}(h1:d.canLay0=true)(h2:d.depth≤64):SeqAt.shaped d=true:=by
 unfold SeqAt.shaped
 rw [h1,decide_eq_true h2]
 rfl
theorem qb2 {α:Type}(g:α→PyData)(h:∀ x,(g x).canLay0=true):∀ xs:List α,PyData.canLayAll0 (xs.map g)=true
 | []=>by simp [PyData.canLayAll0]
 | x::xs=>by rw [List.map_cons,PyData.canLayAll0.eq_2,h x,qb2 g h xs]; rfl
theorem qk1 {α:Type}(g:α→PyData){n:Nat}(h:∀ x,(g x).depth≤n):∀ xs:List α,PyData.depthAll (xs.map g)≤n
 | []=>by simp [PyData.depthAll]
 | x::xs=>by
  rw [List.map_cons,PyData.depthAll.eq_2]
  exact Nat.max_le.mpr ⟨h x,qk1 g h xs⟩
def pairD (b:Int×Int):PyData:=.tuple [.int b.1,.int b.2]
def boxD (bs:List (Int×Int)):PyData:=.tuple (bs.map pairD)
def pointD (ns:List Int):PyData:=.tuple (ns.map .int)
theorem pairD_lay (b:Int×Int):(pairD b).canLay0=true:=by simp [pairD,PyData.canLay0,PyData.canLayAll0]
theorem pairD_deep (b:Int×Int):(pairD b).depth≤2:=by simp [pairD,PyData.depth,PyData.depthAll]
theorem intD_lay (n:Int):(PyData.int n).canLay0=true:=by simp [PyData.canLay0]
theorem intD_deep (n:Int):(PyData.int n).depth≤2:=by simp [PyData.depth]
theorem boxD_lay (bs:List (Int×Int)):(boxD bs).canLay0=true:=by
 have:=qb2 pairD pairD_lay bs
 simp [boxD,PyData.canLay0,this]
theorem boxD_deep (bs:List (Int×Int)):(boxD bs).depth≤3:=by
 have:=qk1 pairD pairD_deep bs
 simp only [boxD,PyData.depth]
 omega
theorem boxD_shaped (bs:List (Int×Int)):SeqAt.shaped (boxD bs)=true:=shaped_of (boxD_lay bs) (Nat.le_trans (boxD_deep bs) (by decide))
theorem qr0 (ns:List Int):SeqAt.shaped (pointD ns)=true:=by
 have a:=qb2 PyData.int intD_lay ns
 have b:=qk1 PyData.int intD_deep ns
 exact shaped_of (by simp [pointD,PyData.canLay0,a]) (by simp only [pointD,PyData.depth]; omega)
theorem eqvAll_of {α:Type}(g:α→PyData)(h:∀ x y,PyData.eqv (g x) (g y)=true↔x=y):∀ xs ys:List α,PyData.eqvAll (xs.map g) (ys.map g)=true↔xs=ys
 | [],[]=>by simp [PyData.eqvAll]
 | [],y::ys=>by simp [PyData.eqvAll]
 | x::xs,[]=>by simp [PyData.eqvAll]
 | x::xs,y::ys=>by
  rw [List.map_cons,List.map_cons]
  simp only [PyData.eqvAll,Bool.and_eq_true,h x y,eqvAll_of g h xs ys,List.cons.injEq]
theorem pair_eqv (b c:Int×Int):PyData.eqv (pairD b) (pairD c)=true↔b=c:=by
 obtain ⟨a,b⟩:=b
 obtain ⟨c,d⟩:=c
 simp [pairD,PyData.eqv,PyData.eqvAll]
theorem box_eqv (bs cs:List (Int×Int)):PyData.eqv (boxD bs) (boxD cs)=true↔bs=cs:=by
 have:=eqvAll_of pairD pair_eqv bs cs
 simpa [boxD,PyData.eqv] using this
theorem qx1 (ns ms:List Int):PyData.eqv (pointD ns) (pointD ms)=true↔ns=ms:=by
 have:=eqvAll_of PyData.int (fun x y=>by simp [PyData.eqv]) ns ms
 simpa [pointD,PyData.eqv] using this
inductive Strs (H:Hp):List V→List (Int×Int)→Prop where
 | nil:Strs H [] []
 | cons {a:Addr} {lo hi:Int} {vs:List V} {bs:List (Int×Int)} (h:H a=some (.tup [.int lo,.int hi])) (t:Strs H vs bs):Strs H (.ref a::vs) ((lo,hi)::bs)
section
variable {H H':Hp}{vs ws:List V}{bs cs:List (Int×Int)}{p a:Addr}
theorem Strs.len (h:Strs H vs bs):vs.length=bs.length:=by
 induction h with
 | nil=>rfl
 | cons _ _ ih=>rw [List.length_cons,List.length_cons,ih]
theorem Strs.mono (h:Strs H vs bs)(k:∀ a xs,H a=some (.tup xs)→H' a=some (.tup xs)):Strs H' vs bs:=by
 induction h with
 | nil=>exact .nil
 | cons h _ ih=>exact .cons (k _ _ h) ih
theorem Strs.same (h:Strs H vs bs)(s:Same H H'):Strs H' vs bs:=h.mono fun a xs e=>s _ _ e
theorem Strs.upd {xs:List V}{o:HO}(h:Strs H vs bs)(e:H p=some (.lst xs)):Strs (upd H p o) vs bs:=h.mono fun a ys q=>by
 have n:a≠p:=fun z=>by rw [z,e] at q; cases q
 rw [qu0 n]
 exact q
theorem Strs.at {i:Nat}{x:V}(h:Strs H vs bs)(e:vs[i]?=some x):∃ a lo hi,x=.ref a∧bs[i]?=some (lo,hi)∧H a=some (.tup [.int lo,.int hi]):=by
 induction h generalizing i with
 | nil=>cases e
 | cons h _ ih =>
  cases i with
  | zero =>
   cases e
   exact ⟨_,_,_,rfl,rfl,h⟩
  | succ j=>exact ih e
theorem Strs.take {n:Nat}(h:Strs H vs bs):Strs H (vs.take n) (bs.take n):=by
 induction h generalizing n with
 | nil=>rw [List.take_nil,List.take_nil]; exact .nil
 | cons h _ ih =>
  cases n with
  | zero=>exact .nil
  | succ m=>exact .cons h ih
theorem Strs.drop {n:Nat}(h:Strs H vs bs):Strs H (vs.drop n) (bs.drop n):=by
 induction h generalizing n with
 | nil=>rw [List.drop_nil,List.drop_nil]; exact .nil
 | cons h t ih =>
  cases n with
  | zero=>exact .cons h t
  | succ m=>exact ih
theorem Strs.dts (h:Strs H vs bs):Dts H vs (bs.map pairD):=by
 induction h with
 | nil=>exact .nil
 | cons h _ ih=>exact .cons (.tup (.inl h) (.cons (.int _) (.cons (.int _) .nil))) ih
theorem ints_dts (H:Hp):∀ ns:List Int,Dts H (ns.map V.int) (ns.map PyData.int)
 | []=>.nil
 | n::ns=>.cons (.int n) (ints_dts H ns)
def IsBox (H:Hp)(p:Addr)(bs:List (Int×Int)):Prop:=∃ vs,H p=some (.tup vs)∧Strs H vs bs
def IsPt (H:Hp)(p:Addr)(ns:List Int):Prop:=H p=some (.tup (ns.map V.int))
theorem IsBox.same (h:IsBox H p bs)(s:Same H H'):IsBox H' p bs:=by
 obtain ⟨vs,e,t⟩:=h
 exact ⟨vs,s _ _ e,t.same s⟩
theorem IsPt.same {ns:List Int}(h:IsPt H p ns)(s:Same H H'):IsPt H' p ns:=s _ _ h
theorem IsBox.dt (h:IsBox H p bs):Dt H (.ref p) (boxD bs):=by
 obtain ⟨vs,e,t⟩:=h
 exact .tup (.inl e) t.dts
theorem IsPt.dt {ns:List Int}(h:IsPt H p ns):Dt H (.ref p) (pointD ns):=.tup (.inl h) (ints_dts H ns)
theorem _root_.L2.Same.put {o:HO}(s:Same H H')(h:H p=none):Same H (upd H' p o):=fun b u e=>by
 rw [qu0 (qy0 e h)]
 exact s b u e
end
section
variable {X:Cx}{H:Hp}{Q:VK}{p:Addr}{ys:List V}{K:PySem.W.Frag}
def LstOf (K:PySem.W.Frag):List V→Hp→VK→Prop:=fun xs H Q=>∃ p ys,xs=[.ref p]∧(SqL K H p ys∨SqT K H p ys)∧∀ l,H l=none→Q (.ref l) (upd H l (.lst ys))
theorem call_listR:CallR X (.type "list") (LstOf X.K):=call_list_of
theorem LstOf.lst (h:SqL K H p ys)(q:∀ l,H l=none→Q (.ref l) (upd H l (.lst ys))):LstOf K [.ref p] H Q:=⟨p,ys,rfl,.inl h,q⟩
end
end Sv
namespace Sv
open PySem L2
theorem Strs.mem {H:Hp}{vs:List V}{bs:List (Int×Int)}{x:V}(h:Strs H vs bs)(e:x∈vs):∃ a lo hi,x=.ref a∧(lo,hi)∈bs∧H a=some (.tup [.int lo,.int hi]):=by
 obtain ⟨i,hi⟩:=List.getElem?_of_mem e
 obtain ⟨a,lo,hi',e1,e2,e3⟩:=h.at hi
 exact ⟨a,lo,hi',e1,List.mem_of_getElem? e2,e3⟩
end Sv
namespace Sv
open PySem L2
section
variable {K:PySem.W.Frag}{H:Hp}{Q:VK}{p r:Addr}{bs cs:List (Int×Int)}{ns:List Int}{i:Nat}
def meetOf (b c:Int×Int):Int×Int:=(max b.1 c.1,min b.2 c.2)
def full (b:Int×Int):Bool:=decide (b.1≤b.2)
def meets (bs cs:List (Int×Int)):List (Int×Int):=List.zipWith meetOf bs cs
def bothOf (bs cs:List (Int×Int)):Option (List (Int×Int)):=if (meets bs cs).all full=true then some (meets bs cs) else none
def liesIn (b:Int×Int)(n:Int):Bool:=decide (b.1≤n) && decide (n≤b.2)
def inBox (bs:List (Int×Int))(ns:List Int):Bool:=(List.zipWith liesIn bs ns).all id
end
end Sv
namespace Sv
open PySem L2
theorem qp1 {b:Bool}{c:Prop} [Decidable c](h:b=true↔c):b=decide c:=by
 rw [Bool.eq_iff_iff,h,decide_eq_true_iff]
theorem eqB_go {H:Hp}{Q:VK}{p r:Addr}{bs cs:List (Int×Int)}(h:IsBox H p bs)(h':IsBox H r cs)(q:Q (.bl (decide (bs=cs))) H):rEqD false (.ref p) (.ref r) H Q:=by
 refine ⟨boxD bs,boxD cs,h.dt,h'.dt,boxD_shaped _,boxD_shaped _,?_⟩
 rw [if_neg Bool.false_ne_true,qp1 (box_eqv bs cs)]
 exact q
theorem eqN_go {H:Hp}{Q:VK}{r:Addr}{cs:List (Int×Int)}(h':IsBox H r cs)(q:Q (.bl false) H):rEqD false .non (.ref r) H Q:=by
 refine ⟨.none,boxD cs,.non,h'.dt,by decide,boxD_shaped _,?_⟩
 rw [if_neg Bool.false_ne_true,show PyData.eqv .none (boxD cs)=false by simp [boxD,PyData.eqv]]
 exact q
end Sv
namespace Sv
open PySem L2
def BothV (H:Hp)(bs cs:List (Int×Int))(v:V):Prop:=(v=.non∧bothOf bs cs=none)∨∃ x ds,v=.ref x∧bothOf bs cs=some ds∧IsBox H x ds
theorem BothV.same {H H':Hp}{bs cs:List (Int×Int)}{v:V}(h:BothV H bs cs v)(s:Same H H'):BothV H' bs cs v:=by
 rcases h with h | ⟨x,ds,h1,h2,h3⟩
 ·exact .inl h
 ·exact .inr ⟨x,ds,h1,h2,h3.same s⟩
theorem BothV.eqv {H:Hp}{Q:VK}{p:Addr}{bs cs ds:List (Int×Int)}{v:V}(h:BothV H bs cs v)(hp:IsBox H p ds)(q:Q (.bl (decide (bothOf bs cs=some ds))) H):rEqD false v (.ref p) H Q:=by
 rcases h with ⟨rfl,e⟩ | ⟨x,es,rfl,e,hx⟩
 ·rw [e] at q
  exact eqN_go hp q
 ·rw [e,show decide (some es=some ds)=decide (es=ds) by simp] at q
  exact eqB_go hx hp q
end Sv
namespace Sv
open PySem L2
section
variable {K:PySem.W.Frag}{σ:L2.St}{H:Hp}{Q:VK}{p:Addr}{xs:List V}{k:Nat}{r:V→Option Int→Option Int→Hp→VK→Prop}{te:TE}{tl th:TO}{Qo:Option Int→Hp→Prop}
theorem slice_:tSl r te tl th σ H Q=te σ H fun x H1=>tl σ H1 fun l H2=>th σ H2 fun u H3=>r x l u H3 Q:=rfl
theorem nopart_:tNoPart σ H Qo=Qo none H:=rfl
def PartR (x:V)(H:Hp)(Qo:Option Int→Hp→Prop):Prop:=∃ i,x=.int i∧Qo (some i) H
theorem part_:tPart te σ H Qo=te σ H fun x H1=>PartR x H1 Qo:=rfl
theorem PartR.go {i:Int}(q:Qo (some i) H):PartR (.int i) H Qo:=⟨i,rfl,q⟩
theorem cut_take (h:k≤xs.length):cutV xs none (some (k:Int))=xs.take k:=by
 unfold cutV
 rw [HT.sIx_nat,HT.sIx_none,Nat.min_eq_left h,List.drop_zero,Nat.sub_zero]
theorem cut_drop (h:k≤xs.length):cutV xs (some (k:Int)) none=xs.drop k:=by
 unfold cutV
 rw [HT.sIx_nat,HT.sIx_none,Nat.min_eq_left h]
 exact List.take_of_length_le (by rw [List.length_drop]; exact Nat.le_refl _)
theorem slTake_go (h:SqL K H p xs)(hk:k≤xs.length)(q:∀ l,H l=none→Q (.ref l) (upd H l (.lst (xs.take k)))):rSlL K (.ref p) none (some (k:Int)) H Q:=⟨p,xs,rfl,h,by rw [cut_take hk]; exact q⟩
theorem cut_takeA:cutV xs none (some (k:Int))=xs.take k:=by
 by_cases h:k≤xs.length
 ·exact cut_take h
 ·unfold cutV
  rw [HT.sIx_nat,HT.sIx_none,List.drop_zero,Nat.sub_zero,Nat.min_eq_right (by omega),List.take_of_length_le (Nat.le_refl _),List.take_of_length_le (by omega)]
theorem slTakeA_go (h:SqL K H p xs)(q:∀ l,H l=none→Q (.ref l) (upd H l (.lst (xs.take k)))):rSlL K (.ref p) none (some (k:Int)) H Q:=⟨p,xs,rfl,h,by rw [cut_takeA]; exact q⟩
end
inductive Bxs (H:Hp):List V→List (List (Int×Int))→Prop where
 | nil:Bxs H [] []
 | cons {p:Addr} {b:List (Int×Int)} {vs:List V} {bss:List (List (Int×Int))} (h:IsBox H p b) (t:Bxs H vs bss):Bxs H (.ref p::vs) (b::bss)
section
variable {H H':Hp}{vs ws:List V}{bss css:List (List (Int×Int))}{p:Addr}
theorem IsBox.mono {b:List (Int×Int)}(h:IsBox H p b)(k:∀ a xs,H a=some (.tup xs)→H' a=some (.tup xs)):IsBox H' p b:=by
 obtain ⟨vs,e,t⟩:=h
 exact ⟨vs,k _ _ e,t.mono k⟩
theorem upd_tup {xs:List V}{o:HO}(e:H p=some (.lst xs)):∀ a ys,H a=some (.tup ys)→upd H p o a=some (.tup ys):=fun a ys q=>by
 have n:a≠p:=fun z=>by rw [z,e] at q; cases q
 rw [qu0 n]
 exact q
theorem IsBox.upd {b:List (Int×Int)}{xs:List V}{o:HO}{l:Addr}(h:IsBox H p b)(e:H l=some (.lst xs)):IsBox (upd H l o) p b:=h.mono (upd_tup e)
theorem Bxs.mono (h:Bxs H vs bss)(k:∀ a xs,H a=some (.tup xs)→H' a=some (.tup xs)):Bxs H' vs bss:=by
 induction h with
 | nil=>exact .nil
 | cons h _ ih=>exact .cons (h.mono k) ih
theorem Bxs.same (h:Bxs H vs bss)(s:Same H H'):Bxs H' vs bss:=h.mono fun a xs e=>s _ _ e
theorem Bxs.upd {xs:List V}{o:HO}{l:Addr}(h:Bxs H vs bss)(e:H l=some (.lst xs)):Bxs (upd H l o) vs bss:=h.mono (upd_tup e)
theorem Bxs.len (h:Bxs H vs bss):vs.length=bss.length:=by
 induction h with
 | nil=>rfl
 | cons _ _ ih=>rw [List.length_cons,List.length_cons,ih]
theorem Bxs.at {i:Nat}{x:V}(h:Bxs H vs bss)(e:vs[i]?=some x):∃ p b,x=.ref p∧bss[i]?=some b∧IsBox H p b:=by
 induction h generalizing i with
 | nil=>cases e
 | cons h _ ih =>
  cases i with
  | zero =>
   cases e
   exact ⟨_,_,rfl,rfl,h⟩
  | succ j=>exact ih e
theorem Bxs.take {n:Nat}(h:Bxs H vs bss):Bxs H (vs.take n) (bss.take n):=by
 induction h generalizing n with
 | nil=>rw [List.take_nil,List.take_nil]; exact .nil
 | cons h _ ih =>
  cases n with
  | zero=>exact .nil
  | succ m=>exact .cons h ih
end
end Sv
namespace Sv
open PySem PySem.Spec PyProof.Rows L2
section
variable {P:Program}{w:World}{A:Around}{E:Value→Shared→Prop}{s:Shared}
theorem nextT {q p:Addr}{i:Nat}{its:Array Value}{x:Value}{Q:Value→Shared→Prop}(hq:s.heap.IsTupleIter q p i)(hp:s.heap.IsTuple p its)(hx:its[i]?=some x)
  (k:∀ h',h'.IsTupleIter q p (i+1)→Heap.SameBut q s.heap h'→Q x { s with heap:=h' }):wpAny (model P w) A (Builtin.SmallTypes.nextOf (.ref q)) Q E s:=by
 obtain ⟨o,ho,hc,hd⟩:=id hq
 obtain ⟨ot,hot,_,nt,hdt⟩:=hp
 unfold Builtin.SmallTypes.nextOf
 refine wpAny_bind (wpAny_callSpecial?_slot (name:=Str.ofString "__next__") hq.typeIs F.slot_tuple_iterator_next (wpAny_call_entry F.slot_tuple_iterator_next hq.typeIs F.entry_tuple_iterator_next ?_ (F.args_tuple_iterator_next_1 _)))
 show wpAny _ _ (field (.ref q) 0 >>= _) _ _ s
 refine wpAny_bind (wpAny_field ho hd (x:=.ref p) rfl ?_)
 show wpAny _ _ (if (Value.ref p == Value.none)=true then _ else _) _ _ s
 rw [if_neg (show ¬ ((Value.ref p == Value.none)=true) from Bool.false_ne_true)]
 show wpAny _ _ (field (.ref q) 1 >>= _) _ _ s
 refine wpAny_bind (wpAny_field ho hd (x:=Value.int i 0) rfl ?_)
 show wpAny _ _ (seqItems? (.ref p) >>= _) _ _ s
 refine wpAny_bind (wpAny_seqItems hot hdt ?_)
 simp only [Int.toNat_natCast,hx]
 refine wpAny_bind (wpAny_setField ho hd (by simp) (wpAny_pure ⟨x,rfl,wpAny_pure (k _ ?_ (Heap.SameBut.update ..))⟩))
 refine ⟨_,Heap.get?_update_self _ ho (Obj.isFreed_of_fields (Obj.data_mapFields hd _)),(Obj.cls_mapFields ..).trans hc,?_⟩
 rw [Obj.data_mapFields hd]
 simp [rawInt]
theorem nextT_end {q p:Addr}{i:Nat}{its:Array Value}{Q:Value→Shared→Prop}(hh:A.handled=none)(hq:s.heap.IsTupleIter q p i)(hp:s.heap.IsTuple p its)(hx:its[i]?=none)
  (k:∀ h' e,Heap.ExtBut q s.heap h'→(∃ o,h'.get? e=some o∧o.cls=.type "StopIteration")→E (.ref e) { s with heap:=h' }):wpAny (model P w) A (Builtin.SmallTypes.nextOf (.ref q)) Q E s:=by
 obtain ⟨o,ho,hc,hd⟩:=id hq
 obtain ⟨ot,hot,_,nt,hdt⟩:=hp
 unfold Builtin.SmallTypes.nextOf
 refine wpAny_bind (wpAny_callSpecial?_slot (name:=Str.ofString "__next__") hq.typeIs F.slot_tuple_iterator_next (wpAny_call_entry F.slot_tuple_iterator_next hq.typeIs F.entry_tuple_iterator_next ?_ (F.args_tuple_iterator_next_1 _)))
 show wpAny _ _ (field (.ref q) 0 >>= _) _ _ s
 refine wpAny_bind (wpAny_field ho hd (x:=.ref p) rfl ?_)
 show wpAny _ _ (if (Value.ref p == Value.none)=true then _ else _) _ _ s
 rw [if_neg (show ¬ ((Value.ref p == Value.none)=true) from Bool.false_ne_true)]
 show wpAny _ _ (field (.ref q) 1 >>= _) _ _ s
 refine wpAny_bind (wpAny_field ho hd (x:=Value.int i 0) rfl ?_)
 show wpAny _ _ (seqItems? (.ref p) >>= _) _ _ s
 refine wpAny_bind (wpAny_seqItems hot hdt ?_)
 simp only [Int.toNat_natCast,hx]
 refine wpAny_bind (wpAny_rule (wpAny_bind (wpAny_setField ho hd (by simp) (show wpAny _ _ (newExc (.type "StopIteration") [] >>= _) _ _ _ from wpAny_bind ?_))))
 simp only [newExc,newTuple]
 refine wpAny_bind (wpAny_newObj_type (wpAny_bind (m:=firstArgMember _ _) (wpAny_of_eq (a:=Value.none) (by first | rfl | (simp only [firstArgMember]; rfl)) (wpAny_newObj_type ?_ (by size_fits)))) (by size_fits))
 simp only [raiseNew]
 refine wpAny_bind (wpAny_handled ?_)
 first | rw [show A.in1.handled=none from hh] | rw [hh]
 refine wpAny_bind (wpAny_pure (wpAny_throw (k _ _ (((Heap.SameBut.update ..).extBut.push _).push _) ⟨_,Heap.get?_push_size _ rfl,rfl⟩)))
def IsIt (h:Heap):Bool→Addr→Addr→Nat→Prop
 | true=>h.IsTupleIter
 | false=>h.IsListIter
def IsSq (h:Heap):Bool→Addr→Array Value→Prop
 | true=>h.IsTuple
 | false=>h.IsList
theorem IsIt.at {h h':Heap}{b:Bool}{q p:Addr}{i:Nat}(x:IsIt h b q p i)(e:∀ o,h.get? q=some o→h'.get? q=some o):IsIt h' b q p i:=by
 cases b
 ·exact Heap.IsListIter.at x e
 ·exact Heap.IsTupleIter.at x e
theorem IsSq.at {h h':Heap}{b:Bool}{p:Addr}{its:Array Value}(x:IsSq h b p its)(e:∀ o,h.get? p=some o→h'.get? p=some o):IsSq h' b p its:=by
 cases b
 ·exact Heap.IsList.at x e
 ·obtain ⟨o,ho,r⟩:=x
  exact ⟨o,e _ ho,r⟩
theorem IsIt.ex {h:Heap}{b:Bool}{q p:Addr}{i:Nat}(x:IsIt h b q p i):∃ o,h.get? q=some o∧∀ v,o.data≠.cell v:=by
 cases b
 ·obtain ⟨o,e,_,d⟩:=x
  exact ⟨o,e,fun v z=>by rw [d] at z; cases z⟩
 ·obtain ⟨o,e,_,d⟩:=x
  exact ⟨o,e,fun v z=>by rw [d] at z; cases z⟩
theorem nextI {b:Bool}{q p:Addr}{i:Nat}{its:Array Value}{x:Value}{Q:Value→Shared→Prop}(hq:IsIt s.heap b q p i)(hp:IsSq s.heap b p its)(hx:its[i]?=some x)
  (k:∀ h',IsIt h' b q p (i+1)→Heap.SameBut q s.heap h'→Q x { s with heap:=h' }):wpAny (model P w) A (Builtin.SmallTypes.nextOf (.ref q)) Q E s:=by
 cases b
 ·exact wpAny_nextOf_list_item hq hp hx k
 ·exact nextT hq hp hx k
theorem next_end {b:Bool}{q p:Addr}{i:Nat}{its:Array Value}{Q:Value→Shared→Prop}(hh:A.handled=none)(hq:IsIt s.heap b q p i)(hp:IsSq s.heap b p its)(hx:its[i]?=none)
  (k:∀ h' e,Heap.ExtBut q s.heap h'→(∃ o,h'.get? e=some o∧o.cls=.type "StopIteration")→E (.ref e) { s with heap:=h' }):wpAny (model P w) A (Builtin.SmallTypes.nextOf (.ref q)) Q E s:=by
 cases b
 ·exact wpAny_nextOf_list_end hh hq hp hx k
 ·exact nextT_end hh hq hp hx k
theorem enum_item {b:Bool}{e q p:Addr}{i:Nat}{its:Array Value}{x old:Value}{Q:Option Value→Shared→Prop}(he:IsEnum s.heap e q i old)(hq:IsIt s.heap b q p i)(hp:IsSq s.heap b p its)(hx:its[i]?=some x)(ne:e≠q)
  (k:∀ h',IsEnumOut h' e q ((i:Int)+1) x s.heap.objs.size→IsIt h' b q p (i+1)→h'.get? s.heap.objs.size=some { cls:=.type "tuple",data:=.seq #[.int i s.toks,x] }→h'.objs.size=s.heap.objs.size+1 →
   (∀ c o,c≠e→c≠q→s.heap.get? c=some o→h'.get? c=some o)→Q (some (.ref s.heap.objs.size)) { s with heap:=h',toks:=s.toks+1 }):wpAny (model P w) A (pyNext (.ref e)) Q E s:=by
 have hT:s.TypeIs (.ref e) "enumerate":=⟨_,he,rfl⟩
 unfold pyNext
 refine wpAny_bind (wpAny_attempt (wpAny_callSpecial?_slot (name:=Str.ofString "__next__") hT F.slot_enumerate_next (wpAny_call_entry F.slot_enumerate_next hT F.entry_enumerate_next ?_ (F.args_enumerate_next_1 _))))
 obtain ⟨hp0,g,d,tk,os⟩:=s
 show wpAny _ _ (field (.ref e) 2 >>= _) _ _ _
 refine wpAny_bind (wpAny_field he rfl (x:=.ref q) rfl (wpAny_bind (nextI hq hp hx fun h1 q1 s1=>?_)))
 replace s1:Heap.SameBut q hp0 h1:=s1
 have e1:IsEnum h1 e q i old:=(s1.2 e ne).trans he
 show wpAny _ _ (field (.ref e) 3 >>= _) _ _ ⟨h1,g,d,tk,os⟩
 refine wpAny_bind (wpAny_field e1 rfl (x:=rawInt i) rfl ?_)
 show wpAny _ _ (field (.ref e) 4 >>= _) _ _ ⟨h1,g,d,tk,os⟩
 refine wpAny_bind (wpAny_field e1 rfl (x:=.none) rfl ?_)
 show wpAny _ _ (mkInt i >>= _) _ _ ⟨h1,g,d,tk,os⟩
 refine wpAny_bind (wpAny_mkInt ?_)
 show wpAny _ _ (setField (.ref e) 3 (rawInt ((i:Int)+1)) >>= _) _ _ ⟨h1,g,d,tk+1,os⟩
 refine wpAny_bind (wpAny_setField_rec e1 (by simp) fun h2 e2 s2=>?_)
 replace s2:Heap.SameBut e h1 h2:=s2
 replace e2:IsEnum h2 e q ((i:Int)+1) old:=e2
 show wpAny _ _ (setField (.ref e) 4 .none >>= _) _ _ ⟨h2,g,d,tk+1,os⟩
 refine wpAny_bind (wpAny_setField_rec e2 (by simp) fun h3 e3 s3=>?_)
 replace s3:Heap.SameBut e h2 h3:=s3
 replace e3:IsEnum h3 e q ((i:Int)+1) old:=e3
 show wpAny _ _ (newTuple [.int i tk,x] >>= _) _ _ ⟨h3,g,d,tk+1,os⟩
 refine wpAny_bind (wpAny_newTuple ?_)
 have e4:IsEnum (h3.push { cls:=.type "tuple",data:=.seq #[.int i tk,x] }) e q ((i:Int)+1) old:=Heap.get?_push_of_some _ e3
 generalize hh4:h3.push { cls:=.type "tuple",data:=.seq #[.int i tk,x] }=h4 at e4
 have z3:h3.objs.size=hp0.objs.size:=by rw [s3.1,s2.1,s1.1]
 have el:e<hp0.objs.size:=Heap.lt_size he
 have t4:h4.get? hp0.objs.size=some { cls:=.type "tuple",data:=.seq #[.int i tk,x] }:=by
  rw [← hh4,← z3]
  exact Heap.get?_push_size _ rfl
 have z4:h4.objs.size=hp0.objs.size+1:=by rw [← hh4,Heap.size_push,z3]
 have k4:∀ c o,c≠e→c≠q→hp0.get? c=some o→h4.get? c=some o:=fun c o ce cq hc=>by
  rw [← hh4]
  exact Heap.get?_push_of_some _ (s3.extBut c o ce (s2.extBut c o ce (s1.extBut c o cq hc)))
 have q4:IsIt h4 b q p (i+1):=q1.at fun o ho=>by
  rw [← hh4]
  exact Heap.get?_push_of_some _ (s3.extBut q o ne.symm (s2.extBut q o ne.symm ho))
 show wpAny _ _ (Builtin.SmallTypes.ownedTupleIsFree (.ref e) >>= _) _ _ ⟨h4,g,d,tk+1,os⟩
 rw [z3]
 clear hh4 e3 s3 e2 s2 e1 s1 q1 z3 h3 h2 h1
 refine wpAny_bind ?_
 unfold Builtin.SmallTypes.ownedTupleIsFree
 refine wpAny_bind (wpAny_field e4 rfl (x:=.none) rfl (wpAny_pure ?_))
 simp only [if_true]
 refine wpAny_bind (wpAny_rule (wpAny_bind (wpAny_field e4 rfl (x:=old) rfl (wpAny_bind (wpAny_setField_rec e4 (by simp) fun h5 e5 s5=>?_)))))
 replace s5:Heap.SameBut e h4 h5:=s5
 replace e5:IsEnum h5 e q ((i:Int)+1) x:=e5
 show wpAny _ _ (Builtin.SmallTypes.ownedTupleHandOut (.ref e) (.ref hp0.objs.size) >>= _) _ _ ⟨h5,g,d,tk+1,os⟩
 refine wpAny_bind ?_
 unfold Builtin.SmallTypes.ownedTupleHandOut
 refine wpAny_bind (wpAny_setField_rec e5 (by simp) fun h6 e6 s6=>?_)
 replace s6:Heap.SameBut e h5 h6:=s6
 replace e6:IsEnumOut h6 e q ((i:Int)+1) x hp0.objs.size:=e6
 refine wpAny_setField_rec e6 (by simp) fun h7 e7 s7=>?_
 replace s7:Heap.SameBut e h6 h7:=s7
 replace e7:IsEnumOut h7 e q ((i:Int)+1) x hp0.objs.size:=e7
 have up:∀ c o,c≠e→h4.get? c=some o→h7.get? c=some o:=fun c o ce hc=>s7.extBut c o ce (s6.extBut c o ce (s5.extBut c o ce hc))
 refine wpAny_bind (wpAny_letGo (wpAny_pure ⟨_,rfl,wpAny_pure (k h7 e7 (q4.at fun o ho=>up q o ne.symm ho) (up _ _ (Nat.ne_of_gt el) t4) ?_ fun c o ce cq hc=>up c o ce (k4 c o ce cq hc))⟩))
 rw [s7.1,s6.1,s5.1,z4]
theorem enum_end {b:Bool}{e q p:Addr}{i:Nat}{its:Array Value}{old:Value}{Q:Option Value→Shared→Prop}(hh:A.handled=none)(he:IsEnum s.heap e q i old)(hq:IsIt s.heap b q p i)(hp:IsSq s.heap b p its)(hx:its[i]?=none)
  (k:∀ h',Heap.ExtBut q s.heap h'→Q none { s with heap:=h' }):wpAny (model P w) A (pyNext (.ref e)) Q E s:=by
 have hT:s.TypeIs (.ref e) "enumerate":=⟨_,he,rfl⟩
 unfold pyNext
 refine wpAny_bind (wpAny_attempt (wpAny_callSpecial?_slot (name:=Str.ofString "__next__") hT F.slot_enumerate_next (wpAny_call_entry F.slot_enumerate_next hT F.entry_enumerate_next ?_ (F.args_enumerate_next_1 _))))
 show wpAny _ _ (field (.ref e) 2 >>= _) _ _ _
 refine wpAny_bind (wpAny_field he rfl (x:=.ref q) rfl (wpAny_bind (next_end hh hq hp hx fun h' x he' hx'=>?_)))
 obtain ⟨o,ho,hc⟩:=hx'
 exact wpAny_bind (wpAny_isInstance (T:="StopIteration") (b:=true) ⟨o,ho,hc⟩ isSubtype_stop (wpAny_pure (k _ he')))
structure Apart (z a o q r p1 p2:Addr):Prop where
 nd:[z,a,o,q,r].Nodup
 n1:p1∉[z,o,q,r]
 n2:p2∉[z,o,q,r]
theorem apart5 {z a o q r:Addr}(h:[z,a,o,q,r].Nodup):(z≠a∧z≠o∧z≠q∧z≠r)∧(a≠o∧a≠q∧a≠r)∧(o≠q∧o≠r)∧q≠r:=by
 simp only [List.nodup_cons,List.mem_cons,List.mem_nil_iff,or_false,not_or,List.not_mem_nil,not_false_eq_true,List.nodup_nil,and_true] at h
 exact h
theorem apart4 {p z o q r:Addr}(h:p∉[z,o,q,r]):p≠z∧p≠o∧p≠q∧p≠r:=by
 simp only [List.mem_cons,List.mem_nil_iff,or_false,not_or,List.not_mem_nil] at h
 exact h
def Kept (ch:List Addr)(h h':Heap):Prop:=∀ c o,c∉ch→h.get? c=some o→h'.get? c=some o
theorem Kept.trans {ch:List Addr}{h h' h'':Heap}(x:Kept ch h h')(y:Kept ch h' h''):Kept ch h h'':=fun c o n e=>y c o n (x c o n e)
theorem Kept.of {ch:List Addr}{h h':Heap}{b:Addr}(x:Heap.SameBut b h h')(m:b∈ch):Kept ch h h':=fun c o n e=>x.extBut c o (fun z=>n (z▸m)) e
theorem Kept.ext {ch:List Addr}{h h':Heap}{b:Addr}(x:Heap.ExtBut b h h')(m:b∈ch):Kept ch h h':=fun c o n e=>x c o (fun z=>n (z▸m)) e
structure ZipAt (h:Heap)(b1 b2:Bool)(z a o q r p1 p2:Addr)(f:Value)(i j:Nat):Prop where
 zip:IsZip h z a o f
 ins:IsPair h a (.ref q) (.ref r)
 out:∃ x y,IsPair h o x y
 it1:IsIt h b1 q p1 i
 it2:IsIt h b2 r p2 j
theorem zip_item {b1 b2:Bool}{z a o q r p1 p2:Addr}{i j:Nat}{xs ys:Array Value}{x y:Value}{Q:Option Value→Shared→Prop}(D:Apart z a o q r p1 p2)(Z:ZipAt s.heap b1 b2 z a o q r p1 p2 .none i j)
  (h1:IsSq s.heap b1 p1 xs) (h2:IsSq s.heap b2 p2 ys) (hx:xs[i]?=some x) (hy:ys[j]?=some y)
  (k:∀ h',ZipAt h' b1 b2 z a o q r p1 p2 (rawInt s.heap.objs.size) (i+1) (j+1)→IsPair h' s.heap.objs.size x y→h'.objs.size=s.heap.objs.size+1→Kept [z,o,q,r] s.heap h'→Q (some (.ref s.heap.objs.size)) { s with heap:=h' }) :
  wpAny (model P w) A (pyNext (.ref z)) Q E s:=by
 obtain ⟨hz,hI,⟨u,v,hO⟩,hq,hr⟩:=Z
 obtain ⟨⟨za,zo,zq,zr⟩,⟨ao,aq,ar⟩,⟨oq,or'⟩,qr⟩:=apart5 D.nd
 obtain ⟨n1z,n1o,n1q,n1r⟩:=apart4 D.n1
 obtain ⟨n2z,n2o,n2q,n2r⟩:=apart4 D.n2
 have hT:s.TypeIs (.ref z) "zip":=⟨_,hz,rfl⟩
 unfold pyNext
 refine wpAny_bind (wpAny_attempt (wpAny_callSpecial?_slot (name:=Str.ofString "__next__") hT F.slot_zip_next (wpAny_call_entry F.slot_zip_next hT F.entry_zip_next ?_ (F.args_zip_next_1 _))))
 show wpAny _ _ (field (.ref z) 2 >>= _) _ _ _
 refine wpAny_bind (wpAny_field hz rfl (x:=.bool false) rfl ?_)
 show wpAny _ _ (field (.ref z) 3 >>= _) _ _ _
 refine wpAny_bind (wpAny_field hz rfl (x:=.ref a) rfl (wpAny_bind (wpAny_seqItems hI rfl ?_)))
 show wpAny _ _ (Builtin.SmallTypes.ownedTupleIsFree (.ref z) >>= _) _ _ _
 refine wpAny_bind ?_
 unfold Builtin.SmallTypes.ownedTupleIsFree
 refine wpAny_bind (wpAny_field hz rfl (x:=.none) rfl (wpAny_pure ?_))
 simp only [if_true]
 refine wpAny_bind (wpAny_rule (wpAny_bind (wpAny_field hz rfl (x:=.ref o) rfl (wpAny_bind (wpAny_setField_rec hz (by simp) fun g1 z1 s1=>?_)))))
 replace z1:IsZip g1 z a o .ellipsis:=z1
 refine wpAny_bind ?_
 simp only [List.zipIdx_cons,List.zipIdx_nil,List.forIn_cons,List.forIn_nil]
 refine wpAny_bind (wpAny_bind (wpAny_onRaise (show wpAny _ _ (Builtin.SmallTypes.nextOf (.ref q) >>= _) _ _ _ from wpAny_bind (nextI (hq.at fun _ e=>s1.extBut _ _ zq.symm e) (h1.at fun _ e=>s1.extBut _ _ n1z e) hx fun g2 q2 s2=>wpAny_pure ?_))))
 have o2:IsPair g2 o u v:=s2.extBut _ _ oq (s1.extBut _ _ zo.symm hO)
 refine wpAny_bind (wpAny_seqItems o2 rfl (wpAny_bind (wpAny_updateSeq_pair o2 fun g3 o3 s3=>?_)))
 replace o3:IsPair g3 o x v:=o3
 refine wpAny_bind (wpAny_letGo (wpAny_pure (wpAny_bind (wpAny_bind (wpAny_onRaise ?_)))))
 refine (show wpAny _ _ (Builtin.SmallTypes.nextOf (.ref r) >>= _) _ _ _ from wpAny_bind (nextI (hr.at fun _ e=>s3.extBut _ _ or'.symm (s2.extBut _ _ qr.symm (s1.extBut _ _ zr.symm e))) (h2.at fun _ e=>s3.extBut _ _ n2o (s2.extBut _ _ n2q (s1.extBut _ _ n2z e))) hy fun g4 r4 s4=>wpAny_pure ?_))
 have o4:IsPair g4 o x v:=s4.extBut _ _ or' o3
 refine wpAny_bind (wpAny_seqItems o4 rfl (wpAny_bind (wpAny_updateSeq_pair o4 fun g5 o5 s5=>?_)))
 replace o5:IsPair g5 o x y:=o5
 refine wpAny_bind (wpAny_letGo (wpAny_pure (wpAny_pure (wpAny_bind (wpAny_seqItems o5 rfl (wpAny_bind (wpAny_newTuple ?_)))))))
 have m1:z∈[z,o,q,r]:=by simp
 have m2:o∈[z,o,q,r]:=by simp
 have m3:q∈[z,o,q,r]:=by simp
 have m4:r∈[z,o,q,r]:=by simp
 have k5:Kept [z,o,q,r] s.heap g5:=((((Kept.of s1 m1).trans (Kept.of s2 m3)).trans (Kept.of s3 m2)).trans (Kept.of s4 m4)).trans (Kept.of s5 m2)
 have z5:g5.objs.size=s.heap.objs.size:=by rw [s5.1,s4.1,s3.1,s2.1,s1.1]
 have y5:IsZip g5 z a o .ellipsis:=s5.extBut _ _ zo (s4.extBut _ _ zr (s3.extBut _ _ zo (s2.extBut _ _ zq z1)))
 have q5:IsIt g5 b1 q p1 (i+1):=q2.at fun _ e=>s5.extBut _ _ oq.symm (s4.extBut _ _ qr (s3.extBut _ _ oq.symm e))
 have r5:IsIt g5 b2 r p2 (j+1):=r4.at fun _ e=>s5.extBut _ _ or'.symm e
 have lt:z<g5.objs.size:=Heap.lt_size y5
 show wpAny _ _ (Builtin.SmallTypes.ownedTupleHandOut (.ref z) (.ref g5.objs.size) >>= _) _ _ _
 refine wpAny_bind ?_
 unfold Builtin.SmallTypes.ownedTupleHandOut
 have y6:IsZip (g5.push { cls:=.type "tuple",data:=.seq #[x,y] }) z a o .ellipsis:=Heap.get?_push_of_some _ y5
 refine wpAny_bind (wpAny_setField_rec y6 (by simp) fun g7 y7 s7=>?_)
 replace y7:IsZip g7 z a o (rawInt g5.objs.size):=y7
 refine wpAny_setField_rec y7 (by simp) fun g8 y8 s8=>?_
 replace y8:IsZip g8 z a o (rawInt g5.objs.size):=y8
 have up:∀ c u,c≠z→g5.get? c=some u→g8.get? c=some u:=fun c u cz e=>s8.extBut _ _ cz (s7.extBut _ _ cz (Heap.get?_push_of_some _ e))
 have t8:IsPair g8 g5.objs.size x y:=s8.extBut _ _ (Nat.ne_of_gt lt) (s7.extBut _ _ (Nat.ne_of_gt lt) (Heap.get?_push_size _ rfl))
 have e8:g8.objs.size=g5.objs.size+1:=by rw [s8.1,s7.1,Heap.size_push]
 rw [z5] at y8 t8 e8
 refine wpAny_pure ⟨_,rfl,wpAny_pure ?_⟩
 show Q (some (.ref g5.objs.size)) _
 rw [z5]
 refine k g8 ⟨y8,?_,⟨x,y,up _ _ zo.symm o5⟩,q5.at fun _ e=>up _ _ zq.symm e,r5.at fun _ e=>up _ _ zr.symm e⟩ t8 e8 (k5.trans fun c u n e=>up c u (fun h=>n (h▸m1)) e)
 exact up _ _ za.symm (k5 _ _ (by simp [za.symm,ao,aq,ar]) hI)
theorem zip_end {b1 b2:Bool}{z a o q r p1 p2:Addr}{i j:Nat}{xs ys:Array Value}{Q:Option Value→Shared→Prop}(hh:A.handled=none)(D:Apart z a o q r p1 p2)(Z:ZipAt s.heap b1 b2 z a o q r p1 p2 .none i j)
  (h1:IsSq s.heap b1 p1 xs) (h2:IsSq s.heap b2 p2 ys) (hn:xs[i]?=none∨ys[j]?=none) (k:∀ h',Kept [z,o,q,r] s.heap h'→Q none { s with heap:=h' }):wpAny (model P w) A (pyNext (.ref z)) Q E s:=by
 obtain ⟨hz,hI,⟨u,v,hO⟩,hq,hr⟩:=Z
 obtain ⟨⟨za,zo,zq,zr⟩,⟨ao,aq,ar⟩,⟨oq,or'⟩,qr⟩:=apart5 D.nd
 obtain ⟨n1z,n1o,n1q,n1r⟩:=apart4 D.n1
 obtain ⟨n2z,n2o,n2q,n2r⟩:=apart4 D.n2
 have m1:z∈[z,o,q,r]:=by simp
 have m2:o∈[z,o,q,r]:=by simp
 have m3:q∈[z,o,q,r]:=by simp
 have m4:r∈[z,o,q,r]:=by simp
 have hT:s.TypeIs (.ref z) "zip":=⟨_,hz,rfl⟩
 have fin:∀ {h':Heap} {e:Addr},Kept [z,o,q,r] s.heap h'→(∃ o,h'.get? e=some o∧o.cls=.type "StopIteration") →
   wpAny (model P w) A (do if ← isInstance (.ref e) (.type "StopIteration") then pure none else throw (.ref e)) Q E { s with heap:=h' }:=fun hk he=>by
  obtain ⟨oe,hoe,hce⟩:=he
  exact wpAny_bind (wpAny_isInstance (T:="StopIteration") (b:=true) ⟨oe,hoe,hce⟩ isSubtype_stop (wpAny_pure (k _ hk)))
 unfold pyNext
 refine wpAny_bind (wpAny_attempt (wpAny_callSpecial?_slot (name:=Str.ofString "__next__") hT F.slot_zip_next (wpAny_call_entry F.slot_zip_next hT F.entry_zip_next ?_ (F.args_zip_next_1 _))))
 show wpAny _ _ (field (.ref z) 2 >>= _) _ _ _
 refine wpAny_bind (wpAny_field hz rfl (x:=.bool false) rfl ?_)
 show wpAny _ _ (field (.ref z) 3 >>= _) _ _ _
 refine wpAny_bind (wpAny_field hz rfl (x:=.ref a) rfl (wpAny_bind (wpAny_seqItems hI rfl ?_)))
 show wpAny _ _ (Builtin.SmallTypes.ownedTupleIsFree (.ref z) >>= _) _ _ _
 refine wpAny_bind ?_
 unfold Builtin.SmallTypes.ownedTupleIsFree
 refine wpAny_bind (wpAny_field hz rfl (x:=.none) rfl (wpAny_pure ?_))
 simp only [if_true]
 refine wpAny_bind (wpAny_rule (wpAny_bind (wpAny_field hz rfl (x:=.ref o) rfl (wpAny_bind (wpAny_setField_rec hz (by simp) fun g1 z1 s1=>?_)))))
 replace z1:IsZip g1 z a o .ellipsis:=z1
 refine wpAny_bind ?_
 simp only [List.zipIdx_cons,List.zipIdx_nil,List.forIn_cons,List.forIn_nil]
 refine wpAny_bind (wpAny_bind (wpAny_onRaise (show wpAny _ _ (Builtin.SmallTypes.nextOf (.ref q) >>= _) _ _ _ from wpAny_bind ?_)))
 cases hx:xs[i]? with
 | none =>
  refine next_end hh (hq.at fun _ e=>s1.extBut _ _ zq.symm e) (h1.at fun _ e=>s1.extBut _ _ n1z e) hx fun g2 e s2 he=>?_
  obtain ⟨oe,hoe,hce⟩:=he
  have z2:IsZip g2 z a o .ellipsis:=s2 _ _ zq z1
  have ez:e≠z:=fun h=>by subst h; rw [z2] at hoe; cases hoe; simp at hce
  exact wpAny_setField_rec z2 (by simp) fun g3 _ s3=>fin (((Kept.of s1 m1).trans (Kept.ext s2 m3)).trans (Kept.of s3 m1)) ⟨oe,s3.extBut _ _ ez hoe,hce⟩
 | some x =>
  have hy:ys[j]?=none:=hn.resolve_left (by rw [hx]; exact fun h=>by cases h)
  refine nextI (hq.at fun _ e=>s1.extBut _ _ zq.symm e) (h1.at fun _ e=>s1.extBut _ _ n1z e) hx fun g2 q2 s2=>wpAny_pure ?_
  have o2:IsPair g2 o u v:=s2.extBut _ _ oq (s1.extBut _ _ zo.symm hO)
  refine wpAny_bind (wpAny_seqItems o2 rfl (wpAny_bind (wpAny_updateSeq_pair o2 fun g3 o3 s3=>?_)))
  refine wpAny_bind (wpAny_letGo (wpAny_pure (wpAny_bind (wpAny_bind (wpAny_onRaise (show wpAny _ _ (Builtin.SmallTypes.nextOf (.ref r) >>= _) _ _ _ from wpAny_bind ?_))))))
  refine next_end hh (hr.at fun _ e=>s3.extBut _ _ or'.symm (s2.extBut _ _ qr.symm (s1.extBut _ _ zr.symm e))) (h2.at fun _ e=>s3.extBut _ _ n2o (s2.extBut _ _ n2q (s1.extBut _ _ n2z e))) hy fun g4 e s4 he=>?_
  obtain ⟨oe,hoe,hce⟩:=he
  have z4:IsZip g4 z a o .ellipsis:=s4 _ _ zr (s3.extBut _ _ zo (s2.extBut _ _ zq z1))
  have ez:e≠z:=fun h=>by subst h; rw [z4] at hoe; cases hoe; simp at hce
  exact wpAny_setField_rec z4 (by simp) fun g5 _ s5=>fin (((((Kept.of s1 m1).trans (Kept.of s2 m3)).trans (Kept.of s3 m2)).trans (Kept.ext s4 m4)).trans (Kept.of s5 m1)) ⟨oe,s5.extBut _ _ ez hoe,hce⟩
abbrev itO (p:Addr):Obj:={ cls:=.type "tuple_iterator",data:=.fields #[.ref p,.int 0 0] }
abbrev zA (h:Heap)(p1 p2:Addr):Heap:=(h.push (itO p1)).push (itO p2)
abbrev zB (h:Heap)(p1 p2:Addr):Heap:=(zA h p1 p2).push { cls:=.type "tuple",data:=.seq #[.ref h.objs.size,.ref (h.push (itO p1)).objs.size] }
abbrev zC (h:Heap)(p1 p2:Addr):Heap:=(zB h p1 p2).push { cls:=.type "tuple",data:=.seq #[.none,.none] }
abbrev zD (h:Heap)(p1 p2:Addr):Heap:=(zC h p1 p2).push { cls:=.type "zip",data:=.fields #[.none,.bool false,.bool false,.ref (zA h p1 p2).objs.size,.ref (zB h p1 p2).objs.size] }
theorem z_sizes (h:Heap)(p1 p2:Addr):(h.push (itO p1)).objs.size=h.objs.size+1∧(zA h p1 p2).objs.size=h.objs.size+2∧(zB h p1 p2).objs.size=h.objs.size+3∧(zC h p1 p2).objs.size=h.objs.size+4∧(zD h p1 p2).objs.size=h.objs.size+5:=by
 simp only [Heap.size_push]
 exact ⟨trivial,trivial,trivial,trivial,trivial⟩
theorem z_at (h:Heap)(p1 p2:Addr):ZipAt (zD h p1 p2) true true (h.objs.size+4) (h.objs.size+2) (h.objs.size+3) h.objs.size (h.objs.size+1) p1 p2 .none 0 0:=by
 obtain ⟨s1,s2,s3,s4,s5⟩:=z_sizes h p1 p2
 have g5:(zD h p1 p2).get? (zC h p1 p2).objs.size=some _:=Heap.get?_push_size _ rfl
 have g4:(zD h p1 p2).get? (zB h p1 p2).objs.size=some _:=Heap.get?_push_of_some _ (Heap.get?_push_size _ rfl)
 have g3:(zD h p1 p2).get? (zA h p1 p2).objs.size=some _:=Heap.get?_push_of_some _ (Heap.get?_push_of_some _ (Heap.get?_push_size _ rfl))
 have g2:(zD h p1 p2).get? (h.push (itO p1)).objs.size=some _:=Heap.get?_push_of_some _ (Heap.get?_push_of_some _ (Heap.get?_push_of_some _ (Heap.get?_push_size _ rfl)))
 have g1:(zD h p1 p2).get? h.objs.size=some _:=Heap.get?_push_of_some _ (Heap.get?_push_of_some _ (Heap.get?_push_of_some _ (Heap.get?_push_of_some _ (Heap.get?_push_size _ rfl))))
 rw [s4] at g5
 rw [s3] at g4
 rw [s2] at g3
 rw [s1] at g2
 refine ⟨?_,?_,⟨_,_,g4⟩,⟨_,g1,rfl,rfl⟩,⟨_,g2,rfl,rfl⟩⟩
 ·exact g5.trans (by rw [s2,s3])
 ·exact g3.trans (by rw [s1])
theorem z_kept (h:Heap)(p1 p2:Addr)(c:Addr)(o:Obj)(x:h.get? c=some o):(zD h p1 p2).get? c=some o :=
 Heap.get?_push_of_some _ (Heap.get?_push_of_some _ (Heap.get?_push_of_some _ (Heap.get?_push_of_some _ (Heap.get?_push_of_some _ x))))
theorem new_zip (p1 p2:Addr)(xs ys:Array Value):Meets (Builtin.«zip.__new__» ⟨[.type "zip",.ref p1,.ref p2],[]⟩) (fun _ R s=>s.heap.IsTuple p1 xs∧s.heap.IsTuple p2 ys∧R (.ok (.ret (.ref (zC s.heap p1 p2).objs.size))) { s with heap:=zD s.heap p1 p2 }) :=
 .of_wp fun prog w A R s h=>by
  obtain ⟨hp,g,d,tk,os⟩:=s
  obtain ⟨hl1,hl2,h⟩:=h
  have hsub:=sub_zip
  have L1:Heap.IsTuple (Shared.heap ⟨hp,g,d,tk,os⟩) p1 xs:=hl1
  have L2:Heap.IsTuple (Shared.heap ⟨hp.push (itO p1),g,d,tk,os⟩) p2 ys:=Heap.IsTuple.push hl2 _
  wp_walk using wpAny_pyIter_tuple L1,wpAny_pyIter_tuple L2
  exact ⟨_,rfl,h⟩
theorem call_zipT {p1 p2:Addr}{xs ys:Array Value}{Q:Value→Shared→Prop}(h1:s.heap.IsTuple p1 xs)(h2:s.heap.IsTuple p2 ys)
  (k:∀ h',ZipAt h' true true (s.heap.objs.size+4) (s.heap.objs.size+2) (s.heap.objs.size+3) s.heap.objs.size (s.heap.objs.size+1) p1 p2 .none 0 0→(∀ c o,s.heap.get? c=some o→h'.get? c=some o)→Q (.ref (s.heap.objs.size+4)) { s with heap:=h' }) :
  wpAny (model P w) A (call (.type "zip") [.ref p1,.ref p2]) Q E s:=by
 refine callType_new F.called_zip (by decide) (F.typeCall_zip_2 _ _) (F.newCall_zip_2 _ _) (fun obj=>F.args_object_init_3 obj _ _) F.entry_zip_new (new_zip p1 p2 xs ys) ⟨h1,h2,?_⟩
 have Z:=z_at s.heap p1 p2
 show _∧_
 rw [(z_sizes s.heap p1 p2).2.2.2.1]
 exact ⟨⟨_,Z.zip,rfl⟩,k _ Z fun c o x=>z_kept s.heap p1 p2 c o x⟩
theorem new_enum (p:Addr)(xs:Array Value)(n:Nat)(dct:Option Addr)(sl:Array (Option Value)):Meets (Builtin.«enumerate.__new__» ⟨[.type "enumerate",.ref p],[]⟩) (fun _ R s=>s.heap.get? p=some { cls:=.type "tuple",dict:=dct,data:=.seq xs n,slots:=sl } ∧
  R (.ok (.ret (.ref (s.heap.push (itO p)).objs.size))) { s with heap:=(s.heap.push (itO p)).push { cls:=.type "enumerate",data:=.fields #[.none,.bool false,.ref s.heap.objs.size,rawInt 0,.none,.none] } }) :=
 .of_wp fun prog w A R s h=>by
  obtain ⟨hp,g,d,tk,os⟩:=s
  obtain ⟨hl,h⟩:=h
  have hsub:=sub_enumerate
  have hL:Heap.IsTuple (Shared.heap ⟨hp,g,d,tk,os⟩) p xs:=⟨_,hl,rfl,n,rfl⟩
  wp_walk using AutoSeq1.wpAny_loadPart' hl
  refine wpAny_stack_any fun st=>wpAny_pure ?_
  split
  ·rename_i c _ _ _ _ _
   cases (c == Value.type "enumerate")
   ·(wp_walk using AutoSeq1.wpAny_loadPart' hl,wpAny_pyIter_tuple hL); exact ⟨_,rfl,h⟩
   ·(wp_walk using AutoSeq1.wpAny_loadPart' hl,wpAny_pyIter_tuple hL); exact ⟨_,rfl,h⟩
  ·(wp_walk using AutoSeq1.wpAny_loadPart' hl,wpAny_pyIter_tuple hL); exact ⟨_,rfl,h⟩
theorem call_enum {b:Bool}{p:Addr}{xs:Array Value}{Q:Value→Shared→Prop}(hp:IsSq s.heap b p xs)
  (k:∀ h',IsEnum h' (s.heap.objs.size+1) s.heap.objs.size 0 .none→IsIt h' b s.heap.objs.size p 0→(∀ c o,s.heap.get? c=some o→h'.get? c=some o)→Q (.ref (s.heap.objs.size+1)) { s with heap:=h' }) :
  wpAny (model P w) A (call (.type "enumerate") [.ref p]) Q E s:=by
 cases b with
 | false=>exact call_enumerate_list hp fun h' a b _ d=>k h' a b d
 | true =>
  obtain ⟨⟨cls,dct,dat,sl⟩,ho,hc,n,hd⟩:=hp
  cases hc
  cases hd
  refine callType_new F.called_enumerate (by decide) (F.typeCall_enumerate_1 _) (F.newCall_enumerate_1 _) (fun obj=>F.args_object_init_2 obj _) F.entry_enumerate_new (new_enum p xs n dct sl) ⟨ho,?_⟩
  have hz:(s.heap.push (itO p)).objs.size=s.heap.objs.size+1:=Heap.size_push ..
  have he:=Heap.get?_push_size (s.heap.push (itO p)) (o:={ cls:=.type "enumerate",data:=.fields #[.none,.bool false,.ref s.heap.objs.size,rawInt 0,.none,.none] }) rfl
  show _∧_
  rw [hz] at he ⊢
  exact ⟨⟨_,he,rfl⟩,k _ he ⟨_,Heap.get?_push_of_some _ (Heap.get?_push_size _ rfl),rfl,rfl⟩ fun c o x=>Heap.get?_push_of_some _ (Heap.get?_push_of_some _ x)⟩
end
theorem _root_.L2.Inv.turnedL {X:Cx}{pins:List (Addr×Obj)}{σ:L2.St}{H:Hp}{s:Shared}{h':Heap}{t':Nat}{ch:List Addr}(I:Inv X pins σ H s)(k:Kept ch s.heap h')(f:∀ b∈ch,FpOk X pins H b):Inv X pins σ H { s with heap:=h',toks:=t' }:=by
 have nit:∀ b u,H b=some u→b∉ch:=fun b u e z=>by
  rw [(f b z).1] at e
  cases e
 have loc:X.env.locals∉ch:=fun z=>(f _ z).2.1 rfl
 refine I.step (g':=s.gens) (d':=s.drawn) (ch:=ch) (fun b hb=>?_) (fun b o _ _ hc e _=>k b o hc e) (fun b o _ _ hc e _=>⟨o.slots,k b o hc e⟩) (fun _ _ _ _ n=>n) (fun b o hc e=>⟨o,k b o hc e⟩) (fun _ _ e=>e) (fun _ _ _ e=>e)
  (fun b ps e=>⟨#[],by rw [e]; simp⟩) (fun m hm=>?_) (fun b u e=>?_) I.bare
 ·obtain ⟨_,hL,_,h1,h2,h3⟩:=f b hb
  exact ⟨h1,hL,h2,h3⟩
 ·obtain ⟨o,es,ep,ho,r⟩:=hm
  exact ⟨o,es,ep,k _ o loc ho,r⟩
 ·refine (I.hok b u e).stay (fun c v hc q=>k c v ?_ q) (fun _ q=>q) fun _ _ q=>q
  rcases hc with z | z
  ·rw [z]
   exact nit b u e
  ·exact nit c _ z
theorem _root_.L2.Inv.pairOut {X:Cx}{pins:List (Addr×Obj)}{σ:L2.St}{H:Hp}{s:Shared}{h':Heap}{t':Nat}{ch:List Addr}{x y:V}{u v:Value}(I:Inv X pins σ H s)(k:Kept ch s.heap h')(f:∀ b∈ch,FpOk X pins H b)(lt:∀ b∈ch,b<s.heap.objs.size)
  (hp:h'.get? s.heap.objs.size=some { cls:=.type "tuple",data:=.seq #[u,v] }) (rx:RelV x u) (ry:RelV y v):Inv X pins σ (upd H s.heap.objs.size (.tup [x,y])) { s with heap:=h',toks:=t' }:=by
 have I1:Inv X pins σ (upd H s.heap.objs.size (.tup [x,y])) { s with heap:=s.heap.push { cls:=.type "tuple",data:=.seq #[u,v] },toks:=s.toks } :=
  I.laid (fun b o e=>Heap.get?_push_of_some _ e) (Nat.le_refl _) ⟨by show 2≤sizeLine; decide,[u,v],.cons rx (.cons ry .nil),⟨_,Heap.get?_push_size _ rfl,rfl,_,rfl⟩⟩
 refine Inv.turnedL (s:={ s with heap:=s.heap.push { cls:=.type "tuple",data:=.seq #[u,v] },toks:=s.toks }) (ch:=ch) I1 (fun c o n e=>?_) fun b hb=>?_
 ·replace e:(s.heap.push { cls:=.type "tuple",data:=.seq #[u,v] }).get? c=some o:=e
  by_cases z:c=s.heap.objs.size
  ·subst z
   rw [Heap.get?_push_size s.heap (o:={ cls:=.type "tuple",data:=.seq #[u,v] }) rfl] at e
   cases e
   exact hp
  ·rw [Heap.get?_push_ne _ _ _ z] at e
   exact k c o n e
 ·obtain ⟨f0,f1⟩:=f b hb
  exact ⟨by rw [qu0 (Nat.ne_of_lt (lt b hb))]; exact f0,f1⟩
def Itz (K:PySem.W.Frag)(a b:Addr):It :=
 ⟨fun i H=>∃ xs ys x y,SqT K H a xs∧SqT K H b ys∧xs[i]?=some x∧ys[i]?=some y,
  fun i H v H'=>∃ t x y,v=.ref t∧H t=none∧H'=upd H t (.tup [x,y])∧∀ xs ys,SqT K H a xs→SqT K H b ys→xs[i]?=some x∧ys[i]?=some y,
  fun i H=>∃ xs ys,SqT K H a xs∧SqT K H b ys∧(xs.length≤i∨ys.length≤i)⟩
def Sq (K:PySem.W.Frag)(H:Hp):Bool→Addr→List V→Prop
 | true=>SqT K H
 | false=>SqL K H
def Ite (K:PySem.W.Frag)(b:Bool)(a:Addr):It :=
 ⟨fun i H=>∃ xs x,Sq K H b a xs∧xs[i]?=some x,
  fun i H v H'=>∃ t x,v=.ref t∧H t=none∧H'=upd H t (.tup [.int i,x])∧∀ xs,Sq K H b a xs→xs[i]?=some x,
  fun i H=>∃ xs,Sq K H b a xs∧xs.length≤i⟩
theorem Sq.at {X:Cx}{pins:List (Addr×Obj)}{σ:L2.St}{H:Hp}{s:Shared}{b:Bool}{a:Addr}{xs:List V}(I:Inv X pins σ H s)(h:Sq X.K H b a xs):∃ its:List Value,Vals xs its∧IsSq s.heap b a its.toArray:=by
 cases b with
 | true =>
  obtain ⟨its,rv,p,_⟩:=I.tuple h
  exact ⟨its,rv,p⟩
 | false =>
  obtain ⟨its,rv,p,_⟩:=I.list h
  exact ⟨its,rv,p.isList⟩
theorem Sq.inj {X:Cx}{pins:List (Addr×Obj)}{σ:L2.St}{H:Hp}{s:Shared}{b:Bool}{a:Addr}{xs ys:List V}(I:Inv X pins σ H s)(h:Sq X.K H b a xs)(h':Sq X.K H b a ys):xs=ys:=by
 cases b with
 | true=>exact I.tuple_inj h h'
 | false=>exact I.list_inj h h'
theorem turn_zip {P:Program}{w:World}{K:PySem.W.Frag}{es:List Expr}{k0:Nat}{pos:Pos}(p1 p2 z a o q r:Addr)(D:Apart z a o q r p1 p2) :
  Turn P w K (.Tuple es k0 pos) (Itz K p1 p2) [z,a,o,q,r] z (fun i h=>ZipAt h true true z a o q r p1 p2 .none i i) where
 mem:=by simp
 obj:=fun i h Z b hb=>by
  obtain ⟨hz,hI,⟨x,y,hO⟩,hq,hr⟩:=Z
  simp only [List.mem_cons,List.mem_nil_iff,or_false,List.not_mem_nil] at hb
  rcases hb with rfl | rfl | rfl | rfl | rfl
  ·exact ⟨_,hz,fun v e=>by cases e⟩
  ·exact ⟨_,hI,fun v e=>by cases e⟩
  ·exact ⟨_,hO,fun v e=>by cases e⟩
  ·exact hq.ex
  ·exact hr.ex
 keep:=fun i h h' Z k=>by
  obtain ⟨hz,hI,⟨x,y,hO⟩,hq,hr⟩:=Z
  exact ⟨k z (by simp) _ hz,k a (by simp) _ hI,⟨x,y,k o (by simp) _ hO⟩,hq.at fun u e=>k q (by simp) u e,hr.at fun u e=>k r (by simp) u e⟩
 item:=by
  intro X hP hw hK hc i pins s σ H E I hf Z hg
  subst hP hw hK
  obtain ⟨xs,ys,x,y,hxs,hys,hx,hy⟩:=hg
  obtain ⟨its,rv,p,_⟩:=I.tuple hxs
  obtain ⟨jts,rw',p',_⟩:=I.tuple hys
  obtain ⟨u,hu,ru⟩:=rv.get hx
  obtain ⟨v,hv,rv'⟩:=rw'.get hy
  have ltz:∀ b∈[z,o,q,r],b<s.heap.objs.size:=fun b hb=>by
   obtain ⟨hz,hI,⟨x,y,hO⟩,hq,hr⟩:=id Z
   simp only [List.mem_cons,List.mem_nil_iff,or_false,List.not_mem_nil] at hb
   rcases hb with rfl | rfl | rfl | rfl
   ·exact Heap.lt_size hz
   ·exact Heap.lt_size hO
   ·exact Heap.lt_size hq.ex.choose_spec.1
   ·exact Heap.lt_size hr.ex.choose_spec.1
  have lta:a<s.heap.objs.size:=Heap.lt_size Z.ins
  have hf4:∀ b∈[z,o,q,r],FpOk X pins H b:=fun b hb=>hf b (by simp only [List.mem_cons,List.mem_nil_iff,or_false,List.not_mem_nil] at hb ⊢; rcases hb with rfl | rfl | rfl | rfl <;> simp)
  refine zip_item D Z (show s.heap.IsTuple p1 its.toArray from p) (show s.heap.IsTuple p2 jts.toArray from p') (x:=u) (y:=v) (by simpa using hu) (by simpa using hv) fun h' Z' hp sz kk=>?_
  refine ⟨_,rfl,?_⟩
  refine wpAny_letOwnedTupleGo_zip Z'.zip fun h2 hz2 s2=>?_
  obtain ⟨⟨za,zo,zq,zr⟩,_,_,_⟩:=apart5 D.nd
  have k2:Kept [z,o,q,r] s.heap h2:=kk.trans (Kept.of s2 (by simp))
  have hp2:h2.get? s.heap.objs.size=some { cls:=.type "tuple",data:=.seq #[u,v] }:=s2.extBut _ _ (Nat.ne_of_gt (ltz z (by simp))) hp
  refine ⟨.ref s.heap.objs.size,upd H s.heap.objs.size (.tup [x,y]),I.pairOut (t':=s.toks) k2 hf4 ltz hp2 ru rv',rfl,⟨_,x,y,rfl,I.fresh,rfl,fun xs' ys' h1 h2=>?_⟩,?_,fun b hb=>?_⟩
  ·rw [I.tuple_inj h1 hxs,I.tuple_inj h2 hys]
   exact ⟨hx,hy⟩
  ·obtain ⟨_,hI,⟨x1,y1,hO⟩,hq,hr⟩:=Z'
   exact ⟨hz2,s2.extBut _ _ za.symm hI,⟨x1,y1,s2.extBut _ _ zo.symm hO⟩,hq.at fun u e=>s2.extBut _ _ zq.symm e,hr.at fun u e=>s2.extBut _ _ zr.symm e⟩
  ·have lb:b<s.heap.objs.size:=by
    by_cases e:b=a
    ·rw [e]
     exact lta
    ·exact ltz b (by simp only [List.mem_cons,List.mem_nil_iff,or_false,List.not_mem_nil] at hb ⊢; rcases hb with h | h | h | h | h <;> simp [h]; exact absurd h e)
   rw [qu0 (Nat.ne_of_lt lb)]
   exact (hf b hb).1
 done:=by
  intro X hP hw hK hc i pins s σ H E I hf Z hg
  subst hP hw hK
  obtain ⟨xs,ys,hxs,hys,hl⟩:=hg
  obtain ⟨its,rv,p,_⟩:=I.tuple hxs
  obtain ⟨jts,rw',p',_⟩:=I.tuple hys
  have e1:=rv.length
  have e2:=rw'.length
  have hf4:∀ b∈[z,o,q,r],FpOk X pins H b:=fun b hb=>hf b (by simp only [List.mem_cons,List.mem_nil_iff,or_false,List.not_mem_nil] at hb ⊢; rcases hb with rfl | rfl | rfl | rfl <;> simp)
  exact zip_end (I.ok.hd hc) D Z (show s.heap.IsTuple p1 its.toArray from p) (show s.heap.IsTuple p2 jts.toArray from p') (by simp; omega) fun h' kk=>⟨rfl,I.turnedL (t':=s.toks) kk hf4⟩
 self:=fun _ _ _ _ _ Z h=>wpAny_pyIter_zip Z.zip h
theorem turn_enum {P:Program}{w:World}{K:PySem.W.Frag}{es:List Expr}{k0:Nat}{pos:Pos}(b:Bool)(p e q:Addr)(ne:e≠q) :
  Turn P w K (.Tuple es k0 pos) (Ite K b p) [e,q] e (fun i h=>(∃ old,IsEnum h e q (i:Nat) old)∧IsIt h b q p i) where
 mem:=by simp
 obj:=fun i h Z c hb=>by
  obtain ⟨⟨old,he⟩,hq⟩:=Z
  simp only [List.mem_cons,List.mem_nil_iff,or_false,List.not_mem_nil] at hb
  rcases hb with rfl | rfl
  ·exact ⟨_,he,fun v e=>by cases e⟩
  ·exact hq.ex
 keep:=fun i h h' Z k=>by
  obtain ⟨⟨old,he⟩,hq⟩:=Z
  exact ⟨⟨old,k e (by simp) _ he⟩,hq.at fun u x=>k q (by simp) u x⟩
 item:=by
  intro X hP hw hK hc i pins s σ H E I hf Z hg
  subst hP hw hK
  obtain ⟨xs,x,hxs,hx⟩:=hg
  obtain ⟨its,rv,hp⟩:=hxs.at I
  obtain ⟨u,hu,ru⟩:=rv.get hx
  obtain ⟨⟨old,he⟩,hq⟩:=Z
  have lt:∀ b∈[e,q],b<s.heap.objs.size:=fun b hb=>by
   simp only [List.mem_cons,List.mem_nil_iff,or_false,List.not_mem_nil] at hb
   rcases hb with rfl | rfl
   ·exact Heap.lt_size he
   ·exact Heap.lt_size hq.ex.choose_spec.1
  refine enum_item he hq hp (x:=u) (by simpa using hu) ne fun h' he' hq' ht sz kk=>?_
  refine ⟨_,rfl,?_⟩
  refine wpAny_letOwnedTupleGo_enum he' fun h2 he2 s2=>?_
  replace s2:Heap.SameBut e h' h2:=s2
  have k1:Kept [e,q] s.heap h':=fun c o n x=>kk c o (fun z=>n (by simp [z])) (fun z=>n (by simp [z])) x
  have k2:Kept [e,q] s.heap h2:=k1.trans (Kept.of s2 (by simp))
  have ht2:h2.get? s.heap.objs.size=some { cls:=.type "tuple",data:=.seq #[.int i s.toks,u] }:=s2.extBut _ _ (Nat.ne_of_gt (lt e (by simp))) ht
  refine ⟨.ref s.heap.objs.size,upd H s.heap.objs.size (.tup [.int i,x]),I.pairOut (t':=s.toks+1) k2 hf lt ht2 ⟨_,rfl⟩ ru,rfl,⟨_,x,rfl,I.fresh,rfl,fun xs' h1=>?_⟩,⟨⟨u,?_⟩,hq'.at fun v c=>s2.extBut _ _ ne.symm c⟩,fun b hb=>?_⟩
  ·rw [h1.inj I hxs]
   exact hx
  ·show IsEnum h2 e q ((i+1:Nat):Int) u
   rw [Int.natCast_add]
   exact he2
  ·rw [qu0 (Nat.ne_of_lt (lt b hb))]
   exact (hf b hb).1
 done:=by
  intro X hP hw hK hc i pins s σ H E I hf Z hg
  subst hP hw hK
  obtain ⟨xs,hxs,hl⟩:=hg
  obtain ⟨its,rv,hp⟩:=hxs.at I
  obtain ⟨⟨old,he⟩,hq⟩:=Z
  have e1:=rv.length
  exact enum_end (I.ok.hd hc) he hq hp (by simp; omega) fun h' kk=>⟨rfl,I.turnedL (t':=s.toks) (ch:=[e,q]) (Kept.ext kk (by simp)) hf⟩
 self:=fun _ _ _ _ _ Z h=>by
  obtain ⟨⟨old,he⟩,hq⟩:=Z
  exact wpAny_pyIter_enum he h
theorem apart_new {n p1 p2:Nat}(h1:p1<n)(h2:p2<n):Apart (n+4) (n+2) (n+3) n (n+1) p1 p2:=by
 refine ⟨?_,fun h=>?_,fun h=>?_⟩
 ·simp only [List.nodup_cons,List.mem_cons,List.mem_nil_iff,or_false,not_or,List.not_mem_nil,not_false_eq_true,List.nodup_nil,and_true]
  have ne:∀ a b:Nat,a≠b→¬ a=b:=fun _ _ h=>h
  exact ⟨⟨ne _ _ (by omega),ne _ _ (by omega),ne _ _ (by omega),ne _ _ (by omega)⟩,⟨ne _ _ (by omega),ne _ _ (by omega),ne _ _ (by omega)⟩,⟨ne _ _ (by omega),ne _ _ (by omega)⟩,ne _ _ (by omega)⟩
 ·replace h:p1=n+4∨p1=n+3∨p1=n∨p1=n+1:=by simpa using h
  omega
 ·replace h:p2=n+4∨p2=n+3∨p2=n∨p2=n+1:=by simpa using h
  omega
theorem ge5 {n b:Nat}(h:b∈[n+4,n+2,n+3,n,n+1]):n≤b:=by
 simp only [List.mem_cons,List.mem_nil_iff,or_false,List.not_mem_nil] at h
 omega
theorem ge2 {n b:Nat}(h:b∈[n+1,n]):n≤b:=by
 simp only [List.mem_cons,List.mem_nil_iff,or_false,List.not_mem_nil] at h
 omega
section
variable {X:Cx}
def iZip (K:PySem.W.Frag)(ta:TA):TI:=fun σ H R=>ta σ H fun vs H1=>∃ a b xs ys,vs=[.ref a,.ref b]∧SqT K H1 a xs∧SqT K H1 b ys∧R (Itz K a b) H1
def iEnum (K:PySem.W.Frag)(b:Bool)(ta:TA):TI:=fun σ H R=>ta σ H fun vs H1=>∃ a xs,vs=[.ref a]∧Sq K H1 b a xs∧R (Ite K b a) H1
theorem pi_zip {es:List Expr}{k0:Nat}{tp:Pos}{a b:Expr}{ta:TA}{p pos:Pos}(hg:Gl X "zip")(hm:X.mg "zip"=none)(ha:PA X [a,b] ta)(hs:starEach [a,b] X.env=[(false,eval a X.env),(false,eval b X.env)]:=by rfl)(hs2:starEach [b] X.env=[(false,eval b X.env)]:=by rfl) :
  PI X (.Tuple es k0 tp) (.Call (.Name "zip" p) [a,b] [] pos) (iZip X.K ta):=by
 intro pins s σ H R I h
 refine Call_ (ld_blt I hg hm boot_zip (PyProof.Rows.callWith_type1 (thn (ha pos pins s σ H _ I h) fun us s1 ⟨vs,H1,I1,r1,q1⟩=>?_) (by rw [hs,hs2]) (by rw [hs2]; rfl)))
 obtain ⟨p1,p2,xs,ys,e,h1,h2,q⟩:=q1
 subst e
 obtain ⟨its,_,t1,_⟩:=I1.tuple h1
 obtain ⟨jts,_,t2,_⟩:=I1.tuple h2
 cases r1 with
 | cons r rr =>
  cases rr with
  | cons r' rr =>
   cases rr
   cases r
   cases r'
   have l1:p1<s1.heap.objs.size:=by obtain ⟨o,e,_⟩:=t1; exact Heap.lt_size e
   have l2:p2<s1.heap.objs.size:=by obtain ⟨o,e,_⟩:=t2; exact Heap.lt_size e
   refine call_zipT t1 t2 fun h' Z kk=>wpAny_pyIter_zip Z.zip ?_
   refine ⟨_,_,_,_,H1,rfl,I1.kept (t':=s1.toks) kk,turn_zip p1 p2 _ _ _ _ _ (apart_new l1 l2),Z,fun b hb=>?_,q⟩
   exact I1.fpOk (ge5 hb) (I1.hok.fresh (ge5 hb))
theorem pi_enum {es:List Expr}{k0:Nat}{tp:Pos}(bt:Bool){a:Expr}{ta:TA}{p pos:Pos}(hg:Gl X "enumerate")(hm:X.mg "enumerate"=none)(ha:PA X [a] ta)(hs:starEach [a] X.env=[(false,eval a X.env)]:=by rfl) :
  PI X (.Tuple es k0 tp) (.Call (.Name "enumerate" p) [a] [] pos) (iEnum X.K bt ta):=by
 intro pins s σ H R I h
 refine Call_ (ld_blt I hg hm boot_enumerate (PyProof.Rows.callWith_type1 (thn (ha pos pins s σ H _ I h) fun us s1 ⟨vs,H1,I1,r1,q1⟩=>?_) hs rfl))
 obtain ⟨p1,xs,e,h1,q⟩:=q1
 subst e
 obtain ⟨its,_,t1⟩:=h1.at I1
 cases r1 with
 | cons r rr =>
  cases rr
  cases r
  refine call_enum t1 fun h' he hq kk=>wpAny_pyIter_enum he ?_
  refine ⟨_,_,_,_,H1,rfl,I1.kept (t':=s1.toks) kk,turn_enum bt p1 _ _ (Nat.succ_ne_self _),⟨⟨_,he⟩,hq⟩,fun b hb=>?_,q⟩
  exact I1.fpOk (ge2 hb) (I1.hok.fresh (ge2 hb))
end
end Sv
namespace Sv
open PySem PySem.Spec PyProof.Rows L2
section
variable {K:PySem.W.Frag}{H:Hp}{R:It→Hp→Prop}{a b:Addr}{xs ys:List V}{vs:List V}
def ZipR (K:PySem.W.Frag)(vs:List V)(H:Hp)(R:It→Hp→Prop):Prop:=∃ a b xs ys,vs=[.ref a,.ref b]∧SqT K H a xs∧SqT K H b ys∧R (Itz K a b) H
theorem zip_ {ta:TA}{σ:L2.St}:iZip K ta σ H R=ta σ H fun vs H1=>ZipR K vs H1 R:=rfl
theorem ZipR.go (h1:SqT K H a xs)(h2:SqT K H b ys)(q:R (Itz K a b) H):ZipR K [.ref a,.ref b] H R:=⟨a,b,xs,ys,rfl,h1,h2,q⟩
def EnuR (K:PySem.W.Frag)(t:Bool)(vs:List V)(H:Hp)(R:It→Hp→Prop):Prop:=∃ a xs,vs=[.ref a]∧Sq K H t a xs∧R (Ite K t a) H
theorem enum_ {t:Bool}{ta:TA}{σ:L2.St}:iEnum K t ta σ H R=ta σ H fun vs H1=>EnuR K t vs H1 R:=rfl
theorem EnuR.go {t:Bool}(h1:Sq K H t a xs)(q:R (Ite K t a) H):EnuR K t [.ref a] H R:=⟨a,xs,rfl,h1,q⟩
structure ItP (J:It)(ps:List (V×V))(Ok:Hp→Prop):Prop where
 go:∀ i H,Ok H→i<ps.length→J.go i H
 yld:∀ i H v H',Ok H→i<ps.length→J.yld i H v H'→∃ t p,v=.ref t∧H t=none∧ps[i]?=some p∧H'=upd H t (.tup [p.1,p.2])
 stop:∀ i H,Ok H→ps.length≤i→J.stop i H
theorem itz:ItP (Itz K a b) (xs.zip ys) (fun H=>SqT K H a xs∧SqT K H b ys) where
 go:=fun i H ok lt=>by
  rw [List.length_zip] at lt
  exact ⟨xs,ys,xs[i]'(by omega),ys[i]'(by omega),ok.1,ok.2,List.getElem?_eq_getElem _,List.getElem?_eq_getElem _⟩
 yld:=fun i H v H' ok lt y=>by
  obtain ⟨t,x,z,rfl,n,rfl,h⟩:=y
  obtain ⟨h1,h2⟩:=h xs ys ok.1 ok.2
  refine ⟨t,(x,z),rfl,n,?_,rfl⟩
  rw [List.getElem?_zip_eq_some]
  exact ⟨h1,h2⟩
 stop:=fun i H ok le=>by
  rw [List.length_zip] at le
  exact ⟨xs,ys,ok.1,ok.2,by omega⟩
def enumV (xs:List V):List (V×V):=xs.zipIdx.map fun p=>(.int (p.2:Int),p.1)
theorem enumV_len:(enumV xs).length=xs.length:=by simp [enumV]
theorem enumV_get {i:Nat}{p:V×V}(h:(enumV xs)[i]?=some p):∃ x,xs[i]?=some x∧p=(.int (i:Int),x):=by
 unfold enumV at h
 rw [List.getElem?_map,List.getElem?_zipIdx] at h
 cases e:xs[i]? with
 | none =>
  rw [e] at h
  cases h
 | some x =>
  rw [e] at h
  refine ⟨x,rfl,?_⟩
  have:=Option.some.inj h
  rw [← this]
  simp
theorem ite {t:Bool}:ItP (Ite K t a) (enumV xs) (fun H=>Sq K H t a xs) where
 go:=fun i H ok lt=>by
  rw [enumV_len] at lt
  exact ⟨xs,xs[i],ok,List.getElem?_eq_getElem _⟩
 yld:=fun i H v H' ok lt y=>by
  obtain ⟨t,x,rfl,n,rfl,h⟩:=y
  have h1:=h xs ok
  refine ⟨t,(.int (i:Int),x),rfl,n,?_,rfl⟩
  unfold enumV
  rw [List.getElem?_map,List.getElem?_zipIdx,h1]
  simp
 stop:=fun i H ok le=>by
  rw [enumV_len] at le
  exact ⟨xs,ok,le⟩
theorem ForR.pairs {J:It}{ps:List (V×V)}{Ok:Hp→Prop}{m n:Nat}{tb:TS}{D:Ends}{σ:L2.St}(it:ItP J ps Ok)(Pv:Nat→L2.St→Hp→Prop)(h0:Pv 0 σ H)(hl:∀ i σ H,Pv i σ H→Ok H)
  (hs:∀ i p t σ H,ps[i]?=some p→Pv i σ H→H t=none→tb { D with nx:=Pv (i+1),ct:=Pv (i+1),bk:=D.nx } ((σ.set m (some p.1)).set n (some p.2)) (upd H t (.tup [p.1,p.2]))) (hd:∀ σ H,Pv ps.length σ H→D.nx σ H) :
  ForR J (gTup K 2 (gCons (gName m) (gCons (gName n) gNil))) tb D σ H:=by
 refine ⟨fun i k σ H=>k=ps.length - i∧i≤ps.length∧Pv i σ H,⟨_,rfl,Nat.zero_le _,h0⟩,fun i k σ' H' hw=>?_⟩
 obtain ⟨rfl,hi,p⟩:=hw
 by_cases lt:i<ps.length
 ·refine .inr ⟨it.go i H' (hl i σ' H' p) lt,Pv (i+1),fun σ2 H2 n2=>⟨_,?_,rfl,lt,n2⟩,fun v H2 y=>?_⟩
  ·omega
  ·obtain ⟨t,q,rfl,nt,hq,rfl⟩:=it.yld i H' v H2 (hl i σ' H' p) lt y
   exact gtup2 (SqT.of qe) (hs i q t σ' H' hq p nt)
 ·obtain rfl:i=ps.length:=by omega
  exact .inl ⟨it.stop _ _ (hl _ σ' H' p) (Nat.le_refl _),hd σ' H' p⟩
theorem CmpR.pairs {cap:List Nat}{te:TE}{J:It}{σ:L2.St}{Q:VK}{ps:List (V×V)}{Ok:Hp→Prop}(f:V×V→V)(it:ItP J ps Ok)(hz:ps.length≤1000)(ok:∀ H',Same H H'→Ok H')
  (hs:∀ p H' (Q':VK),p∈ps→Same H H'→(∀ H2,Same H' H2→Q' (f p) H2)→te (some p.1::some p.2::cap.map fun i=>σ.getD i none) H' Q')
  (hd:∀ D H',H D=none→Same H H'→H' D=some (.lst (ps.map f))→Q (.ref D) H'):CmpR 2 cap (gTup K 2 (gCons (gName 0) (gCons (gName 1) gNil))) tYes te J σ H Q:=by
 intro D hD
 have keep:∀ {H':Hp} {o:HO},Same H H'→Same H (upd H' D o):=fun sm b o e=>by
  rw [qu0 (qy0 e hD)]
  exact sm b o e
 refine ⟨fun i m σ' H'=>m=ps.length - i∧i≤ps.length∧∃ t u,σ'=t::u::(cap.map fun i=>σ.getD i none)∧Same H H'∧H' D=some (.lst ((ps.take i).map f)),⟨_,rfl,Nat.zero_le _,none,none,rfl,keep (Same.refl _),qe⟩,fun i m σ' H' hw=>?_⟩
 obtain ⟨rfl,hi,t,u,rfl,sm,hl⟩:=hw
 by_cases lt:i<ps.length
 ·refine .inr ⟨it.go i _ (ok _ sm) lt,fun σ2 H2=>∃ t u,σ2=t::u::(cap.map fun i=>σ.getD i none)∧Same H H2∧H2 D=some (.lst ((ps.take (i+1)).map f)),fun σ2 H2 n2=>⟨_,?_,rfl,lt,n2⟩,fun x H2 y=>?_⟩
  ·omega
  ·obtain ⟨r,p,rfl,nr,hx,rfl⟩:=it.yld i _ x H2 (ok _ sm) lt y
   have s1:Same H' (upd H' r (.tup [p.1,p.2])):=qh nr _
   refine gtup2 (SqT.of qe) ?_
   show te (some p.1::some p.2::(cap.map fun i=>σ.getD i none)) _ _
   refine hs p _ _ (List.mem_of_getElem? hx) (sm.trans s1) fun H3 s3=>⟨_,s3 _ _ (s1 _ _ hl),?_,_,_,rfl,keep ((sm.trans s1).trans s3),?_⟩
   ·rw [List.length_map,List.length_take]
    exact qs1 (by omega)
   ·rw [qe,List.take_add_one,hx,List.map_append]
    rfl
 ·obtain rfl:i=ps.length:=by omega
  refine .inl ⟨it.stop _ _ (ok _ sm) (Nat.le_refl _),?_⟩
  rw [List.take_length] at hl
  exact hd D H' hD sm hl
end
section
variable {X:Cx}
theorem pg_tupK {K:PySem.W.Frag}{pos:Pos}{es:List Expr}{k:Nat}{t:TGs}{n:Nat}(hK:X.K=K)(hc:X.calm=true)(h:PGs X es t)(hn:(assignEach es X.env).length=n:=by rfl)(hst:(assignEach es X.env).findIdx? (·.1)=none:=by rfl):PG X (.Tuple es k pos) (gTup K n t) :=
 hK▸pg_tup hc h hn hst
def rCatA (K:PySem.W.Frag):R2:=fun x y H Q=>∃ a b xs ys,x=.ref a∧y=.ref b∧SqT K H a xs∧SqT K H b ys∧xs.length+ys.length≤sizeLine ∧
 (xs=[]→Q (.ref b) H)∧(xs≠[]→ys=[]→Q (.ref a) H)∧(xs≠[]→ys≠[]→∀ p,H p=none→Q (.ref p) (upd H p (.tup (xs++ys))))
theorem op_catA:OpR X (binaryOp .Add) (rCatA X.K):=by
 intro pins s σ H x y v u Q I rx ry h
 obtain ⟨a,b,xs,ys,rfl,rfl,ha,hb,hz,q0,q1,q2⟩:=h
 by_cases hx:xs=[]
 ·cases rx
  cases ry
  obtain ⟨its,r1,p1,_⟩:=I.tuple ha
  obtain ⟨its2,r2,p2,_⟩:=I.tuple hb
  obtain ⟨⟨cls,dd,data,sl⟩,ho,hc,n,hd⟩:=id p1
  obtain ⟨⟨cls2,dd2,data2,sl2⟩,ho2,hc2,n2,hd2⟩:=id p2
  cases hc
  cases hd
  cases hc2
  cases hd2
  exact concat_meets ⟨_,ho,rfl⟩ ⟨_,ho2,rfl⟩ noFill_tuple_add seq_tuple_add PySem.F.slot_tuple_add PySem.F.entry_tuple_add (PySem.F.args_tuple_add_2 _ _)
   (tuple_addW0 a b its.toArray its2.toArray n n2 dd dd2 sl sl2 (by simp [r1.nil_iff.mpr hx])) ⟨ho,ho2,⟨.ref b,H,I,rfl,q0 hx⟩⟩
 ·exact op_catT pins s σ H _ _ v u Q I rx ry ⟨a,b,xs,ys,rfl,rfl,ha,hb,hx,hz,q1 hx,q2 hx⟩
theorem catA_go {K:PySem.W.Frag}{H:Hp}{Q:VK}{a b:Addr}{xs ys:List V}(ha:H a=some (.tup xs))(hb:H b=some (.tup ys))(hz:xs.length+ys.length≤1000)(q:∀ p H',Same H H'→H' p=some (.tup (xs++ys))→Q (.ref p) H'):rCatA K (.ref a) (.ref b) H Q:=by
 refine ⟨a,b,xs,ys,rfl,rfl,SqT.of ha,SqT.of hb,Nat.le_of_lt (qs1 hz),fun e=>q b H (Same.refl H) ?_,fun _ e=>q a H (Same.refl H) ?_,fun _ _ p hp=>q p _ (qh hp _) qe⟩
 ·rw [hb,e]
  rfl
 ·rw [ha,e,List.append_nil]
theorem slT_take {K:PySem.W.Frag}{H:Hp}{Q:VK}{a:Addr}{xs:List V}{k:Nat}(ha:H a=some (.tup xs))(hk:k<xs.length)(q:∀ p,H p=none→Q (.ref p) (upd H p (.tup (xs.take k)))):rSlT K (.ref a) none (some (k:Int)) H Q:=by
 refine ⟨a,xs,rfl,SqT.of ha,?_,?_⟩
 ·rw [HT.sIx_nat]
  omega
 ·rw [cut_take (Nat.le_of_lt hk)]
  exact q
theorem slT_drop {K:PySem.W.Frag}{H:Hp}{Q:VK}{a:Addr}{xs:List V}{k:Nat}(ha:H a=some (.tup xs))(hk:k<xs.length)(q:∀ p,H p=none→Q (.ref p) (upd H p (.tup (xs.drop (k+1))))):rSlT K (.ref a) (some ((k:Int)+1)) none H Q:=by
 have e:(k:Int)+1=((k+1:Nat):Int):=by omega
 rw [e]
 refine ⟨a,xs,rfl,SqT.of ha,?_,?_⟩
 ·rw [HT.sIx_nat]
  omega
 ·rw [cut_drop hk]
  exact q
end
end Sv
namespace Sv
open PySem PySem.Spec PyProof.Rows L2
structure FnM (P:Program)(w:World)(K:PySem.W.Frag)(mg:Str→Option Value)(base:Heap)(C:Addr)(m:Str)(k:Nat)(ps:List Str)(sp:Sp):Prop where
 ex:∃ (f:Addr) (fd:FuncData),FnOk P w K mg base CX0 k f fd ps sp∧Meth K C m f∧Binds K fd ps []
structure FnI (P:Program)(w:World)(K:PySem.W.Frag)(mg:Str→Option Value)(base:Heap)(C:Addr)(k:Nat)(ps:List Str)(sp:Sp):Prop where
 ex:∃ (f:Addr) (fd:FuncData),FnOk P w K mg base CX0 k f fd ps sp∧Mk K C f∧Binds K fd ps []
structure FnC (P:Program)(w:World)(K:PySem.W.Frag)(mg:Str→Option Value)(base:Heap)(C:Addr)(m:Str)(k:Nat)(ps:List Str)(sp:Sp):Prop where
 ex:∃ (f:Addr) (fd:FuncData),FnOk P w K mg base CX0 k f fd ps sp∧Binds K fd ps []∧PySem.W.keepIn K (.ref f)=true∧PySem.W.specialIn K (.ref C) "__getattribute__"=some (some (.builtin "type.__getattribute__")) ∧
  PySem.W.readsIn K C (.type "type")=true∧PySem.W.findCls K (.ref C) (.type "type") m=some (.val (.ref f))
structure MDef (K:PySem.W.Frag)(C:Addr)(m qual:Str)(st:Stmt):Prop where
 ex:∃ (f:Addr) (fd:FuncData),Fun K m qual st f fd∧PySem.W.findIn K (.ref C) m=some (some (.ref f))∧PySem.W.isFn K (.ref f)=true
theorem mk_mdef {K:PySem.W.Frag}{C:Addr}{m qual:Str}{st:Stmt}{f:Addr}{oc kV dc pm cd ct:Value}{od an:Option Addr}{sl:Array (Option Value)}(a:PySem.W.findIn K (.ref C) m=some (some (.ref f)))
  (l:K.lookup f=some ⟨oc,od,.func (PySem.W.fnOf m qual (defArgs st) (qh2 st) (qg st) .none kV dc pm an cd ct),sl⟩) (c:PySem.W.codeIn K cd qual=true) (k:PySem.W.keepIn K (.ref f)=true) (n:PySem.W.isFn K (.ref f)=true):MDef K C m qual st :=
 ⟨⟨f,_,fun_mk l c k,a,n⟩⟩
section
variable {P:Program}{w:World}{K:PySem.W.Frag}{mg:Str→Option Value}{base:Heap}{C:Addr}{m qual:Str}{st:Stmt}{k:Nat}{ps:List Str}{sp:Sp}
theorem MDef.fnM (D:MDef K C m qual st)(b:∀ (kV doc pm:Value) (an:Option Addr) (cdv ct:Value) (us:List Value),us.length=ps.length→bindArgs (PySem.W.fnOf m qual (defArgs st) (qh2 st) (qg st) .none kV doc pm an cdv ct) ⟨us,[]⟩=pure (ps.zip us))
  (ok:∀ (f:Addr) (fd:FuncData),Fun K m qual st f fd→FnOk P w K mg base CX0 k f fd ps sp):FnM P w K mg base C m k ps sp:=by
 obtain ⟨f,fd,F,a,n⟩:=D.ex
 exact ⟨⟨f,fd,ok f fd F,⟨a,n,F.kp⟩,F.binds b⟩⟩
theorem MDef.fnI (D:MDef K C "__init__" qual st)(mk:PySem.W.makesIn K C=true)(kp:PySem.W.keepIn K (.ref C)=true)(b:∀ (kV doc pm:Value) (an:Option Addr) (cdv ct:Value) (us:List Value),us.length=ps.length→bindArgs (PySem.W.fnOf "__init__" qual (defArgs st) (qh2 st) (qg st) .none kV doc pm an cdv ct) ⟨us,[]⟩=pure (ps.zip us))
  (ok:∀ (f:Addr) (fd:FuncData),Fun K "__init__" qual st f fd→FnOk P w K mg base CX0 k f fd ps sp):FnI P w K mg base C k ps sp:=by
 obtain ⟨f,fd,F,a,n⟩:=D.ex
 exact ⟨⟨f,fd,ok f fd F,⟨mk,a,n,kp⟩,F.binds b⟩⟩
structure ClsDef (K:PySem.W.Frag)(C:Addr)(m qual:Str)(st:Stmt):Prop where
 ex:∃ (f:Addr) (fd:FuncData),Fun K m qual st f fd∧PySem.W.findCls K (.ref C) (.type "type") m=some (.val (.ref f))
 ga:PySem.W.specialIn K (.ref C) "__getattribute__"=some (some (.builtin "type.__getattribute__"))
 rd:PySem.W.readsIn K C (.type "type")=true
theorem mk_cdef {f:Addr}{oc kV dc pm cd ct:Value}{od an:Option Addr}{sl:Array (Option Value)}(a:PySem.W.findCls K (.ref C) (.type "type") m=some (.val (.ref f)))
  (l:K.lookup f=some ⟨oc,od,.func (PySem.W.fnOf m qual (defArgs st) (qh2 st) (qg st) .none kV dc pm an cd ct),sl⟩) (c:PySem.W.codeIn K cd qual=true) (k:PySem.W.keepIn K (.ref f)=true)
  (g:PySem.W.specialIn K (.ref C) "__getattribute__"=some (some (.builtin "type.__getattribute__"))) (r:PySem.W.readsIn K C (.type "type")=true):ClsDef K C m qual st:=⟨⟨f,_,fun_mk l c k,a⟩,g,r⟩
theorem ClsDef.fnC (D:ClsDef K C m qual st)(b:∀ (kV doc pm:Value) (an:Option Addr) (cdv ct:Value) (us:List Value),us.length=ps.length→bindArgs (PySem.W.fnOf m qual (defArgs st) (qh2 st) (qg st) .none kV doc pm an cdv ct) ⟨us,[]⟩=pure (ps.zip us))
  (ok:∀ (f:Addr) (fd:FuncData),Fun K m qual st f fd→FnOk P w K mg base CX0 k f fd ps sp):FnC P w K mg base C m k ps sp:=by
 obtain ⟨f,fd,F,a⟩:=D.ex
 exact ⟨⟨f,fd,ok f fd F,F.binds b,F.kp,D.ga,D.rd,a⟩⟩
end
section
variable {X:Cx}{k j:Nat}{C:Addr}{ps:List Str}{sp:Sp}{x m:Str}{p pos apos:Pos}{e o:Expr}{es:List Expr}{ta:TE}{t:TA}{pl:Sem Bool}
def tMethA (P:Program)(w:World)(K:PySem.W.Frag)(mg:Str→Option Value)(base:Heap)(j:Nat)(m:Str)(ta:TE)(t:TA):TE:=fun σ H Q=>ta σ H fun x H1=>∃ (a C dx:Addr) (fs:List (Str×V)) (k:Nat) (ps:List Str) (sp:Sp),
 x=.ref a∧H1 a=some (.ins C dx fs)∧fs.lookup m=none∧k≤j∧Cls K C∧FnM P w K mg base C m k ps sp∧t σ H1 fun vs H2=>sp (x::vs) H2 Q E0
theorem qq1 (he:PE X o ta)(hr:Room j X.A)(ha:PA X (e::es) t)(hst:starEach (e::es) X.env=(false,eval e X.env)::starEach es X.env:=by rfl)(hpl:(backTo pos (starEach es X.env)).any (·.1)=false:=by rfl)
  (ht:eval (.Call (.Attribute o m apos) (e::es) [] pos) X.env=(do
   let ov ← eval o X.env
   standAt apos.atName
   let (f,first) ← holding [ov] (getMethod ov m pl)
   callWith pos f first (backTo pos (starEach (e::es) X.env)) (backToKw pos (keywordEach [] X.env))):=by rfl):PE X (.Call (.Attribute o m apos) (e::es) [] pos) (tMethA X.prog X.w X.K X.mg X.base j m ta t):=by
 intro pins s σ H Q I h
 refine PySem.W.methodCall_KW (pl:=pl) (thn (he pins s σ H _ I h) fun u s1 ⟨x,H1,I1,rx,a,C,dx,fs,k,ps,sp,ex,ea,l,hk,c,F,q⟩=>?_) ht
 subst ex
 obtain rfl:u=Value.ref a:=rx
 obtain ⟨f,fd,G,hm,b⟩:=F.ex
 refine getmeth_ok I1 ea c hm l ?_
 refine PySem.W.callWith_K (first:=[.ref a]) (h₀:=X.base) I.ok.mod.kin hm.kp (thn (ha pos pins s1 σ H1 _ I1 q) fun us s2 ⟨vs,H2,I2,r,q2⟩=>⟨I2.kIn,?_⟩) hst hpl
 exact run_fn (us:=.ref a::us) (vs:=.ref a::vs) G (hr.mono hk) b .nil pass0 I2 (.cons rfl r) (by rw [List.append_nil]; exact q2)
theorem pe_methA0 (he:PE X o ta)(hr:Room j X.A)
  (ht:eval (.Call (.Attribute o m apos) [] [] pos) X.env=(do
   let ov ← eval o X.env
   standAt apos.atName
   let (f,first) ← holding [ov] (getMethod ov m pl)
   callWith pos f first (backTo pos (starEach [] X.env)) (backToKw pos (keywordEach [] X.env))):=by rfl):PE X (.Call (.Attribute o m apos) [] [] pos) (tMethA X.prog X.w X.K X.mg X.base j m ta tNil):=by
 intro pins s σ H Q I h
 refine PySem.W.methodCall_KW (pl:=pl) (thn (he pins s σ H _ I h) fun u s1 ⟨x,H1,I1,rx,a,C,dx,fs,k,ps,sp,ex,ea,l,hk,c,F,q⟩=>?_) ht
 subst ex
 obtain rfl:u=Value.ref a:=rx
 obtain ⟨f,fd,G,hm,b⟩:=F.ex
 refine getmeth_ok I1 ea c hm l ?_
 exact PySem.W.callWith_K0 (first:=[.ref a]) I1.kIn hm.kp (run_fn (us:=[.ref a]) (vs:=[.ref a]) G (hr.mono hk) b .nil pass0 I1 (.cons rfl .nil) (by exact q))
theorem pe_new (F:FnI X.prog X.w X.K X.mg X.base C k ps sp)(hr:Room j X.A)(hk:k+1≤j)(hg:Gl X x)(hm:X.mg x=some (.ref C))(ha:PA X (e::es) t)(hdb:(x == ("__debug__":Str))=false:=by decide)
  (he:starEach (e::es) X.env=(false,eval e X.env)::starEach es X.env:=by rfl) (hpl:(backTo pos (starEach es X.env)).any (·.1)=false:=by rfl):PE X (.Call (.Name x p) (e::es) [] pos) (tMake C sp [] E0 t):=by
 obtain ⟨f,fd,G,M,b⟩:=F.ex
 exact pe_make M G (hr.mono hk) hg hm b .nil pass0 ha hdb he hpl
theorem pe_cm (he:PE X o (tC (.ref C)))(F:FnC X.prog X.w X.K X.mg X.base C m k ps sp)(hr:Room j X.A)(hk:k≤j)(ha:PA X (e::es) t)(hst:starEach (e::es) X.env=(false,eval e X.env)::starEach es X.env:=by rfl)(hpl:(backTo pos (starEach es X.env)).any (·.1)=false:=by rfl)
  (ht:eval (.Call (.Attribute o m apos) (e::es) [] pos) X.env=(do
   let ov ← eval o X.env
   standAt apos.atName
   let (f,first) ← holding [ov] (getMethod ov m pl)
   callWith pos f first (backTo pos (starEach (e::es) X.env)) (backToKw pos (keywordEach [] X.env))):=by rfl):PE X (.Call (.Attribute o m apos) (e::es) [] pos) (tCall sp [] E0 t):=by
 intro pins s σ H Q I h
 obtain ⟨f,fd,G,b,kp,g1,g2,g3⟩:=F.ex
 refine PySem.W.methodCall_KW (pl:=pl) (thn (he pins s σ H (fun x H1=>x=.ref C∧H1=H) I ⟨rfl,rfl⟩) fun u s1 ⟨x,H1,I1,rx,ex,eH⟩=>?_) ht
 subst ex eH
 obtain rfl:u=Value.ref C:=rx
 refine PySem.W.method_cls I1.kIn g1 (PySem.W.cls_value I1.kIn g2 g3 (handed_of (v:=.ref f) rfl) ?_)
 have I2:=I1.tok (s1.toks+1)
 refine PySem.W.callWith_K (first:=[]) (h₀:=X.base) I.ok.mod.kin kp (thn (ha pos pins _ σ H1 _ I2 h) fun us s2 ⟨vs,H2,I3,r,q2⟩=>⟨I3.kIn,?_⟩) hst hpl
 exact run_fn G (hr.mono hk) b .nil pass0 I3 r q2
def rIsiC (K:PySem.W.Frag):List V→Hp→VK→Prop:=fun xs H Q=>∃ x C t b,xs=[x,.ref C]∧TyOf K H x t∧PySem.W.kitOne K t (.ref C)=some b∧Q (.bl b) H
theorem call_isiC:CallR X (.builtin "isinstance") (rIsiC X.K):=by
 intro pins s σ H xs us Q I r h
 obtain ⟨x,C,t,b,rfl,ty,e,q⟩:=h
 obtain ⟨u,w',rfl,ru,rw'⟩:=vals2 r
 cases rw'
 exact isinst_ok I ru ty e fun tk=>⟨.bl b,H,I.tok _,rfl,q⟩
end
section
variable {K:PySem.W.Frag}{H:Hp}{Q:VK}{σ:L2.St}{ta tv:TE}{t:TA}{f:Str}{D:Ends}{a C dx:Addr}{fs:List (Str×V)}{v y:V}{sp:Sp}{vs:List V}
def FldR (K:PySem.W.Frag)(f:Str)(x:V)(H:Hp)(Q:VK):Prop:=∃ a C dx fs v,x=.ref a∧H a=some (.ins C dx fs)∧Cls K C∧NoAttr K C f∧fs.lookup f=some v∧Q v H
theorem fld_:tFld K ta f σ H Q=ta σ H fun x H1=>FldR K f x H1 Q:=rfl
theorem FldR.go (h:H a=some (.ins C dx fs))(c:Cls K C)(n:NoAttr K C f)(l:fs.lookup f=some v)(q:Q v H):FldR K f (.ref a) H Q:=⟨a,C,dx,fs,v,rfl,h,c,n,l,q⟩
def SFldR (K:PySem.W.Frag)(f:Str)(y x:V)(H:Hp)(R:Hp→Prop):Prop:=∃ a C dx fs,x=.ref a∧H a=some (.ins C dx fs)∧Cls K C∧NoAttr K C f∧fs.length<1000∧R (upd H a (.ins C dx (putF f y fs)))
theorem sfld_:sFld K ta tv f D σ H=tv σ H fun y H1=>ta σ H1 fun x H2=>SFldR K f y x H2 fun H'=>D.nx σ H':=rfl
theorem SFldR.go {R:Hp→Prop}(h:H a=some (.ins C dx fs))(c:Cls K C)(n:NoAttr K C f)(l:fs.length<1000)(q:R (upd H a (.ins C dx (putF f y fs)))):SFldR K f y (.ref a) H R:=⟨a,C,dx,fs,rfl,h,c,n,l,q⟩
def MakeR (C:Addr)(sp:Sp)(vs:List V)(H:Hp)(Q:VK):Prop:=∀ x dx,H x=none→H dx=none→dx≠x→sp (.ref x::vs) (upd (upd H dx (.own x)) x (.ins C dx [])) (fun v H2=>v=.non∧Q (.ref x) H2) E0
theorem make_:tMake C sp [] E0 t σ H Q=t σ H fun vs H1=>MakeR C sp vs H1 Q:=by
 unfold tMake MakeR
 simp only [List.append_nil]
def MethR (P:Program)(w:World)(K:PySem.W.Frag)(mg:Str→Option Value)(base:Heap)(j:Nat)(m:Str)(x:V)(t:TA)(σ:L2.St)(H:Hp)(Q:VK):Prop:=∃ (a C dx:Addr) (fs:List (Str×V)) (k:Nat) (ps:List Str) (sp:Sp),
 x=.ref a∧H a=some (.ins C dx fs)∧fs.lookup m=none∧k≤j∧Cls K C∧FnM P w K mg base C m k ps sp∧t σ H fun vs H2=>sp (x::vs) H2 Q E0
theorem methA_ {P:Program}{w:World}{mg:Str→Option Value}{base:Heap}{j:Nat}{m:Str}:tMethA P w K mg base j m ta t σ H Q=ta σ H fun x H1=>MethR P w K mg base j m x t σ H1 Q:=rfl
theorem MethR.go {P:Program}{w:World}{mg:Str→Option Value}{base:Heap}{j k:Nat}{m:Str}{ps:List Str}(F:FnM P w K mg base C m k ps sp)(h:H a=some (.ins C dx fs))(c:Cls K C)(l:fs.lookup m=none)(hk:k≤j)(q:t σ H fun vs H2=>sp (.ref a::vs) H2 Q E0):MethR P w K mg base j m (.ref a) t σ H Q :=
 ⟨a,C,dx,fs,k,ps,sp,rfl,h,l,hk,c,F,q⟩
theorem rNeB_ {i j:Bool}:rNe (.bl i) (.bl j) H Q=Q (.bl (!decide (i=j))) H:=by
 have e:decide (V.bl i=V.bl j)=decide (i=j):=decide_eq_decide.mpr ⟨fun h=>V.bl.inj h,fun h=>by rw [h]⟩
 unfold rNe
 rw [e]
 exact propext ⟨fun h=>h.2,fun h=>⟨rfl,h⟩⟩
end
end Sv
namespace Sv
open PySem PySem.Spec PyProof.Rows L2
inductive All2 {α β:Type} (R:α→β→Prop):List α→List β→Prop where
 | nil:All2 R [] []
 | cons {x:α} {y:β} {xs:List α} {ys:List β} (h:R x y) (t:All2 R xs ys):All2 R (x::xs) (y::ys)
section
variable {α β:Type}{R S:α→β→Prop}{xs us:List α}{ys vs:List β}
theorem All2.len (h:All2 R xs ys):xs.length=ys.length:=by
 induction h with
 | nil=>rfl
 | cons _ _ ih=>rw [List.length_cons,List.length_cons,ih]
theorem All2.imp (h:All2 R xs ys)(k:∀ x y,R x y→S x y):All2 S xs ys:=by
 induction h with
 | nil=>exact .nil
 | cons h _ ih=>exact .cons (k _ _ h) ih
theorem All2.app (h:All2 R xs ys)(k:All2 R us vs):All2 R (xs++us) (ys++vs):=by
 induction h with
 | nil=>exact k
 | cons h _ ih=>exact .cons h ih
theorem All2.snoc {x:α}{y:β}(h:All2 R xs ys)(k:R x y):All2 R (xs++[x]) (ys++[y]):=h.app (.cons k .nil)
theorem All2.at {i:Nat}{x:α}(h:All2 R xs ys)(e:xs[i]?=some x):∃ y,ys[i]?=some y∧R x y:=by
 induction h generalizing i with
 | nil=>cases e
 | cons h _ ih =>
  cases i with
  | zero =>
   cases e
   exact ⟨_,rfl,h⟩
  | succ i=>exact ih e
theorem All2.ix {i:Nat}{y:β}(h:All2 R xs ys)(e:ys[i]?=some y):∃ x,xs[i]?=some x∧R x y:=by
 induction h generalizing i with
 | nil=>cases e
 | cons h _ ih =>
  cases i with
  | zero =>
   cases e
   exact ⟨_,rfl,h⟩
  | succ i=>exact ih e
end
theorem CmpR.rel {cap:List Nat}{te:TE}{J:It}{σ:L2.St}{H:Hp}{Q:VK}{xs:List V}{Ok:Hp→Prop}(R:Addr→Hp→V→V→Prop)(mono:∀ D H H' x v,(∀ b o,b≠D→H b=some o→H' b=some o)→R D H x v→R D H' x v)(it:ItOf J xs Ok)(hz:xs.length≤1000)(ok:∀ H',Same H H'→Ok H')
  (hs:∀ D x H' ys (Q':VK),x∈xs→H D=none→Same H H'→H' D=some (.lst ys)→(∀ v H2,Same H' H2→R D H2 x v→Q' v H2)→te (some x::cap.map fun i=>σ.getD i none) H' Q')
  (hd:∀ D H' vs,H D=none→Same H H'→H' D=some (.lst vs)→All2 (R D H') xs vs→Q (.ref D) H'):CmpR 1 cap (gName 0) tYes te J σ H Q:=by
 intro D hD
 have keep:∀ {H':Hp} {o:HO},Same H H'→Same H (upd H' D o):=fun sm b o e=>by
  rw [qu0 (qy0 e hD)]
  exact sm b o e
 refine ⟨fun i m σ' H'=>m=xs.length - i∧i≤xs.length∧∃ t vs,σ'=t::(cap.map fun i=>σ.getD i none)∧Same H H'∧H' D=some (.lst vs)∧All2 (R D H') (xs.take i) vs,⟨_,rfl,Nat.zero_le _,none,[],rfl,keep (Same.refl _),qe,.nil⟩,fun i m σ' H' hw=>?_⟩
 obtain ⟨rfl,hi,t,vs,rfl,sm,hl,al⟩:=hw
 by_cases lt:i<xs.length
 ·refine .inr ⟨it.go i _ (ok _ sm) lt,fun σ2 H2=>∃ t vs,σ2=t::(cap.map fun i=>σ.getD i none)∧Same H H2∧H2 D=some (.lst vs)∧All2 (R D H2) (xs.take (i+1)) vs,fun σ2 H2 n2=>⟨_,?_,rfl,lt,n2⟩,fun x H2 y=>?_⟩
  ·omega
  ·obtain ⟨rfl,hx⟩:=it.yld i _ x H2 (ok _ sm) lt y
   show te (some x::(cap.map fun i=>σ.getD i none)) _ _
   refine hs D x H2 vs _ (List.mem_of_getElem? hx) hD sm hl fun v H3 s3 r=>⟨_,s3 _ _ hl,?_,_,vs++[v],rfl,keep (sm.trans s3),qe,?_⟩
   ·have:=al.len
    rw [List.length_take] at this
    exact qs1 (by omega)
   ·rw [List.take_add_one,hx,Option.toList_some]
    refine (All2.snoc (al.imp fun a b r=>mono D H2 _ a b (fun c o ne e=>?_) r) (mono D H3 _ x v (fun c o ne e=>?_) r))
    ·rw [qu0 ne]
     exact s3 _ _ e
    ·rw [qu0 ne]
     exact e
 ·obtain rfl:i=xs.length:=by omega
  refine .inl ⟨it.stop _ _ (ok _ sm) (Nat.le_refl _),?_⟩
  rw [List.take_length] at al
  exact hd D H' vs hD sm hl al
end Sv
namespace Sv
open PySem PySem.Spec PyProof.Rows L2
section
variable {M:Model}{A:Around}{E:Value→Shared→Prop}{env:Env}
variable {nm q:Str}{C N:Addr}{bs bm:List Value}{hdct:Bool}{sn:List Str}{sub:List Value}{ab:Bool}{col:Option Bool}{dd:Option Addr}{k0 k1 k2 k3 k5:Option Value}{newId:String}
end
section
variable {prog:Program}{w:World}{A:Around}{E:Value→Shared→Prop}{h:Heap}{g:Array GenState}{d:Drawn}{t:Nat}{os:OsState}
variable {nm q:Str}{C N:Addr}{bs bm bmB:List Value}{hdct:Bool}{sn:List Str}{sub:List Value}{ab:Bool}{col:Option Bool}{dd:Option Addr}{k0 k1 k2 k3 k5:Option Value}{B newId initId:String}
end
section
variable {prog:Program}{w:World}{A:Around}{E:Value→Shared→Prop}{s:Shared}{env:Env}
variable {nm q:Str}{C N:Addr}{bs bm bmB:List Value}{hdct:Bool}{sn:List Str}{sub:List Value}{ab:Bool}{col:Option Bool}{dd:Option Addr}{k0 k1 k2 k3 k5:Option Value}{B newId initId:String}
end
end Sv
namespace Sv
open PySem PySem.Spec PyProof.Rows L2 PySem.W Builtin Builtin.ObjectAttr
section
variable {K:PySem.W.Frag}{prog:Program}{w:World}{A:Around}{E:Value→Shared→Prop}{s:Shared}{x C:Addr}{name:Str}{v:Value}
end
end Sv
namespace Sv
open PySem PySem.Spec PyProof.Rows L2
section
variable {prog:Program}{w:World}{A:Around}{E:Value→Shared→Prop}{K:PySem.W.Frag}{x D:Addr}{ox:Obj}{odo:Option Obj}{name:Str}{s:Shared}
end
def IsExc (H:Hp)(a C:Addr)(dd:Option Addr):Prop:=∃ φ,H a=some (.ext φ)∧∀ h,φ h→∃ (vs:Array Value) (sl:Array (Option Value)),h.get? a=some ⟨.ref C,dd,.fields vs,sl⟩
theorem IsExc.of {H:Hp}{a C:Addr}{dd:Option Addr}(h:H a=some (excO a (.ref C) dd)):IsExc H a C dd:=⟨_,h,fun _ z=>z⟩
section
variable {X:Cx}{e:Expr}{ta:TE}{f:Str}{pos:Pos}
end
end Sv
namespace Sv
open PySem PySem.Spec PyProof.Rows L2
section
variable {prog:Program}{w:World}{A:Around}{E:Value→Shared→Prop}{h:Heap}{g:Array GenState}{d:Drawn}{t:Nat}{os:OsState}
variable {nm q:Str}{C N:Addr}{bs bm bmB:List Value}{hdct:Bool}{sn:List Str}{sub:List Value}{ab:Bool}{col:Option Bool}{dd:Option Addr}{k0 k1 k2 k3 k5:Option Value}{B newId nid initId:String}
end
section
variable {X:Cx}{o value:Expr}{f:Str}{ta tv:TE}{pos pos':Pos}
end
end Sv
namespace Sv
open PySem PySem.Spec PyProof.Rows L2
section
variable {X:Cx}{C0:Addr}{pos apos:Pos}{e o:Expr}{es:List Expr}{t:TA}{pl:Sem Bool}
end
def del (H:Hp)(a:Addr):Hp:=fun b=>if b=a then none else H b
theorem del_ne {H:Hp}{a b:Addr}(h:b≠a):del H a b=H b:=if_neg h
theorem del_same {H:Hp}{a:Addr}:del H a a=none:=if_pos rfl
theorem _root_.L2.Inv.del {X:Cx}{pins:List (Addr×Obj)}{σ:L2.St}{H:Hp}{s:Shared}{a:Addr}{φ:Heap→Prop}(I:Inv X pins σ H s)(h:H a=some (.ext φ)):Inv X pins σ (Sv.del H a) s:=by
 have ne:∀ b u,H b=some u→(∀ ψ,u≠.ext ψ)→b≠a:=fun b u e n z=>by
  rw [z,h] at e
  exact n φ (Option.some.inj e).symm
 have dn:∀ b,H b=none→Sv.del H a b=none:=fun b e=>by
  by_cases z:b=a
  ·rw [z]
   exact del_same
  ·rw [del_ne z]
   exact e
 refine ⟨I.ok,I.os,I.bare,⟨I.base.keep,I.base.slot,fun b o e n hx=>dn b (I.base.free b o e n hx),I.base.there,fun b xs e=>?_,fun b o u e=>?_,fun b ps e=>?_⟩,I.loc,I.cell,dn _ I.free,fun x c e=>dn _ (I.freeC x c e),fun p hp=>?_,fun b u e=>?_,I.len⟩
 ·have q:=I.base.tups b xs e
  rw [del_ne (ne b _ q fun _ z=>by cases z)]
  exact q
 ·have q:=I.base.frzs b o u e
  rw [del_ne (ne b _ q fun _ z=>by cases z)]
  exact q
 ·obtain ⟨more,q⟩:=I.base.tbls b ps e
  exact ⟨more,by rw [del_ne (ne b _ q fun _ z=>by cases z)]; exact q⟩
 ·obtain ⟨e,n,r⟩:=I.pin p hp
  exact ⟨e,dn _ n,r⟩
 ·have hb:b≠a:=fun z=>by
   rw [z,del_same] at e
   cases e
  rw [del_ne hb] at e
  exact (I.hok b u e).stay (fun _ _ _ q=>q) (fun c q=>by rw [del_ne (ne c _ q fun _ z=>by cases z)]; exact q) fun c xs q=>by rw [del_ne (ne c _ q fun _ z=>by cases z)]; exact q
end Sv
namespace L2
open PySem PySem.Spec PyProof.Rows
section
variable {κ:Type} [DecidableEq κ]
def valV (kvs:List (κ×V))(k:κ):Option V:=(kvs.find? fun kv=>decide (kv.1=k)).map (·.2)
def putK (kvs:List (κ×V))(k:κ)(v:V):List (κ×V) :=
  if (kvs.any fun kv=>decide (kv.1=k))=true then kvs.map (fun kv=>if kv.1=k then (kv.1,v) else kv) else kvs++[(k,v)]
def dropK (kvs:List (κ×V))(k:κ):List (κ×V):=kvs.filter fun kv=>decide (kv.1≠k)
theorem valV_pos {p:κ×V}{r:List (κ×V)}{k:κ}(e:p.1=k):valV (p::r) k=some p.2:=by simp [valV,List.find?_cons,e]
theorem valV_neg {p:κ×V}{r:List (κ×V)}{k:κ}(e:¬ p.1=k):valV (p::r) k=valV r k:=by simp [valV,List.find?_cons,e]
theorem valV_any (k:κ):∀ kvs:List (κ×V),(kvs.any fun kv=>decide (kv.1=k))=(valV kvs k).isSome
  | []=>rfl
  | p::r=>by
    rw [List.any_cons]
    by_cases e:p.1=k
    · simp only [valV_pos e,decide_eq_true e,Bool.true_or,Option.isSome_some]
    · rw [valV_neg e,decide_eq_false e,Bool.false_or]; exact valV_any k r
theorem length_putK (kvs:List (κ×V))(k:κ)(v:V):(putK kvs k v).length≤kvs.length+1:=by
  unfold putK
  split
  · rw [List.length_map]; omega
  · rw [List.length_append,List.length_cons,List.length_nil]; omega
theorem putK_new {kvs:List (κ×V)}{k:κ}(v:V)(h:valV kvs k=none):putK kvs k v=kvs++[(k,v)]:=by
  unfold putK
  rw [valV_any,h]
  exact if_neg (by decide)
theorem RelO.isSome_eq {o:Option V}{u:Option Value}(r:RelO o u):o.isSome=u.isSome:=by
  cases o with
  | none=>cases u with
    | none=>rfl
    | some _=>exact (show False from r).elim
  | some _=>cases u with
    | none=>exact (show False from r).elim
    | some _=>rfl
theorem RelO.getD {o:Option V}{u:Option Value}{d:V}{d':Value}(r:RelO o u)(rd:RelV d d'):RelV (o.getD d) (u.getD d'):=by
  cases o with
  | none=>cases u with
    | none=>exact rd
    | some _=>exact (show False from r).elim
  | some _=>cases u with
    | none=>exact (show False from r).elim
    | some _=>exact r
theorem KV.val {kvs:List (κ×V)}{vs:List (κ×Value)}(r:KV kvs vs)(k:κ):RelO (valV kvs k) (valueAt vs k):=by
  unfold KV at r
  induction r with
  | nil=>exact True.intro
  | @cons p q ps qs h t ih =>
    obtain ⟨h1,h2⟩:=h
    by_cases e:p.1=k
    · have e':q.1=k:=h1.symm.trans e
      have b:valueAt (q::qs) k=some q.2:=by simp [valueAt,List.find?_cons,e']
      rw [valV_pos e,b]; exact h2
    · have e':¬ q.1=k:=fun z=>e (h1.trans z)
      have b:valueAt (q::qs) k=valueAt qs k:=by simp [valueAt,List.find?_cons,e']
      rw [valV_neg e,b]; exact ih
theorem KV.any {kvs:List (κ×V)}{vs:List (κ×Value)}(r:KV kvs vs)(k:κ):(kvs.any fun kv=>decide (kv.1=k))=vs.any fun kv=>decide (kv.1=k):=by
  unfold KV at r
  induction r with
  | nil=>rfl
  | cons h t ih=>rw [List.any_cons,List.any_cons,ih,h.1]
theorem KV.repl {kvs:List (κ×V)}{vs:List (κ×Value)}(r:KV kvs vs)(k:κ){y:V}{u:Value}(ry:RelV y u) :
    KV (kvs.map fun kv=>if kv.1=k then (kv.1,y) else kv) (vs.map fun kv=>if kv.1=k then (kv.1,u) else kv):=by
  unfold KV at r ⊢
  induction r with
  | nil=>exact .nil
  | @cons p q ps qs h t ih =>
    rw [List.map_cons,List.map_cons]
    refine .cons ?_ ih
    obtain ⟨h1,h2⟩:=h
    by_cases e:p.1=k
    · rw [if_pos e,if_pos (h1.symm.trans e)]; exact ⟨h1,ry⟩
    · rw [if_neg e,if_neg (fun z=>e (h1.trans z))]; exact ⟨h1,h2⟩
theorem KV.put {kvs:List (κ×V)}{vs:List (κ×Value)}(r:KV kvs vs)(k:κ){y:V}{u:Value}(ry:RelV y u):KV (putK kvs k y) (stored vs k u):=by
  unfold putK stored
  rw [r.any k]
  by_cases e:(vs.any fun kv=>decide (kv.1=k))=true
  · rw [if_pos e,if_pos e]; exact r.repl k ry
  · rw [if_neg e,if_neg e]; exact Paired.snoc r ⟨rfl,ry⟩
theorem KV.drop {kvs:List (κ×V)}{vs:List (κ×Value)}(r:KV kvs vs)(k:κ):KV (dropK kvs k) (without vs k):=by
  unfold KV at r ⊢
  unfold dropK without
  induction r with
  | nil=>exact .nil
  | @cons p q ps qs h t ih =>
    obtain ⟨h1,h2⟩:=h
    rw [List.filter_cons,List.filter_cons]
    by_cases e:p.1=k
    · have a:¬ decide (p.1≠k)=true:=by simp [e]
      have b:¬ decide (q.1≠k)=true:=by simp [h1.symm.trans e]
      rw [if_neg a,if_neg b]; exact ih
    · have e':¬ q.1=k:=fun z=>e (h1.trans z)
      have a:decide (p.1≠k)=true:=by simp [e]
      have b:decide (q.1≠k)=true:=by simp [e']
      rw [if_pos a,if_pos b]; exact .cons ⟨h1,h2⟩ ih
theorem KV.keys {kvs:List (κ×V)}{vs:List (κ×Value)}(r:KV kvs vs):kvs.map (·.1)=vs.map (·.1):=by
  unfold KV at r
  induction r with
  | nil=>rfl
  | cons h t ih=>rw [List.map_cons,List.map_cons,ih,h.1]
theorem KV.length {kvs:List (κ×V)}{vs:List (κ×Value)}(r:KV kvs vs):kvs.length=vs.length:=Paired.length r
end
theorem kV_is {P:Program}{w:World}{k:Key}{u:Value}(r:RelV (kV k) u):(mixKind P w).is k u=true:=by
  cases k with
  | inl i=>obtain ⟨t,e⟩:=(show ∃ t,u=Value.int i t from r); subst e; exact mixKind_int P w i t
  | inr x=>obtain ⟨t,e⟩:=(show ∃ t,u=Value.str x t from r); subst e; exact mixKind_str P w x t
theorem items_are {P:Program}{w:World}:∀ {ks:List Key} {us:List Value},Vals (ks.map kV) us→ItemsAre (mixKind P w) ks us
  | [],_,r=>by rw [List.map_nil] at r; cases r; exact .nil
  | k::ks,_,r=>by
    rw [List.map_cons] at r
    cases r with
    | cons h t=>exact .cons (kV_is h) (items_are t)
abbrev KT (H:Hp):List (List Key×V)→List (List Key×Addr×Value)→Prop:=Paired fun p q=>p.1=q.1∧H q.2.1=some (.tup (p.1.map kV))∧RelV p.2 q.2.2
theorem KT.val {H:Hp}{kvs:List (List Key×V)}{xs:List (List Key×Addr×Value)}(r:KT H kvs xs)(k:List Key):RelO (valV kvs k) ((atKey xs k).map (·.2)):=by
  induction r with
  | nil=>exact True.intro
  | @cons p q ps qs h t ih =>
    obtain ⟨h1,_,h2⟩:=h
    by_cases e:p.1=k
    · have e':q.1=k:=h1.symm.trans e
      have b:atKey (q::qs) k=some q.2:=by simp [atKey,List.find?_cons,e']
      rw [valV_pos e,b]; exact h2
    · have e':¬ q.1=k:=fun z=>e (h1.trans z)
      have b:atKey (q::qs) k=atKey qs k:=by simp [atKey,List.find?_cons,e']
      rw [valV_neg e,b]; exact ih
theorem KT.repl {H:Hp}{kvs:List (List Key×V)}{xs:List (List Key×Addr×Value)}(r:KT H kvs xs)(k:List Key){y:V}{u:Value}(ry:RelV y u) :
    KT H (kvs.map fun kv=>if kv.1=k then (kv.1,y) else kv) (xs.map (putAt k u)):=by
  induction r with
  | nil=>exact .nil
  | @cons p q ps qs h t ih =>
    rw [List.map_cons,List.map_cons]
    refine .cons ?_ ih
    obtain ⟨h1,h2,h3⟩:=h
    unfold putAt
    by_cases e:p.1=k
    · rw [if_pos e,if_pos (h1.symm.trans e)]; exact ⟨h1,h2,ry⟩
    · rw [if_neg e,if_neg (fun z=>e (h1.trans z))]; exact ⟨h1,h2,h3⟩
theorem KT.put {H:Hp}{kvs:List (List Key×V)}{xs:List (List Key×Addr×Value)}(r:KT H kvs xs)(k:List Key){b:Addr}{y:V}{u:Value}(hb:H b=some (.tup (k.map kV)))(ry:RelV y u) :
    KT H (putK kvs k y) (storedH xs k b u):=by
  have e:(kvs.any fun kv=>decide (kv.1=k))=(atKey xs k).isSome:=by
    rw [valV_any,(r.val k).isSome_eq,Option.isSome_map]
  unfold putK storedH
  rw [e]
  by_cases q:(atKey xs k).isSome=true
  · rw [if_pos q,if_pos q]; exact r.repl k ry
  · rw [if_neg q,if_neg q]; exact Paired.snoc r ⟨rfl,hb,ry⟩
theorem KT.keeps {H H':Hp}{kvs:List (List Key×V)}{xs:List (List Key×Addr×Value)}(r:KT H kvs xs)(ht:∀ b ys,H b=some (.tup ys)→H' b=some (.tup ys)):KT H' kvs xs :=
  Paired.mapP r fun _ _ z=>⟨z.1,ht _ _ z.2.1,z.2.2⟩
section
variable {P:Program}{w:World}{H:Hp}{h:Heap}{a:Addr}
theorem rd_of {u:HO}(ok:HOk P w H h)(e:Rd H a u):ObjOk P w H h a u:=e.ok ok
theorem dk_rd {kvs:List (Key×V)}(ok:HOk P w H h)(e:Rd H a (.dK kvs)):kvs.length≤sizeLine∧(a == sysModules)=false∧∃ vs,KV kvs vs∧h.DictOf (mixKind P w) a vs :=
  show ObjOk P w H h a (.dK kvs) from rd_of ok e
theorem dk_of {kvs:List (Key×V)}(ok:HOk P w H h)(e:H a=some (.dK kvs)):kvs.length≤sizeLine∧(a == sysModules)=false∧∃ vs,KV kvs vs∧h.DictOf (mixKind P w) a vs:=dk_rd ok (.inl e)
theorem key_of {ks:List Key}(ok:HOk P w H h)(e:H a=some (.tup (ks.map kV))):(tupleKind (mixKind P w)).is h ks a:=by
  obtain ⟨_,its,r,o,h1,h2,n,h3⟩:=(show ObjOk P w H h a (.tup (ks.map kV)) from ok a _ e)
  exact ⟨o,its.toArray,n,h1,h2,h3,by simpa using items_are r⟩
theorem dt_rd {kvs:List (List Key×V)}(ok:HOk P w H h)(e:Rd H a (.dT kvs)):kvs.length≤sizeLine∧(a == sysModules)=false ∧
    ∃ xs,KT H kvs xs∧h.DictOfH (tupleKind (mixKind P w)) a xs:=by
  obtain ⟨z,y,xs,r,o,es,ep,h1,h2,h3,h4,h5⟩:=(show ObjOk P w H h a (.dT kvs) from rd_of ok e)
  refine ⟨z,y,xs,r,o,es,ep,h1,h2,h3,h4,fun x hx=>?_,h5⟩
  have all:∀ {l:List (List Key×V)} {m:List (List Key×Addr×Value)},KT H l m→∀ x∈m,(tupleKind (mixKind P w)).is h x.1 x.2.1:=by
    intro l m q
    induction q with
    | nil=>intro x hx; exact nomatch hx
    | @cons p q ps qs hq t ih =>
      intro x hx
      rcases List.mem_cons.mp hx with e | hx
      · subst e
        exact key_of ok (by rw [← hq.1]; exact hq.2.1)
      · exact ih x hx
  exact all r x hx
theorem dt_of {kvs:List (List Key×V)}(ok:HOk P w H h)(e:H a=some (.dT kvs)):kvs.length≤sizeLine∧(a == sysModules)=false ∧
    ∃ xs,KT H kvs xs∧h.DictOfH (tupleKind (mixKind P w)) a xs:=dt_rd ok (.inl e)
end
def DGet (H:Hp)(a:Addr)(y:V)(r:Option V):Prop :=
  (∃ kvs k,Rd H a (.dK kvs)∧y=kV k∧r=valV kvs k)∨∃ kvs k b,Rd H a (.dT kvs)∧y=.ref b∧H b=some (.tup (k.map kV))∧r=valV kvs k
def DPut (H:Hp)(a:Addr)(y v:V)(H':Hp):Prop :=
  (∃ kvs k,H a=some (.dK kvs)∧y=kV k∧kvs.length<sizeLine∧H'=upd H a (.dK (putK kvs k v))) ∨
  ∃ kvs k b,H a=some (.dT kvs)∧y=.ref b∧H b=some (.tup (k.map kV))∧kvs.length<sizeLine∧H'=upd H a (.dT (putK kvs k v))
theorem DGet.k {H:Hp}{a:Addr}{kvs:List (Key×V)}{k:Key}(e:H a=some (.dK kvs)):DGet H a (kV k) (valV kvs k):=.inl ⟨kvs,k,.inl e,rfl,rfl⟩
theorem DGet.t {H:Hp}{a b:Addr}{kvs:List (List Key×V)}{k:List Key}(e:H a=some (.dT kvs))(eb:H b=some (.tup (k.map kV))):DGet H a (.ref b) (valV kvs k):=.inr ⟨kvs,k,b,.inl e,rfl,eb,rfl⟩
theorem DPut.k {H:Hp}{a:Addr}{kvs:List (Key×V)}{k:Key}{v:V}(e:H a=some (.dK kvs))(hl:kvs.length<sizeLine):DPut H a (kV k) v (upd H a (.dK (putK kvs k v))):=.inl ⟨kvs,k,e,rfl,hl,rfl⟩
theorem DPut.t {H:Hp}{a b:Addr}{kvs:List (List Key×V)}{k:List Key}{v:V}(e:H a=some (.dT kvs))(eb:H b=some (.tup (k.map kV)))(hl:kvs.length<sizeLine) :
    DPut H a (.ref b) v (upd H a (.dT (putK kvs k v))):=.inr ⟨kvs,k,b,e,rfl,eb,hl,rfl⟩
section
variable {X:Cx}{pins:List (Addr×Obj)}{σ:St}{H:Hp}{s:Shared}{a:Addr}{y v:V}{u r:Value}{o:Option V}{A:Around}{E:Value→Shared→Prop}
theorem Inv.big (I:Inv X pins σ H s):sysModules<s.heap.objs.size:=by
  have h:mainGlobals<s.heap.objs.size:=(I.mod.glob.keeps I.bk).lt
  exact Nat.lt_trans (by decide) h
theorem d_getItem {Q:Value→Shared→Prop}(hu:A.units+1<cLine)(I:Inv X pins σ H s)(g:DGet H a y (some v))(ry:RelV y u)(h:∀ w' s',Inv X pins σ H s'→RelV v w'→Q w' s') :
    wpAny (model X.prog X.w) A (getItem (.ref a) u) Q E s:=by
  rcases g with ⟨kvs,k,e,ey,l⟩ | ⟨kvs,k,b,e,ey,eb,l⟩
  · subst ey
    obtain ⟨z,hd,vs,rel,dd⟩:=dk_rd I.hok e
    obtain ⟨w',hw,rw'⟩:=RelO.some_of (v:=v) (o:=valueAt vs k) (by rw [l]; exact rel.val k)
    exact wpAny_getItem_of (kV_is ry) dd.mapOf hw (h w' _ (I.tok _) rw')
  · subst ey
    cases (show u=Value.ref b from ry)
    obtain ⟨z,hd,xs,rel,dd⟩:=dt_rd I.hok e
    obtain ⟨w',hw,rw'⟩:=RelO.some_of (v:=v) (o:=(atKey xs k).map (·.2)) (by rw [l]; exact rel.val k)
    obtain ⟨p,hp,hp2⟩:=Option.map_eq_some_iff.mp hw
    refine wpAny_getItem_heap (tupleKind_room_in1 hu) (key_of I.hok eb) dd hp ?_
    rw [hp2]
    exact h w' _ (I.tok _) rw'
theorem d_in {Q:Value→Shared→Prop}(hu:A.units+1<cLine)(I:Inv X pins σ H s)(g:DGet H a y o)(ry:RelV y u)(h:∀ s',Inv X pins σ H s'→Q (.bool o.isSome) s') :
    wpAny (model X.prog X.w) A (compareOp .In u (.ref a)) Q E s:=by
  rcases g with ⟨kvs,k,e,ey,l⟩ | ⟨kvs,k,b,e,ey,eb,l⟩
  · subst ey
    obtain ⟨z,hd,vs,rel,dd⟩:=dk_rd I.hok e
    refine wpAny_in_of (kV_is ry) hd dd.mapOf ?_
    rw [← (rel.val k).isSome_eq,← l]
    exact h _ (I.tok _)
  · subst ey
    cases (show u=Value.ref b from ry)
    obtain ⟨z,hd,xs,rel,dd⟩:=dt_rd I.hok e
    refine wpAny_in_heap (tupleKind_room_in1 hu) (key_of I.hok eb) hd dd ?_
    have q:=(rel.val k).isSome_eq
    rw [Option.isSome_map] at q
    rw [← q,← l]
    exact h _ (I.tok _)
theorem d_notIn {Q:Value→Shared→Prop}(hu:A.units+1<cLine)(I:Inv X pins σ H s)(g:DGet H a y o)(ry:RelV y u)(h:∀ s',Inv X pins σ H s'→Q (.bool (!o.isSome)) s') :
    wpAny (model X.prog X.w) A (compareOp .NotIn u (.ref a)) Q E s:=by
  rcases g with ⟨kvs,k,e,ey,l⟩ | ⟨kvs,k,b,e,ey,eb,l⟩
  · subst ey
    obtain ⟨z,hd,vs,rel,dd⟩:=dk_rd I.hok e
    refine wpAny_notIn_of (kV_is ry) hd dd.mapOf ?_
    rw [← (rel.val k).isSome_eq,← l]
    exact h _ (I.tok _)
  · subst ey
    cases (show u=Value.ref b from ry)
    obtain ⟨z,hd,xs,rel,dd⟩:=dt_rd I.hok e
    refine wpAny_notIn_heap (tupleKind_room_in1 hu) (key_of I.hok eb) hd dd ?_
    have q:=(rel.val k).isSome_eq
    rw [Option.isSome_map] at q
    rw [← q,← l]
    exact h _ (I.tok _)
theorem d_write {h':Heap}{t':Nat}{ob:HO}(I:Inv X pins σ H s)(mu:Mut (H a))(hs:Heap.SameBut a s.heap h')(he:∃ q,h'.get? a=some q)(new:ObjOk X.prog X.w (upd H a ob) h' a ob) :
    Inv X pins σ (upd H a ob) { s with heap:=h',toks:=t' } :=
  I.write (x:=a) (e:=a) mu (.inl rfl) (fun b q hb z=>(hs.2 b hb).trans z) he new
theorem dk_new {P:Program}{w:World}{H':Hp}{h':Heap}{kvs:List (Key×V)}{vs:List (Key×Value)}(z:kvs.length≤sizeLine)(hd:(a == sysModules)=false)(rel:KV kvs vs)(dd:h'.DictOf (mixKind P w) a vs) :
    ObjOk P w H' h' a (.dK kvs):=⟨z,hd,vs,rel,dd⟩
theorem d_setItem {H':Hp}{Q:Unit→Shared→Prop}(hu:A.units+1<cLine)(I:Inv X pins σ H s)(g:DPut H a y v H')(ry:RelV y u)(rv:RelV v r)(h:∀ s',Inv X pins σ H' s'→Q () s') :
    wpAny (model X.prog X.w) A (setItem (.ref a) u r) Q E s:=by
  rcases g with ⟨kvs,k,e,ey,l,eH⟩ | ⟨kvs,k,b,e,ey,eb,l,eH⟩
  · subst ey eH
    obtain ⟨z,hd,vs,rel,dd⟩:=dk_of I.hok e
    have hz:vs.length≤sizeLine:=by rw [← rel.length]; exact z
    have hl:(putK kvs k v).length≤sizeLine:=by have:=length_putK kvs k v; omega
    refine wpAny_setItem_pairs (hsz:=hz) (kV_is ry) dd fun h' dd' hs=>h _ ?_
    have he:∃ q,h'.get? a=some q:=let ⟨q,_,_,hq,_⟩:=dd'; ⟨q,hq⟩
    exact d_write I (by rw [e]; exact True.intro) hs he (dk_new hl hd (rel.put k rv) dd')
  · subst ey eH
    cases (show u=Value.ref b from ry)
    obtain ⟨z,hd,xs,rel,dd⟩:=dt_of I.hok e
    have hz:xs.length≤sizeLine:=by rw [← Paired.length rel]; exact z
    have hl:(putK kvs k v).length≤sizeLine:=by have:=length_putK kvs k v; omega
    refine wpAny_setItem_heap (hsz:=hz) (tupleKind_room_in1 hu) (key_of I.hok eb) dd fun h' dd' hs=>h _ ?_
    obtain ⟨q,es,ep,hq,h2,h3,h4,_,h5⟩:=dd'
    refine d_write I (by rw [e]; exact True.intro) hs ⟨q,hq⟩ ⟨hl,hd,_,(rel.put k eb rv).keeps fun c ys ec=>?_,q,es,ep,hq,h2,h3,h4,h5⟩
    rw [qu0 (ne_of ec e (fun z=>nomatch z))]
    exact ec
end
section
variable {X:Cx}{pins:List (Addr×Obj)}{σ:St}{H:Hp}{s:Shared}{a:Addr}{kvs:List (Key×V)}{k:Key}{u:Value}{A:Around}{E:Value→Shared→Prop}
theorem d_len {Q:Value→Shared→Prop}(I:Inv X pins σ H s)(e:Rd H a (.dK kvs))(h:∀ t s',Inv X pins σ H s'→Q (.int kvs.length t) s'):wpAny (model X.prog X.w) A (call (.builtin "len") [.ref a]) Q E s:=by
  obtain ⟨z,hd,vs,rel,dd⟩:=dk_rd I.hok e
  refine call_len_dict hd dd (by rw [← rel.length]; rw [sizeLine_eq] at z; omega) ?_
  rw [← rel.length]
  exact h _ _ (I.tok _)
end
def NoSl (i:Expr):Prop:=∀ ov iv,subscripted i false ov iv=operate [ov,iv] (getItem ov iv)
theorem subD_of {prog:Program}{w:World}{A:Around}{E:Value→Shared→Prop}{s:Shared}{env:Env}{value slice:Expr}{pos:Pos}{T id:String}{Q:Value→Shared→Prop}
    (hl:typeLookup (.type T) "__getitem__"=pure (some (.builtin id))) (hs:NoSl slice)
    (h:wpAny (model prog w) A (eval value env) (fun o s₁=>wpAny (model prog w) A (eval slice env) (fun i s₂=>s₂.TypeIs o T∧wpAny (model prog w) A (getItem o i) Q E s₂) E s₁) E s) :
    wpAny (model prog w) A (eval (.Subscript value slice pos) env) Q E s:=by
  refine Subscript_ (wpAny_mono h (fun o s₁ h₁=>wpAny_mono h₁ (fun i s₂ h₂=>?_) fun _ _ x=>x) fun _ _ x=>x)
  obtain ⟨hT,h₂⟩:=h₂
  unfold subscriptTail
  refine wpAny_bind ?_
  rw [getitemInPython_of_ne hT.not_modules]
  refine wpAny_bind (wpAny_specialOf hT hl ?_)
  have fin:wpAny (model prog w) A (subscripted slice false o i) (fun r s₃=>wpAny (model prog w) A (letTemporaryGo value o r >>= fun _=>pure r) Q E s₃) E s₂:=by
    rw [hs o i]
    exact wpAny_operating (wpAny_mono h₂ (fun r s₃ h₃=>wpAny_bind (wpAny_letTemporaryGo (wpAny_pure h₃))) fun _ _ x=>x)
  first
    | exact wpAny_pure (wpAny_bind fin)
    | exact wpAny_bind (wpAny_pure (wpAny_bind fin))
    | exact wpAny_bind fin
theorem dict_typeIs {X:Cx}{pins:List (Addr×Obj)}{σ:St}{H:Hp}{s:Shared}{a:Addr}{y:V}{o:Option V}(I:Inv X pins σ H s)(g:DGet H a y o):s.TypeIs (.ref a) "dict":=by
  rcases g with ⟨kvs,k,e,_,_⟩ | ⟨kvs,k,b,e,_,_,_⟩
  · obtain ⟨_,_,vs,_,dd⟩:=dk_rd I.hok e
    exact dd.typeIs
  · obtain ⟨_,_,xs,_,dd⟩:=dt_rd I.hok e
    exact dd.typeIs
def tDGet (td ty:TE):TE:=fun σ H Q=>td σ H fun x H1=>ty σ H1 fun y H2=>∃ a v,x=.ref a∧DGet H2 a y (some v)∧Q v H2
def tDIn (ty td:TE):TE:=fun σ H Q=>ty σ H fun y H1=>td σ H1 fun x H2=>∃ a o,x=.ref a∧DGet H2 a y o∧Q (.bl o.isSome) H2
def tDNotIn (ty td:TE):TE:=fun σ H Q=>ty σ H fun y H1=>td σ H1 fun x H2=>∃ a o,x=.ref a∧DGet H2 a y o∧Q (.bl (!o.isSome)) H2
def sDPut (td ty tv:TE):TS:=fun D σ H=>tv σ H fun v H1=>td σ H1 fun x H2=>ty σ H2 fun y H3=>∃ a H4,x=.ref a∧DPut H3 a y v H4∧D.nx σ H4
section
variable {X:Cx}{o i e value:Expr}{pos pos' tpos:Pos}{td ty tv:TE}
theorem pe_dget (hu:X.A.units+1<cLine)(ho:PE X o td)(hi:PE X i ty)(hs:NoSl i):PE X (.Subscript o i pos) (tDGet td ty):=by
  intro pins s σ H Q I h
  refine subD_of PySem.F.slot_dict_getitem.lookup hs (thn (ho pins s σ H _ I h) fun u s1 ⟨x,H1,I1,rx,q1⟩=>thn (hi pins s1 σ H1 _ I1 q1) fun iv s2 ⟨y,H2,I2,ry,a,v,ex,g,q2⟩=>?_)
  subst ex
  obtain rfl:u=Value.ref a:=rx
  exact ⟨dict_typeIs I2 g,d_getItem hu I2 g ry fun w' s3 I3 rw'=>⟨v,H2,I3,rw',q2⟩⟩
theorem pc_din (hu:X.A.units+1<cLine)(hi:PE X i ty)(ho:PE X o td):PC X .In i o (tDIn ty td):=by
  intro pins s σ H Q I h
  refine thn (hi pins s σ H _ I h) fun iv s1 ⟨y,H1,I1,ry,q1⟩=>thn (ho pins s1 σ H1 _ I1 q1) fun u s2 ⟨x,H2,I2,rx,a,ov,ex,g,q2⟩=>?_
  subst ex
  obtain rfl:u=Value.ref a:=rx
  exact d_in hu I2 g ry fun s3 I3=>⟨.bl ov.isSome,H2,I3,rfl,q2⟩
theorem pc_dnotin (hu:X.A.units+1<cLine)(hi:PE X i ty)(ho:PE X o td):PC X .NotIn i o (tDNotIn ty td):=by
  intro pins s σ H Q I h
  refine thn (hi pins s σ H _ I h) fun iv s1 ⟨y,H1,I1,ry,q1⟩=>thn (ho pins s1 σ H1 _ I1 q1) fun u s2 ⟨x,H2,I2,rx,a,ov,ex,g,q2⟩=>?_
  subst ex
  obtain rfl:u=Value.ref a:=rx
  exact d_notIn hu I2 g ry fun s3 I3=>⟨.bl (!ov.isSome),H2,I3,rfl,q2⟩
theorem ps_dput (hu:X.A.units+1<cLine)(ho:PE X o td)(hi:PE X i ty)(hv:PE X value tv)(hs:swapsWith value (some (.Subscript o i pos')) pos.line X.env=pure false) :
    PS X (.Assign [.Subscript o i pos'] value pos) (sDPut td ty tv):=by
  intro pins s σ H D I h
  refine wpAny_Assign_Subscript (thn (hv pins s σ H _ I h) fun r s1 ⟨v,H1,I1,rv,q1⟩=>thn (ho pins s1 σ H1 _ I1 q1) fun u s2 ⟨x,H2,I2,rx,q2⟩=>thn (hi pins s2 σ H2 _ I2 q2) fun iv s3 ⟨y,H3,I3,ry,a,H4,ex,g,q3⟩=>?_) hs
  subst ex
  obtain rfl:u=Value.ref a:=rx
  exact d_setItem hu I3 g ry rv fun s4 I4=>⟨σ,H4,I4,q3⟩
end
theorem dk_empty {P:Program}{w:World}{H:Hp}(h:Heap)(hb:sysModules<h.objs.size):ObjOk P w H (h.push { cls:=.type "dict",data:=.dict #[] }) h.objs.size (.dK []) :=
  ⟨Nat.zero_le _,beq_eq_false_iff_ne.mpr (Ne.symm (Nat.ne_of_lt hb)),[],.nil,Heap.DictOf.new h⟩
theorem dt_empty {P:Program}{w:World}{H:Hp}(h:Heap)(hb:sysModules<h.objs.size):ObjOk P w H (h.push { cls:=.type "dict",data:=.dict #[] }) h.objs.size (.dT []) :=
  ⟨Nat.zero_le _,beq_eq_false_iff_ne.mpr (Ne.symm (Nat.ne_of_lt hb)),[],.nil,_,#[],0,Heap.get?_push_size _ rfl,⟨rfl,rfl,rfl⟩,rfl,rfl,List.nodup_nil⟩
def tDNewK:TE:=fun _ H Q=>∀ p,H p=none→Q (.ref p) (upd H p (.dK []))
def tDNewT:TE:=fun _ H Q=>∀ p,H p=none→Q (.ref p) (upd H p (.dT []))
section
variable {X:Cx}{pos:Pos}
theorem pe_dnewK:PE X (.Dict [] [] pos) tDNewK:=fun pins s σ H Q I h =>
  wpAny_Dict_empty ⟨.ref s.heap.objs.size,_,I.laid (a:=s.heap.objs.size) (o:=.dK []) (t':=s.toks) (fun _ _ q=>Heap.get?_push_of_some _ q) (Nat.le_refl _) (dk_empty s.heap I.big),rfl,h _ (I.hok.fresh (Nat.le_refl _))⟩
theorem pe_dnewT:PE X (.Dict [] [] pos) tDNewT:=fun pins s σ H Q I h =>
  wpAny_Dict_empty ⟨.ref s.heap.objs.size,_,I.laid (a:=s.heap.objs.size) (o:=.dT []) (t':=s.toks) (fun _ _ q=>Heap.get?_push_of_some _ q) (Nat.le_refl _) (dt_empty s.heap I.big),rfl,h _ (I.hok.fresh (Nat.le_refl _))⟩
end
section
variable {X:Cx}{pins:List (Addr×Obj)}{σ:St}{H:Hp}{s:Shared}{a:Addr}{y d:V}{u r:Value}{o:Option V}{A:Around}{E:Value→Shared→Prop}
end
section
variable {X:Cx}{o e f:Expr}{apos cpos:Pos}{td ty tx:TE}
end
section
variable {X:Cx}{pins:List (Addr×Obj)}{σ:St}{H:Hp}{s:Shared}{a:Addr}{kvs:List (Key×V)}{A:Around}{E:Value→Shared→Prop}
end
section
variable {X:Cx}{pins:List (Addr×Obj)}{σ:St}{H:Hp}{s:Shared}{a:Addr}{y:V}{u:Value}{A:Around}{E:Value→Shared→Prop}
end
end L2
namespace L2
open PySem PySem.Spec PyProof.Rows
section
variable {X:Cx}
end
section
variable {κ:Type} [DecidableEq κ]
theorem nd_snoc:∀ {l:List κ} {k:κ},l.Nodup→¬ k∈l→(l++[k]).Nodup
  | [],k,_,_=>by simp
  | a::r,k,h,hk=>by
    obtain ⟨h1,h2⟩:=List.nodup_cons.mp h
    show (a::(r++[k])).Nodup
    refine List.nodup_cons.mpr ⟨fun m=>?_,nd_snoc h2 fun m=>hk (List.mem_cons.mpr (Or.inr m))⟩
    rcases List.mem_append.mp m with q | q
    · exact h1 q
    · exact hk (List.mem_cons.mpr (Or.inl (List.mem_singleton.mp q).symm))
end
end L2
namespace Sv
open PySem PySem.Spec PyProof.Rows L2
theorem paired_get {α β:Type}{F:α→β→Prop}{xs:List α}{ys:List β}(h:Paired F xs ys):∀ {i:Nat} {x:α},xs[i]?=some x→∃ y,ys[i]?=some y∧F x y:=by
 induction h with
 | nil=>intro i x e; cases e
 | cons h _ ih =>
  intro i x e
  cases i with
  | zero =>
   cases e
   exact ⟨_,rfl,h⟩
  | succ i=>exact ih e
theorem key_rel {k:Key}{u:Value}(h:keyIs k u=true):RelV (kV k) u:=by
 rcases qu1 h with ⟨i,t,rfl,rfl⟩ | ⟨x,t,rfl,rfl⟩
 ·exact ⟨t,rfl⟩
 ·exact ⟨t,rfl⟩
theorem mix_rel {P:Program}{w:World}{k:Key}{u:Value}(h:(mixKind P w).is k u=true):RelV (kV k) u:=by
 rw [mixKind_is] at h
 exact key_rel h
def Itd (d:Addr)(o:Obj)(kvs:List (Key×V)):It :=
 ⟨fun i H=>H d=some (.frz o (.dK kvs))∧i<kvs.length,fun i H x H'=>H'=H∧∃ kv,kvs[i]?=some kv∧x=kV kv.1,fun i H=>H d=some (.frz o (.dK kvs))∧kvs.length≤i⟩
theorem frz_at {X:Cx}{pins:List (Addr×Obj)}{σ:L2.St}{H:Hp}{s:Shared}{d:Addr}{o:Obj}{kvs:List (Key×V)}{es:Array DictEntry}{ep:Nat}(I:Inv X pins σ H s)(h:H d=some (.frz o (.dK kvs)))(ho:o.data=.dict es ep) :
  ∃ vs,KV kvs vs∧kvs.length=vs.length∧s.heap.DictAt (mixKind X.prog X.w) d vs ep:=by
 obtain ⟨hg,_,_,vs,kv,o',es',ep',hg',ex,hd,ks,pr,nd⟩:=(show ObjOk X.prog X.w H s.heap d (.frz o (.dK kvs)) from I.hok d _ h)
 rw [hg] at hg'
 cases hg'
 rw [ho] at hd
 cases hd
 exact ⟨vs,kv,kv.length,o,es,hg,ex,ho,ks,pr,nd⟩
theorem turn_dict {P:Program}{w:World}{K:PySem.W.Frag}{tg:Expr}(d it:Addr)(o:Obj)(kvs:List (Key×V))(es:Array DictEntry)(ep:Nat)(ho:o.data=.dict es ep):Turn P w K tg (Itd d o kvs) [it] it (fun i h=>h.IsKeyIter it d i kvs.length ep) where
 mem:=by simp
 obj:=fun i h st b hb=>by
  have e:b=it:=by simpa using hb
  subst e
  obtain ⟨o,e,c,dd⟩:=st
  exact ⟨o,e,fun v z=>by rw [dd] at z; cases z⟩
 keep:=fun i h h' st k=>st.at fun o e=>k it (by simp) o e
 item:=by
  intro X hP hw hK hc i pins s σ H E I hf st hg
  subst hP hw hK
  obtain ⟨hd,lt⟩:=hg
  obtain ⟨vs,kv,len,da⟩:=frz_at I hd ho
  obtain ⟨⟨k,v⟩,hx⟩:∃ p,kvs[i]?=some p:=⟨kvs[i],List.getElem?_eq_getElem lt⟩
  obtain ⟨⟨k',u⟩,hx',e1,e2⟩:=paired_get kv hx
  obtain ⟨f0,f1,f2,f3,f4,f5⟩:=hf it (by simp)
  rw [len] at st
  refine wpAny_pyNext_dict_item st da hx' fun key h' hkey st' sb=>?_
  have I1:Inv X pins σ H { s with heap:=h' }:=I.turned (t':=s.toks) (fun b o hb e=>(sb.2 b hb).trans e) f0 f1 f3 f4 f5
  obtain ⟨oi,e,c,dd⟩:=id st'
  cases e1
  exact ⟨key,rfl,go_of (s:={ s with heap:=h' }) e c dd (by decide) ⟨kV k,H,I1,mix_rel hkey,⟨rfl,(k,v),hx,rfl⟩,by rw [len]; exact st',fun b hb=>(hf b hb).1⟩⟩
 done:=by
  intro X hP hw hK hc i pins s σ H E I hf st hg
  subst hP hw hK
  obtain ⟨hd,le⟩:=hg
  obtain ⟨vs,kv,len,da⟩:=frz_at I hd ho
  obtain ⟨f0,f1,f2,f3,f4,f5⟩:=hf it (by simp)
  rw [len] at st le
  exact wpAny_pyNext_dict_end (I.ok.hd hc) st da (List.getElem?_eq_none le) fun h' eb=>⟨rfl,I.turned (t':=s.toks) (fun b o hb e=>eb b o hb e) f0 f1 f3 f4 f5⟩
 self:=fun _ _ _ _ _ st h=>wpAny_pyIter_keyiter st h
section
variable {X:Cx}{tg:Expr}
theorem freeze {pins:List (Addr×Obj)}{σ:L2.St}{H:Hp}{s:Shared}{d:Addr}{o:Obj}{kvs:List (Key×V)}(I:Inv X pins σ H s)(h:H d=some (.dK kvs))(ho:s.heap.get? d=some o):Inv X pins σ (upd H d (.frz o (.dK kvs))) s :=
 Inv.write (t':=s.toks) (x:=d) (e:=d) I (by rw [h]; exact trivial) (.inl rfl) (fun _ _ _ q=>q) ⟨_,ho⟩ ⟨ho,(show ObjOk X.prog X.w H s.heap d (.dK kvs) from I.hok d _ h)⟩
def DicR (x:V)(H:Hp)(R:It→Hp→Prop):Prop:=∃ d kvs,x=.ref d∧((∃ o,H d=some (.frz o (.dK kvs))∧R (Itd d o kvs) H)∨(H d=some (.dK kvs)∧∀ o,R (Itd d o kvs) (upd H d (.frz o (.dK kvs)))))
def iDict (tl:TE):TI:=fun σ H R=>tl σ H fun x H1=>DicR x H1 R
theorem dic_ {tl:TE}{σ:L2.St}{H:Hp}{R:It→Hp→Prop}:iDict tl σ H R=tl σ H fun x H1=>DicR x H1 R:=rfl
theorem pi_dict {l:Expr}{tl:TE}(hl:PE X l tl):PI X tg l (iDict tl):=by
 intro pins s σ H R I h
 refine thn (hl pins s σ H _ I h) fun v s1 ⟨x,H1,I1,r1,d,kvs,ex,q⟩=>?_
 subst ex
 cases r1
 have main:∀ (o:Obj) (H2:Hp),Inv X pins σ H2 s1→H2 d=some (.frz o (.dK kvs))→R (Itd d o kvs) H2→wpAny (model X.prog X.w) X.A (pyIter (.ref d)) (PIE X pins σ tg R) X.xe s1:=fun o H2 I2 hf q=>by
  obtain ⟨hg,_,sy,vs,kv,o',es,ep,hg',ex,hd,ks,pr,nd⟩:=(show ObjOk X.prog X.w H2 s1.heap d (.frz o (.dK kvs)) from I2.hok d _ hf)
  rw [hg] at hg'
  cases hg'
  refine wpAny_pyIter_dict (ep:=ep) sy ⟨o,es,hg,ex,hd,ks,pr,nd⟩ ?_
  refine ⟨s1.heap.objs.size,[s1.heap.objs.size],_,_,H2,rfl,I2.kept (t':=s1.toks) fun b ob e=>Heap.get?_push_of_some _ e,turn_dict d _ o kvs es ep hd,⟨_,Heap.get?_push_size _ rfl,rfl,?_⟩,fun b hb=>?_,q⟩
  ·rw [kv.length]
   rfl
  ·have e:b=s1.heap.objs.size:=by simpa using hb
   subst e
   exact I2.fpOk (Nat.le_refl _) (I2.hok.fresh (Nat.le_refl _))
 rcases q with ⟨o,hf,q⟩ | ⟨hf,q⟩
 ·exact main o H1 I1 hf q
 ·obtain ⟨ob,ho⟩:=obj_there (I1.hok d _ hf)
  exact main ob _ (freeze I1 hf ho) qe (q ob)
end
theorem itd {d:Addr}{o:Obj}{kvs:List (Key×V)}:ItOf (Itd d o kvs) (kvs.map fun kv=>kV kv.1) (fun H=>H d=some (.frz o (.dK kvs))) where
 go:=fun i H ok l=>by
  rw [List.length_map] at l
  exact ⟨ok,l⟩
 yld:=fun i H x H' ok l y=>by
  obtain ⟨rfl,kv,e,rfl⟩:=y
  exact ⟨rfl,by rw [List.getElem?_map,e]; rfl⟩
 stop:=fun i H ok l=>by
  rw [List.length_map] at l
  exact ⟨ok,l⟩
end Sv
namespace Sv
open PySem PySem.Spec PyProof.Rows L2
theorem bo_sum:bootBuiltins "sum"=some (.builtin "sum"):=by decide +kernel
theorem bo_reversed:bootBuiltins "reversed"=some (.type "reversed"):=by decide +kernel
theorem CmpR.filt {cap:List Nat}{tc:TT}{te:TE}{J:It}{σ:L2.St}{H:Hp}{Q:VK}{xs:List V}{Ok:Hp→Prop}(p:V→Bool)(f:V→V)(it:ItOf J xs Ok)(hz:xs.length≤1000)(ok:∀ H',Same H H'→Ok H')
  (hc:∀ x H' (Q':Bool→Hp→Prop),x∈xs→Same H H'→(∀ H2,Same H' H2→Q' (p x) H2)→tc (some x::cap.map fun i=>σ.getD i none) H' Q')
  (hs:∀ x H' (Q':VK),x∈xs→p x=true→Same H H'→(∀ H2,Same H' H2→Q' (f x) H2)→te (some x::cap.map fun i=>σ.getD i none) H' Q')
  (hd:∀ D H',H D=none→Same H H'→H' D=some (.lst ((xs.filter p).map f))→Q (.ref D) H'):CmpR 1 cap (gName 0) tc te J σ H Q:=by
 intro D hD
 have keep:∀ {H':Hp} {o:HO},Same H H'→Same H (upd H' D o):=fun sm b o e=>by
  rw [qu0 (qy0 e hD)]
  exact sm b o e
 have le:∀ i,(((xs.take i).filter p).map f).length≤i:=fun i=>by
  rw [List.length_map]
  exact Nat.le_trans (List.length_filter_le _ _) (by rw [List.length_take]; exact Nat.min_le_left _ _)
 refine ⟨fun i m σ' H'=>m=xs.length - i∧i≤xs.length∧∃ t,σ'=t::(cap.map fun i=>σ.getD i none)∧Same H H'∧H' D=some (.lst (((xs.take i).filter p).map f)),⟨_,rfl,Nat.zero_le _,none,rfl,keep (Same.refl _),qe⟩,fun i m σ' H' hw=>?_⟩
 obtain ⟨rfl,hi,t,rfl,sm,hl⟩:=hw
 by_cases lt:i<xs.length
 ·refine .inr ⟨it.go i _ (ok _ sm) lt,fun σ2 H2=>∃ t,σ2=t::(cap.map fun i=>σ.getD i none)∧Same H H2∧H2 D=some (.lst (((xs.take (i+1)).filter p).map f)),fun σ2 H2 n2=>⟨_,?_,rfl,lt,n2⟩,fun x H2 y=>?_⟩
  ·omega
  ·obtain ⟨rfl,hx⟩:=it.yld i _ x H2 (ok _ sm) lt y
   show tc (some x::(cap.map fun i=>σ.getD i none)) _ _
   refine hc x H2 _ (List.mem_of_getElem? hx) sm fun H3 s3=>?_
   have e1:(xs.take (i+1)).filter p=(xs.take i).filter p++if p x=true then [x] else []:=by
    rw [List.take_add_one,hx,List.filter_append,Option.toList_some]
    congr 1
    cases hp:p x <;> simp [List.filter,hp]
   cases hp:p x with
   | false =>
    rw [if_neg Bool.false_ne_true]
    refine ⟨_,rfl,sm.trans s3,?_⟩
    rw [e1,hp,if_neg Bool.false_ne_true,List.append_nil]
    exact s3 _ _ hl
   | true =>
    rw [if_pos rfl]
    show te (some x::(cap.map fun i=>σ.getD i none)) _ _
    refine hs x H3 _ (List.mem_of_getElem? hx) hp (sm.trans s3) fun H4 s4=>⟨_,s4 _ _ (s3 _ _ hl),?_,_,rfl,keep ((sm.trans s3).trans s4),?_⟩
    ·have:=le i
     exact qs1 (by omega)
    ·rw [qe,e1,hp,if_pos rfl,List.map_append]
     rfl
 ·obtain rfl:i=xs.length:=by omega
  refine .inl ⟨it.stop _ _ (ok _ sm) (Nat.le_refl _),?_⟩
  rw [List.take_length] at hl
  exact hd D H' hD sm hl
section
variable {X:Cx}{K:PySem.W.Frag}
theorem pe_fldK {e:Expr}{f:Str}{pos:Pos}{ta:TE}(hK:X.K=K)(he:PE X e ta)(hb:attributeBase e f X.env (eval e X.env)=eval e X.env):PE X (.Attribute e f pos) (tFld K ta f):=by
 subst hK
 exact qx0 he hb
theorem call_isiCK (hK:X.K=K):CallR X (.builtin "isinstance") (rIsiC K):=by
 subst hK
 exact call_isiC
def InR (K:PySem.W.Frag)(neg:Bool):R2:=rIn K neg
theorem op_inL (hK:X.K=K):OpR X (compareOp .In) (InR K false):=by
 subst hK
 exact op_in_seq
theorem all_str (zs:List Str):(zs.map V.str).all flatV=true:=by
 rw [List.all_eq_true]
 intro x hx
 obtain ⟨z,_,rfl⟩:=List.mem_map.mp hx
 rfl
theorem inV_str (z:Str)(zs:List Str):inV (.str z) (zs.map V.str)=decide (z∈zs):=by
 induction zs with
 | nil=>rfl
 | cons y r ih =>
  have e:inV (.str z) ((y::r).map V.str)=(eqV (.str y) (.str z) || inV (.str z) (r.map V.str)):=rfl
  rw [e,ih]
  have e2:eqV (.str y) (.str z)=decide (y=z):=by
   first
   | rfl
   | (simp [eqV])
  rw [e2]
  by_cases h:y=z
  ·subst h
   simp
  ·have h':¬ z=y:=fun c=>h c.symm
   simp [h,h']
theorem inR_go {neg:Bool}{p:Addr}{z:Str}{zs:List Str}{H:Hp}{Q:VK}(h:SqL K H p (zs.map V.str))(q:Q (.bl (if neg then !decide (z∈zs) else decide (z∈zs))) H):InR K neg (.str z) (.ref p) H Q :=
 ⟨p,_,rfl,.inl h,rfl,all_str zs,by rw [inV_str]; exact q⟩
def SumR (K:PySem.W.Frag):List V→Hp→VK→Prop:=fun xs H Q=>∃ (p:Addr) (ns:List Int),xs=[.ref p]∧SqL K H p (ns.map V.int)∧Q (.int ns.sum) H
theorem ints_are:∀ {ns:List Int} {us:List Value},Vals (ns.map V.int) us→IntsAre us ns
 | [],_,r=>by
  cases r
  exact .nil
 | n::ns,_,r=>by
  cases r with
  | cons r1 r2 =>
   obtain ⟨t,rfl⟩:=r1
   exact .cons n t (ints_are r2)
theorem call_sumR (hc:X.calm=true)(hK:X.K=K):CallR X (.builtin "sum") (SumR K):=by
 subst hK
 intro pins s σ H xs us Q I r h
 obtain ⟨p,ns,rfl,hq,q⟩:=h
 obtain ⟨u,rfl,ru⟩:=r.one
 obtain rfl:u=Value.ref p:=ru
 obtain ⟨its,rv,pl,hz⟩:=I.list hq
 have ia:=ints_are rv
 have nm:=ia.numsOf
 obtain ⟨xs,ex⟩:=ia.allInts.items
 have pl':=pl.isList
 rw [ex] at pl'
 refine sum_intListG (I.ok.hd hc) pl' fun h' tk t' hk=>⟨.int ns.sum,H,I.kept (t':=tk) hk,?_,q⟩
 have e3:numsOf (intItems xs).toList=ns:=by
  rw [← ex]
  exact nm
 rw [nums_intItems] at e3
 refine ⟨t',?_⟩
 rw [preSum_eq,List.take_of_length_le (by simp),e3]
theorem sumR_go {p:Addr}{ns:List Int}{H:Hp}{Q:VK}(h:SqL K H p (ns.map V.int))(q:Q (.int ns.sum) H):SumR K [.ref p] H Q:=⟨p,ns,rfl,h,q⟩
end
section
variable {td ty tv:TE}{σ:L2.St}{H:Hp}{Q:VK}{D:Ends}{x y v:V}{d:Addr}{z:Str}{ps:List (Str×V)}
def DGetR (x y:V)(H:Hp)(Q:VK):Prop:=∃ a v,x=.ref a∧DGet H a y (some v)∧Q v H
def DInR (neg:Bool)(x y:V)(H:Hp)(Q:VK):Prop:=∃ a o,x=.ref a∧DGet H a y o∧Q (.bl (if neg then !o.isSome else o.isSome)) H
def DPutR (x y v:V)(H:Hp)(Q:Hp→Prop):Prop:=∃ a H4,x=.ref a∧DPut H a y v H4∧Q H4
def DNewR (H:Hp)(Q:VK):Prop:=∀ p,H p=none→Q (.ref p) (upd H p (.dK []))
theorem dget_:tDGet td ty σ H Q=td σ H fun x H1=>ty σ H1 fun y H2=>DGetR x y H2 Q:=rfl
theorem din_:tDIn ty td σ H Q=ty σ H fun y H1=>td σ H1 fun x H2=>DInR false x y H2 Q:=rfl
theorem dnotin_:tDNotIn ty td σ H Q=ty σ H fun y H1=>td σ H1 fun x H2=>DInR true x y H2 Q:=rfl
theorem dput_:sDPut td ty tv D σ H=tv σ H fun v H1=>td σ H1 fun x H2=>ty σ H2 fun y H3=>DPutR x y v H3 (D.nx σ):=rfl
theorem dnew_:tDNewK σ H Q=DNewR H Q:=rfl
def Dk (ps:List (Str×V)):List (Key×V):=ps.map fun p=>(.inr p.1,p.2)
theorem valV_Dk (z:Str):∀ ps:List (Str×V),valV (Dk ps) (.inr z)=ps.lookup z
 | []=>rfl
 | (k,v)::r=>by
  have ih:=valV_Dk z r
  unfold valV Dk at ih ⊢
  rw [List.map_cons,List.find?_cons,List.lookup_cons]
  by_cases h:k=z
  ·subst h
   simp
  ·have h1:¬ ((Sum.inr k:Key)=Sum.inr z):=fun c=>h (Sum.inr.inj c)
   have h2:(z == k)=false:=beq_eq_false_iff_ne.mpr fun c=>h c.symm
   simp only [decide_eq_false h1,h2]
   exact ih
theorem Dk_keys (ps:List (Str×V)):((Dk ps).map fun kv=>kV kv.1)=(ps.map (·.1)).map V.str:=by
 unfold Dk
 rw [List.map_map,List.map_map]
 rfl
def DicS (H:Hp)(d:Addr)(ps:List (Str×V)):Prop:=Rd H d (.dK (Dk ps))
theorem DicS.get (h:DicS H d ps):DGet H d (.str z) (ps.lookup z):=.inl ⟨Dk ps,.inr z,h,rfl,(valV_Dk z ps).symm⟩
theorem dgetR_go (h:DicS H d ps)(e:ps.lookup z=some v)(q:Q v H):DGetR (.ref d) (.str z) H Q:=⟨d,v,rfl,e▸h.get,q⟩
theorem dinR_go {neg:Bool}(h:DicS H d ps)(q:Q (.bl (if neg then !(ps.lookup z).isSome else (ps.lookup z).isSome)) H):DInR neg (.ref d) (.str z) H Q:=⟨d,_,rfl,h.get,q⟩
theorem dputR_go {R:Hp→Prop}(h:H d=some (.dK (Dk ps)))(n:ps.lookup z=none)(l:ps.length<1000)(q:R (upd H d (.dK (Dk (ps++[(z,v)]))))):DPutR (.ref d) (.str z) v H R:=by
 have e:putK (Dk ps) (.inr z) v=Dk (ps++[(z,v)]):=by
  rw [putK_new v (by rw [valV_Dk]; exact n)]
  unfold Dk
  rw [List.map_append]
  rfl
 refine ⟨d,_,rfl,DPut.k (k:=.inr z) h ?_,?_⟩
 ·unfold Dk
  rw [List.length_map]
  exact qs1 (Nat.le_of_lt l)
 ·rw [e]
  exact q
theorem DicS.same {H':Hp}(h:DicS H d ps)(s:Same H H'):DicS H' d ps:=by
 rcases h with h | ⟨o,h⟩
 ·exact .inl (s _ _ h)
 ·exact .inr ⟨o,s _ _ h⟩
end
def LenDR:List V→Hp→VK→Prop:=fun xs H Q=>∃ d kvs,xs=[.ref d]∧Rd H d (.dK kvs)∧Q (.int kvs.length) H
theorem call_lenDR {X:Cx}:CallR X (.builtin "len") LenDR:=by
 intro pins s σ H xs us Q I r h
 obtain ⟨a,kvs,rfl,ha,q⟩:=h
 obtain ⟨u,rfl,ru⟩:=r.one
 obtain rfl:u=Value.ref a:=ru
 exact d_len I ha fun t s' I'=>⟨.int kvs.length,H,I',⟨t,rfl⟩,q⟩
theorem lenDR_go {H:Hp}{Q:VK}{d:Addr}{ps:List (Str×V)}(h:DicS H d ps)(q:Q (.int ps.length) H):LenDR [.ref d] H Q:=⟨d,Dk ps,rfl,h,by unfold Dk; rw [List.length_map]; exact q⟩
theorem CmpR.tups {K:PySem.W.Frag}{cap:List Nat}{te:TE}{J:It}{σ:L2.St}{H:Hp}{Q:VK}{xs:List V}{ps:List (V×V)}{Ok:Hp→Prop}(f:V×V→V)(it:ItOf J xs Ok)(tt:All2 (fun x (p:V×V)=>∃ t,x=.ref t∧H t=some (.tup [p.1,p.2])) xs ps)(hz:xs.length≤1000)(ok:∀ H',Same H H'→Ok H')
  (hs:∀ p H' (Q':VK),p∈ps→Same H H'→(∀ H2,Same H' H2→Q' (f p) H2)→te (some p.1::some p.2::cap.map fun i=>σ.getD i none) H' Q')
  (hd:∀ D H',H D=none→Same H H'→H' D=some (.lst (ps.map f))→Q (.ref D) H'):CmpR 2 cap (gTup K 2 (gCons (gName 0) (gCons (gName 1) gNil))) tYes te J σ H Q:=by
 intro D hD
 have keep:∀ {H':Hp} {o:HO},Same H H'→Same H (upd H' D o):=fun sm b o e=>by
  rw [qu0 (qy0 e hD)]
  exact sm b o e
 refine ⟨fun i m σ' H'=>m=xs.length - i∧i≤xs.length∧∃ t u,σ'=t::u::(cap.map fun i=>σ.getD i none)∧Same H H'∧H' D=some (.lst ((ps.take i).map f)),⟨_,rfl,Nat.zero_le _,none,none,rfl,keep (Same.refl _),qe⟩,fun i m σ' H' hw=>?_⟩
 obtain ⟨rfl,hi,t,u,rfl,sm,hl⟩:=hw
 by_cases lt:i<xs.length
 ·refine .inr ⟨it.go i _ (ok _ sm) lt,fun σ2 H2=>∃ t u,σ2=t::u::(cap.map fun i=>σ.getD i none)∧Same H H2∧H2 D=some (.lst ((ps.take (i+1)).map f)),fun σ2 H2 n2=>⟨_,?_,rfl,lt,n2⟩,fun x H2 y=>?_⟩
  ·omega
  ·obtain ⟨rfl,hx⟩:=it.yld i _ x H2 (ok _ sm) lt y
   obtain ⟨p,hp,r,rfl,hr⟩:=tt.at hx
   refine gtup2 (SqT.of (sm _ _ hr)) ?_
   show te (some p.1::some p.2::(cap.map fun i=>σ.getD i none)) _ _
   refine hs p _ _ (List.mem_of_getElem? hp) sm fun H3 s3=>⟨_,s3 _ _ hl,?_,_,_,rfl,keep (sm.trans s3),?_⟩
   ·rw [List.length_map,List.length_take]
    exact qs1 (by omega)
   ·rw [qe,List.take_add_one,hp,List.map_append]
    rfl
 ·obtain rfl:i=xs.length:=by omega
  refine .inl ⟨it.stop _ _ (ok _ sm) (Nat.le_refl _),?_⟩
  rw [tt.len,List.take_length] at hl
  exact hd D H' hD sm hl
def textsD (zs:List Str):PyData:=.list (zs.map .str)
theorem texts_lay:∀ {zs:List Str},(∀ z∈zs,PyData.strOk z=true)→PyData.canLayAll0 (zs.map PyData.str)=true
 | [],_=>by simp [PyData.canLayAll0]
 | z::zs,h=>by
  rw [List.map_cons,PyData.canLayAll0.eq_2,texts_lay fun y hy=>h y (List.mem_cons_of_mem _ hy)]
  simp [PyData.canLay0,h z List.mem_cons_self]
theorem textsD_shaped {zs:List Str}(h:∀ z∈zs,PyData.strOk z=true):SeqAt.shaped (textsD zs)=true:=by
 have a:=texts_lay h
 have b:=qk1 PyData.str (n:=2) (fun z=>by simp [PyData.depth]) zs
 exact shaped_of (by simp [textsD,PyData.canLay0,a]) (by simp only [textsD,PyData.depth]; omega)
theorem texts_dts {H:Hp}:∀ zs:List Str,Dts H (zs.map V.str) (zs.map PyData.str)
 | []=>.nil
 | z::zs=>.cons (.str z) (texts_dts zs)
theorem eqNil_go {neg:Bool}{H:Hp}{Q:VK}{a b:Addr}{zs:List Str}(ha:H a=some (.lst (zs.map V.str)))(hb:H b=some (.lst []))(ok:∀ z∈zs,PyData.strOk z=true)(q:Q (.bl (if neg then !decide (zs=[]) else decide (zs=[]))) H):rEqD neg (.ref a) (.ref b) H Q:=by
 refine ⟨textsD zs,.list [],.lst (.inl ha) (texts_dts zs),.lst (.inl hb) .nil,textsD_shaped ok,by decide,?_⟩
 have e:PyData.eqv (textsD zs) (.list [])=decide (zs=[]):=by
  cases zs with
  | nil=>rfl
  | cons z r =>
   rw [decide_eq_false (by intro c; cases c)]
   simp [textsD,PyData.eqv,PyData.eqvAll]
 rw [e]
 exact q
theorem pe_methA0K {X:Cx}{P:Program}{w:World}{K:PySem.W.Frag}{mg:Str→Option Value}{base:Heap}{j:Nat}{m:Str}{pos apos:Pos}{o:Expr}{ta:TE}{pl:Sem Bool}(hX:X.prog=P∧X.w=w∧X.K=K∧X.mg=mg∧X.base=base)(he:PE X o ta)(hr:Room j X.A)
  (ht:eval (.Call (.Attribute o m apos) [] [] pos) X.env=(do
   let ov ← eval o X.env
   standAt apos.atName
   let (f,first) ← holding [ov] (getMethod ov m pl)
   callWith pos f first (backTo pos (starEach [] X.env)) (backToKw pos (keywordEach [] X.env))):=by rfl):PE X (.Call (.Attribute o m apos) [] [] pos) (tMethA P w K mg base j m ta tNil):=by
 obtain ⟨rfl,rfl,rfl,rfl,rfl⟩:=hX
 exact pe_methA0 he hr ht
end Sv
namespace Sv
open PySem PySem.Spec PyProof PyProof.Rows L2
section
variable {H:Hp}{Q:VK}{z:Str}{k j:Nat}
end
def Rng2R (vs:List V)(H:Hp)(R:It→Hp→Prop):Prop:=∃ i j:Int,vs=[.int i,.int j]∧(-(2 ^ 62)≤i∧i<2 ^ 62∧-(2 ^ 62)≤j∧j<2 ^ 62)∧R (Itr i (j - i).toNat) H
theorem rng2_ {ta:TA}{σ:L2.St}{H:Hp}{R:It→Hp→Prop}:iRng2 ta σ H R=ta σ H fun vs H1=>Rng2R vs H1 R:=rfl
theorem Rng2R.go {i j:Int}{H:Hp}{R:It→Hp→Prop}(h:-(2 ^ 62)≤i∧i<2 ^ 62∧-(2 ^ 62)≤j∧j<2 ^ 62)(q:R (Itr i (j - i).toNat) H):Rng2R [.int i,.int j] H R:=⟨i,j,rfl,h,q⟩
def RngD (vs:List V)(H:Hp)(R:It→Hp→Prop):Prop:=∃ k:Nat,vs=[.int (k:Int),.int (-1),.int (-1)]∧k<1000000∧R (Its (k:Int) (-1) (k+1)) H
theorem RngD.go {k:Nat}{H:Hp}{R:It→Hp→Prop}(h:k<1000000)(q:R (Its (k:Int) (-1) (k+1)) H):RngD [.int (k:Int),.int (-1),.int (-1)] H R:=⟨k,rfl,h,q⟩
end Sv
namespace Sv
open PySem PySem.Spec PyProof.Rows L2
def Itzl (K:PySem.W.Frag)(a b:Addr):It :=
 ⟨fun i H=>∃ xs ys x y,SqL K H a xs∧SqL K H b ys∧xs[i]?=some x∧ys[i]?=some y,
  fun i H v H'=>∃ t x y,v=.ref t∧H t=none∧H'=upd H t (.tup [x,y])∧∀ xs ys,SqL K H a xs→SqL K H b ys→xs[i]?=some x∧ys[i]?=some y,
  fun i H=>∃ xs ys,SqL K H a xs∧SqL K H b ys∧(xs.length≤i∨ys.length≤i)⟩
section
variable {X:Cx}
end
section
variable {K:PySem.W.Frag}{H:Hp}{R:It→Hp→Prop}{a b:Addr}{xs ys:List V}
def ZipLR (K:PySem.W.Frag)(vs:List V)(H:Hp)(R:It→Hp→Prop):Prop:=∃ a b xs ys,vs=[.ref a,.ref b]∧SqL K H a xs∧SqL K H b ys∧R (Itzl K a b) H
theorem ZipLR.go (h1:SqL K H a xs)(h2:SqL K H b ys)(q:R (Itzl K a b) H):ZipLR K [.ref a,.ref b] H R:=⟨a,b,xs,ys,rfl,h1,h2,q⟩
end
end Sv
namespace Sv
open PySem PySem.Spec PyProof.Rows L2
section
variable {X:Cx}{k j:Nat}{C:Addr}{ps:List Str}{sp:Sp}{m:Str}{pos apos:Pos}{e o:Expr}{es:List Expr}{ta:TE}{t:TA}{pl:Sem Bool}
def MethT (Rr:RX)(C:Addr)(m:Str)(sp:Sp)(x:V)(t:TA)(σ:L2.St)(H:Hp)(Q:VK):Prop:=∃ (a dx:Addr) (fs:List (Str×V)),x=.ref a∧H a=some (.ins C dx fs)∧fs.lookup m=none∧t σ H fun vs H2=>sp (x::vs) H2 Q fun cls dd H'=>Rr cls dd σ H'
theorem MethT.go {Rr:RX}{σ:L2.St}{H:Hp}{Q:VK}{a dx:Addr}{fs:List (Str×V)}(h:H a=some (.ins C dx fs))(l:fs.lookup m=none)(q:t σ H fun vs H2=>sp (.ref a::vs) H2 Q fun cls dd H'=>Rr cls dd σ H'):MethT Rr C m sp (.ref a) t σ H Q:=⟨a,dx,fs,rfl,h,l,q⟩
end
section
variable {K:PySem.W.Frag}{ta tv:TE}{t:TA}{f:Str}{D:Ends}{σ:L2.St}{H:Hp}{Q:VK}{C:Addr}{sp:Sp}{E:XK}
def FmtR (x:V)(H1:Hp)(Q:VK):Prop:=(∃ y,x=.str y∧y.length≤sizeLine∧Q (.str y) H1)∨∃ i:Int,x=.int i∧i.natAbs.log2<1920∧Q (.str (toString i)) H1
theorem FmtR.str {y:Str}(h:y.length≤1000)(q:Q (.str y) H):FmtR (.str y) H Q:=.inl ⟨y,rfl,Nat.le_of_lt (qs1 h),q⟩
end
end Sv
namespace Sv
open PySem PySem.Spec PyProof.Rows L2
section
variable {prog:Program}{w:World}{A:Around}{E:Value→Shared→Prop}{s:Shared}{r:Addr}
variable {it l S:Addr}{items:Array Value}
end
section
variable {X:Cx}{e a b:Expr}{t:TA}{p p2 pos pos2:Pos}
end
theorem cont_ {D:Ends}{σ:L2.St}{H:Hp}:tCont D σ H=D.ct σ H:=rfl
def IfR (b:Bool)(ta tb:TE)(σ:L2.St)(H:Hp)(Q:VK):Prop:=if b=true then ta σ H Q else tb σ H Q
section
variable {t:TT}{ta tb:TE}{σ:L2.St}{H:Hp}{Q:VK}
theorem ifx_:tIf t ta tb σ H Q=t σ H fun c H1=>IfR c ta tb σ H1 Q:=rfl
theorem ifR_t:IfR true ta tb σ H Q=ta σ H Q:=rfl
theorem ifR_f:IfR false ta tb σ H Q=tb σ H Q:=rfl
theorem IfR.dec {p:Prop} [Decidable p](h1:p→ta σ H Q)(h2:¬p→tb σ H Q):IfR (decide p) ta tb σ H Q:=by
 by_cases h:p
 ·rw [decide_eq_true h]
  exact h1 h
 ·rw [decide_eq_false h]
  exact h2 h
end
def WhL (Pv:Nat→L2.St→Hp→Prop)(m:Nat)(tb:TS)(D:Ends)(b:Bool)(σ:L2.St)(H1:Hp):Prop:=if b=true then ∃ N:L2.St→Hp→Prop,(∀ σ' H',N σ' H'→∃ m',m'<m∧Pv m' σ' H')∧tb { D with nx:=N,ct:=N,bk:=D.nx } σ H1 else D.nx σ H1
theorem WhL.on {Pv:Nat→L2.St→Hp→Prop}{m:Nat}{tb:TS}{D:Ends}{b:Bool}{σ:L2.St}{H:Hp}(h1:b=true→tb { D with nx:=fun σ' H'=>∃ m',m'<m∧Pv m' σ' H',ct:=fun σ' H'=>∃ m',m'<m∧Pv m' σ' H',bk:=D.nx } σ H)(h2:b=false→D.nx σ H):WhL Pv m tb D b σ H:=by
 cases b with
 | true=>exact ⟨_,fun σ' H' p=>p,h1 rfl⟩
 | false=>exact h2 rfl
theorem while_rel {c:TT}{tb:TS}{D:Ends}{σ:L2.St}{H:Hp}(Pv:Nat→L2.St→Hp→Prop)(m0:Nat)(h0:Pv m0 σ H)(hs:∀ m σ H,Pv m σ H→c σ H fun b H1=>WhL Pv m tb D b σ H1):tWhile c tb D σ H:=⟨Pv,⟨m0,h0⟩,hs⟩
theorem pop_go {l:Addr}{xs:List V}{y:V}{H:Hp}{Q:VK}(h:H l=some (.lst (xs++[y])))(q:Q y (upd H l (.lst xs))):rPop (.ref l) [] H Q:=by
 refine ⟨l,_,y,rfl,rfl,h,?_,?_⟩
 ·rw [List.length_append,List.length_singleton,Nat.add_sub_cancel,List.getElem?_append_right (Nat.le_refl _),Nat.sub_self]
  rfl
 ·rw [List.dropLast_concat]
  exact q
theorem All2.rev {α β:Type}{R:α→β→Prop}{xs:List α}{ys:List β}(h:All2 R xs ys):All2 R xs.reverse ys.reverse:=by
 induction h with
 | nil=>exact .nil
 | cons h _ ih =>
  rw [List.reverse_cons,List.reverse_cons]
  exact All2.snoc ih h
theorem cut_midA {xs:List V}{k j:Nat}:cutV xs (some (k:Int)) (some (j:Int))=(xs.drop k).take (j - k):=by
 unfold cutV
 rw [HT.sIx_nat,HT.sIx_nat]
 by_cases h:k≤xs.length
 ·rw [Nat.min_eq_left h]
  by_cases g:j≤xs.length
  ·rw [Nat.min_eq_left g]
  ·rw [Nat.min_eq_right (by omega),List.take_of_length_le (by rw [List.length_drop]; omega),List.take_of_length_le (by rw [List.length_drop]; omega)]
 ·rw [Nat.min_eq_right (show xs.length≤k by omega),List.drop_of_length_le (Nat.le_refl _),List.drop_of_length_le (show xs.length≤k by omega),List.take_nil,List.take_nil]
theorem slMidA_go {K:PySem.W.Frag}{H:Hp}{Q:VK}{p:Addr}{xs:List V}{k j:Nat}(h:SqL K H p xs)(q:∀ l,H l=none→Q (.ref l) (upd H l (.lst ((xs.drop k).take (j - k))))):rSlL K (.ref p) (some (k:Int)) (some (j:Int)) H Q:=⟨p,xs,rfl,h,by rw [cut_midA]; exact q⟩
theorem cut_dropA {xs:List V}{k:Nat}:cutV xs (some (k:Int)) none=xs.drop k:=by
 by_cases h:k≤xs.length
 ·exact cut_drop h
 ·unfold cutV
  rw [HT.sIx_nat,HT.sIx_none,Nat.min_eq_right (show xs.length≤k by omega),List.drop_of_length_le (Nat.le_refl _),List.drop_of_length_le (show xs.length≤k by omega),List.take_nil]
theorem slDropA_go {K:PySem.W.Frag}{H:Hp}{Q:VK}{p:Addr}{xs:List V}{k:Nat}(h:SqL K H p xs)(q:∀ l,H l=none→Q (.ref l) (upd H l (.lst (xs.drop k)))):rSlL K (.ref p) (some (k:Int)) none H Q:=⟨p,xs,rfl,h,by rw [cut_dropA]; exact q⟩
end Sv
namespace Sv
open PySem PySem.Spec PyProof.Rows L2
theorem Vals.drop_ {xs:List V}{us:List Value}(h:Vals xs us)(k:Nat):Vals (xs.drop k) (us.drop k):=by
 induction h generalizing k with
 | nil=>rw [List.drop_nil,List.drop_nil]; exact .nil
 | cons r t ih =>
  cases k with
  | zero=>exact .cons r t
  | succ k=>exact ih k
theorem gtup3 {K:PySem.W.Frag}{a:Addr}{x y z:V}{i j k:Nat}{σ:L2.St}{H:Hp}{R:L2.St→Hp→Prop}(h:SqT K H a [x,y,z])(q:R (((σ.set i (some x)).set j (some y)).set k (some z)) H) :
  gTup K 3 (gCons (gName i) (gCons (gName j) (gCons (gName k) gNil))) (.ref a) σ H R:=⟨a,_,rfl,h,rfl,_,_,rfl,_,_,rfl,_,_,rfl,rfl,q⟩
theorem ixLast_go {K:PySem.W.Frag}{H:Hp}{Q:VK}{p:Addr}{xs:List V}{y:V}(h:SqL K H p (xs++[y]))(q:Q y H):rIxL K (.ref p) (.int (-1)) H Q:=⟨p,_,-1,y,rfl,rfl,h,atI_last _ _,q⟩
end Sv
namespace Sv
open PySem PySem.Spec PyProof.Rows L2
def Itv (K:PySem.W.Frag)(a:Addr)(n:Nat):It :=
 ⟨fun i H=>∃ xs x,SqL K H a xs∧i<n∧xs[n - 1 - i]?=some x,fun i H x H'=>H'=H∧∀ xs,SqL K H a xs→xs[n - 1 - i]?=some x,fun i _=>n≤i⟩
theorem turn_rev {P:Program}{w:World}{K:PySem.W.Frag}{tg:Expr}(a it:Addr)(n:Nat):Turn P w K tg (Itv K a n) [it] it (fun i h=>i≤n∧h.IsRevIter it a ((n:Int) - 1 - (i:Int))) where
 mem:=by simp
 obj:=fun i h st b hb=>by
  have e:b=it:=by simpa using hb
  subst e
  obtain ⟨_,o,e,c,d⟩:=st
  exact ⟨o,e,fun v z=>by rw [d] at z; cases z⟩
 keep:=fun i h h' st k=>⟨st.1,st.2.at fun o e=>k it (by simp) o e⟩
 item:=by
  intro X hP hw hK hc i pins s σ H E I hf st hg
  subst hP hw hK
  obtain ⟨xs,x,hq,hi,hx⟩:=hg
  obtain ⟨its,rv,p,hz⟩:=I.list hq
  obtain ⟨u,hu,ru⟩:=rv.get hx
  obtain ⟨f0,f1,f2,f3,f4,f5⟩:=hf it (by simp)
  have st1:s.heap.IsRevIter it a ((n - 1 - i:Nat):Int):=by
   rw [show ((n - 1 - i:Nat):Int)=(n:Int) - 1 - (i:Int) by omega]
   exact st.2
  refine wpAny_pyNext_rev_item st1 p.isList (x:=u) (by simpa using hu) fun h' st' sb=>?_
  have I1:Inv X pins σ H { s with heap:=h' }:=I.turned (t':=s.toks) (fun b o hb e=>(sb.2 b hb).trans e) f0 f1 f3 f4 f5
  have st3:i+1≤n∧h'.IsRevIter it a ((n:Int) - 1 - ((i+1:Nat):Int)):=⟨hi,by
   rw [show (n:Int) - 1 - ((i+1:Nat):Int)=((n - 1 - i:Nat):Int) - 1 by omega]
   exact st'⟩
  obtain ⟨o,e,c,d⟩:=id st'
  exact ⟨u,rfl,go_of (s:={ s with heap:=h' }) e c d (by decide) ⟨x,H,I1,ru,⟨rfl,fun ys hy=>by rw [I.list_inj hy hq]; exact hx⟩,st3,fun b hb=>(hf b hb).1⟩⟩
 done:=by
  intro X hP hw hK hc i pins s σ H E I hf st hg
  subst hP hw hK
  have e:i=n:=Nat.le_antisymm st.1 hg
  obtain ⟨f0,f1,f2,f3,f4,f5⟩:=hf it (by simp)
  have st1:s.heap.IsRevIter it a (-1):=by
   rw [show (-1:Int)=(n:Int) - 1 - (i:Int) by omega]
   exact st.2
  exact wpAny_pyNext_rev_end (I.ok.hd hc) st1 fun h' eb=>⟨rfl,I.turned (t':=s.toks) (fun b o hb e=>eb b o hb e) f0 f1 f3 f4 f5⟩
 self:=fun _ _ _ _ _ st h=>wpAny_pyIter_revIter st.2 h
def RevR (K:PySem.W.Frag)(vs:List V)(H:Hp)(R:It→Hp→Prop):Prop:=∃ a xs,vs=[.ref a]∧SqL K H a xs∧R (Itv K a xs.length) H
def iRev (K:PySem.W.Frag)(ta:TA):TI:=fun σ H R=>ta σ H fun vs H1=>RevR K vs H1 R
section
variable {X:Cx}
theorem pi_rev {tg a:Expr}{ta:TA}{p pos:Pos}(hg:Gl X "reversed")(hm:X.mg "reversed"=none)(ha:PA X [a] ta)(hs:starEach [a] X.env=[(false,eval a X.env)]:=by rfl) :
  PI X tg (.Call (.Name "reversed" p) [a] [] pos) (iRev X.K ta):=by
 intro pins s σ H R I h
 refine Call_ (ld_blt I hg hm bo_reversed (PyProof.Rows.callWith_type1 (thn (ha pos pins s σ H _ I h) fun us s1 ⟨vs,H1,I1,r1,q1⟩=>?_) hs rfl))
 obtain ⟨p1,xs,e,h1,q⟩:=q1
 subst e
 obtain ⟨its,rv,t1,hz⟩:=I1.list h1
 cases r1 with
 | cons r rr =>
  cases rr
  cases r
  have hl:=rv.length
  refine call_reversed_list t1.isList ?_
  refine wpAny_pyIter_revIter (it:=s1.heap.objs.size) (l:=p1) (i:=(its.toArray.size:Int) - 1) ⟨_,Heap.get?_push_size _ rfl,rfl,rfl⟩ ?_
  refine ⟨s1.heap.objs.size,[s1.heap.objs.size],_,_,H1,rfl,I1.kept (t':=s1.toks) fun b o e=>Heap.get?_push_of_some _ e,turn_rev p1 _ xs.length,⟨Nat.zero_le _,_,Heap.get?_push_size _ rfl,rfl,?_⟩,fun b hb=>?_,q⟩
  ·show Data.fields #[.ref p1,rawInt ((its.toArray.size:Int) - 1)]=Data.fields #[.ref p1,rawInt ((xs.length:Int) - 1 - ((0:Nat):Int))]
   rw [show (its.toArray.size:Int) - 1=(xs.length:Int) - 1 - ((0:Nat):Int) by rw [List.size_toArray]; omega]
  ·have e:b=s1.heap.objs.size:=by simpa using hb
   subst e
   exact I1.fpOk (Nat.le_refl _) (I1.hok.fresh (Nat.le_refl _))
end
section
variable {K:PySem.W.Frag}{H:Hp}{R:It→Hp→Prop}{a:Addr}{xs:List V}
theorem rev_ {ta:TA}{σ:L2.St}:iRev K ta σ H R=ta σ H fun vs H1=>RevR K vs H1 R:=rfl
theorem RevR.go (h:SqL K H a xs)(q:R (Itv K a xs.length) H):RevR K [.ref a] H R:=⟨a,xs,rfl,h,q⟩
theorem itv:ItOf (Itv K a xs.length) xs.reverse (fun H=>SqL K H a xs) where
 go:=fun i H h l=>by
  rw [List.length_reverse] at l
  exact ⟨xs,xs[xs.length - 1 - i],h,l,List.getElem?_eq_getElem _⟩
 yld:=fun i H x H' h l y=>by
  rw [List.length_reverse] at l
  refine ⟨y.1,?_⟩
  rw [List.getElem?_reverse l]
  exact y.2 xs h
 stop:=fun i H h l=>by
  rw [List.length_reverse] at l
  exact l
end
theorem dnewT_ {σ:L2.St}{H:Hp}{Q:VK}:tDNewT σ H Q=∀ p,H p=none→Q (.ref p) (upd H p (.dT [])):=rfl
end Sv
namespace Sv
open PySem PySem.Spec PyProof.Rows L2
def LabN (ns:List Int):Prop:=ns.length≤8∧∀ n∈ns,0≤n∧n<10 ^ 10
def RepA (Q:VK)(x:V)(H:Hp):Prop:=∃ a ns,x=.ref a∧H a=some (.tup (ns.map V.int))∧LabN ns∧∀ z:Str,z.length≤200→Q (.str z) H
theorem RepA.go {Q:VK}{a:Addr}{ns:List Int}{H:Hp}(h:H a=some (.tup (ns.map V.int)))(l:LabN ns)(q:∀ z:Str,z.length≤200→Q (.str z) H):RepA Q (.ref a) H:=⟨a,ns,rfl,h,l,q⟩
def PtV (H:Hp)(v:V)(k:List Int):Prop:=∃ a,v=.ref a∧IsPt H a k
end Sv
namespace Sv
open PySem PySem.Spec PyProof.Rows L2
end Sv
local macro_rules | `(tactic| walk_at "o")=>`(tactic| first | exact .inl rfl | exact .inr rfl | assumption)
local macro_rules | `(tactic| walk_at "d")=>`(tactic| ((refine' Sv.mk_def (by assumption) (by assumption) ?a ?l ?c ?k); (case a=>k_is); (case l=>k_is); (case c=>k_is); (case k=>k_is)))
local macro_rules | `(tactic| walk_at "m")=>`(tactic| ((refine' Sv.mk_mdef ?a ?l ?c ?k ?n); (case a=>k_is); (case l=>k_is); (case c=>k_is); (case k=>k_is); (case n=>k_is)))
local macro_rules | `(tactic| walk_at "n")=>`(tactic| ((refine' PySem.W.mg_none_of (by assumption) (by assumption) ?a); (case a=>k_is)))
local macro_rules | `(tactic| walk_at "sv")=>`(tactic| try simp only [List.map_cons,List.map_nil,List.getD_cons_zero,List.getD_cons_succ,Sv.seq_,Sv.dget_,Sv.din_,Sv.dnotin_,Sv.dput_,Sv.dnew_,Sv.dic_,Sv.rng2_,Sv.rev_,Sv.dnewT_,Sv.cont_,Sv.ifx_,Sv.ifR_t,Sv.ifR_f,Sv.comp_,Sv.setComp_,Sv.yes_,Sv.jn0_,Sv.jnC_,Sv.asnx_,Sv.asrt_,Sv.next_,Sv.ret_,Sv.drop_,Sv.ifS_,Sv.asg_,Sv.gname_,Sv.var_,Sv.ex_,Sv.exb_,Sv.c_,Sv.op_,Sv.un_,Sv.test_,Sv.tB_,Sv.and_,Sv.or_,Sv.not_,Sv.andV_,Sv.orV_,Sv.rI0_,Sv.rU_,Sv.ilist_,Sv.chain_,Sv.brC_t,Sv.brC_f,Sv.cxK2,Sv.rI_,Sv.rEqI_,Sv.rNeI_,Sv.rEqS_,Sv.rNeS_,Sv.nil_,Sv.cons_,Sv.tup_,Sv.lst_,Sv.call_,Sv.cb_,Sv.for_,Sv.rng1_,Sv.zip_,Sv.enum_,Sv.fld_,Sv.sfld_,Sv.make_,Sv.methA_,Sv.rNeB_,Sv.rEqB_,Sv.slice_,Sv.part_,Sv.nopart_,Sv.max_,Sv.min_,Sv.bm0_,Sv.bm_,Sv.tyInt_,Sv.tyStr_,Sv.cxK,Sv.brS_t,Sv.brS_f,Sv.brA_t,Sv.brA_f,Sv.brO_t,Sv.brO_f,Sv.brAV_t,Sv.brAV_f,Sv.brOV_t,Sv.brOV_f,Bool.not_true,Bool.not_false,true_and,eq_self,decide_true,decide_false,if_true,if_false,Bool.false_eq_true, List.getElem?_cons_zero,List.getElem?_cons_succ,List.set_cons_zero,List.set_cons_succ])
local macro_rules | `(tactic| walk_at "svn")=>`(tactic| try simp only [List.map_cons,List.map_nil,List.getD_cons_zero,List.getD_cons_succ,Sv.seq_,Sv.dget_,Sv.din_,Sv.dnotin_,Sv.dput_,Sv.dnew_,Sv.dic_,Sv.rng2_,Sv.rev_,Sv.dnewT_,Sv.cont_,Sv.ifx_,Sv.ifR_t,Sv.ifR_f,Sv.comp_,Sv.setComp_,Sv.yes_,Sv.jn0_,Sv.jnC_,Sv.asnx_,Sv.asrt_,Sv.next_,Sv.ret_,Sv.drop_,Sv.ifS_,Sv.asg_,Sv.gname_,Sv.var_,Sv.ex_,Sv.exb_,Sv.c_,Sv.op_,Sv.un_,Sv.test_,Sv.tB_,Sv.and_,Sv.or_,Sv.not_,Sv.andV_,Sv.orV_,Sv.rI0_,Sv.rU_,Sv.ilist_,Sv.chain_,Sv.brC_t,Sv.brC_f,Sv.cxK2,Int.reduceEq,Sv.rI_,Sv.rEqI_,Sv.rNeI_,Sv.rEqS_,Sv.rNeS_,Sv.nil_,Sv.cons_,Sv.tup_,Sv.lst_,Sv.call_,Sv.cb_,Sv.for_,Sv.rng1_,Sv.zip_,Sv.enum_,Sv.fld_,Sv.sfld_,Sv.make_,Sv.methA_,Sv.rNeB_,Sv.rEqB_,Sv.slice_,Sv.part_,Sv.nopart_,Sv.max_,Sv.min_,Sv.bm0_,Sv.bm_,Sv.tyInt_,Sv.tyStr_,Sv.cxK,Sv.brS_t,Sv.brS_f,Sv.brA_t,Sv.brA_f,Sv.brO_t,Sv.brO_f,Sv.brAV_t,Sv.brAV_f,Sv.brOV_t,Sv.brOV_f,Bool.not_true,Bool.not_false,true_and,eq_self,decide_true,decide_false,if_true,if_false,Bool.false_eq_true, List.getElem?_cons_zero,List.getElem?_cons_succ,List.set_cons_zero,List.set_cons_succ])
local macro_rules | `(tactic| walk_at "ix")=>`(tactic| repeat (first | refine Sv.ixT_go (i:=0) (L2.SqT.of (by assumption)) rfl ?_ | refine Sv.ixT_go (i:=1) (L2.SqT.of (by assumption)) rfl ?_ | simp only [Int.zero_add,List.map_cons,List.map_nil,List.getD_cons_zero,List.getD_cons_succ,Sv.seq_,Sv.dget_,Sv.din_,Sv.dnotin_,Sv.dput_,Sv.dnew_,Sv.dic_,Sv.rng2_,Sv.rev_,Sv.dnewT_,Sv.cont_,Sv.ifx_,Sv.ifR_t,Sv.ifR_f,Sv.comp_,Sv.setComp_,Sv.yes_,Sv.jn0_,Sv.jnC_,Sv.asnx_,Sv.asrt_,Sv.next_,Sv.ret_,Sv.drop_,Sv.ifS_,Sv.asg_,Sv.gname_,Sv.var_,Sv.ex_,Sv.exb_,Sv.c_,Sv.op_,Sv.un_,Sv.test_,Sv.tB_,Sv.and_,Sv.or_,Sv.not_,Sv.andV_,Sv.orV_,Sv.rI0_,Sv.rU_,Sv.ilist_,Sv.chain_,Sv.brC_t,Sv.brC_f,Sv.cxK2,Sv.rI_,Sv.rEqI_,Sv.rNeI_,Sv.rEqS_,Sv.rNeS_,Sv.nil_,Sv.cons_,Sv.tup_,Sv.lst_,Sv.call_,Sv.cb_,Sv.for_,Sv.rng1_,Sv.zip_,Sv.enum_,Sv.fld_,Sv.sfld_,Sv.make_,Sv.methA_,Sv.rNeB_,Sv.rEqB_,Sv.slice_,Sv.part_,Sv.nopart_,Sv.max_,Sv.min_,Sv.bm0_,Sv.bm_,Sv.tyInt_,Sv.tyStr_,Sv.cxK,Sv.brS_t,Sv.brS_f,Sv.brA_t,Sv.brA_f,Sv.brO_t,Sv.brO_f,Sv.brAV_t,Sv.brAV_f,Sv.brOV_t,Sv.brOV_f,Bool.not_true,Bool.not_false,true_and,eq_self,decide_true,decide_false,if_true,if_false,Bool.false_eq_true, List.getElem?_cons_zero,List.getElem?_cons_succ,List.set_cons_zero,List.set_cons_succ]))
namespace K49
open PySem PySem.Spec PyProof.Rows L2 Sv
section
variable {P:Program}{w:World}{K:PySem.W.Frag}{mg:Str→Option Value}{base:Heap}{f:Addr}{fd:FuncData}
def top (i:Nat):Stmt:=PySem.Challenge.pw_sieve_k49_parcels_at_a_gate.main.body.getD i (.Pass ⟨0,0,0,0⟩)
abbrev s__wall:Stmt:=top 0
abbrev s_TwoChains___init__:Stmt:=qc1 (top 3) 0
abbrev s_NoChain___init__:Stmt:=qc1 (top 4) 0
abbrev s_Ring___init__:Stmt:=qc1 (top 5) 0
abbrev s_TooLong___init__:Stmt:=qc1 (top 6) 0
abbrev s_OutOfTime___init__:Stmt:=qc1 (top 7) 0
theorem sc_OutOfTime___init__:qj ["self","moment"] ["self","moment"] (qg s_OutOfTime___init__):=⟨rfl,rfl,rfl,by decide +kernel,rfl,by decide +kernel,by decide +kernel⟩
abbrev s_holds:Stmt:=top 12
theorem st_holds {v0 v1:V}:qd1 ["stretch","number"] [v0,v1]=[some v0,some v1]:=rfl
theorem sc_holds:qj ["stretch","number"] ["stretch","number"] (qg s_holds):=⟨rfl,rfl,rfl,by decide +kernel,rfl,by decide +kernel,by decide +kernel⟩
abbrev s_has:Stmt:=top 14
theorem st_has {v0 v1:V}:qd1 ["box","point"] [v0,v1]=[some v0,some v1]:=rfl
theorem sc_has:qj ["box","point"] ["box","point"] (qg s_has):=⟨rfl,rfl,rfl,by decide +kernel,rfl,by decide +kernel,by decide +kernel⟩
abbrev s_Rule___init__:Stmt:=qc1 (top 16) 0
theorem st_Rule___init__ {v0 v1:V}:qd1 ["self","box"] [v0,v1]=[some v0,some v1]:=rfl
theorem sc_Rule___init__:qj ["self","box"] ["self","box"] (qg s_Rule___init__):=⟨rfl,rfl,rfl,by decide +kernel,rfl,by decide +kernel,by decide +kernel⟩
abbrev s_Rule_fits:Stmt:=qc1 (top 16) 1
theorem st_Rule_fits {v0 v1:V}:qd1 ["self","parcel"] [v0,v1]=[some v0,some v1]:=rfl
theorem sc_Rule_fits:qj ["self","parcel"] ["self","parcel"] (qg s_Rule_fits):=⟨rfl,rfl,rfl,by decide +kernel,rfl,by decide +kernel,by decide +kernel⟩
abbrev s_Word___init__:Stmt:=qc1 (top 17) 0
theorem st_Word___init__ {v0 v1 v2:V}:qd1 ["self","box","word"] [v0,v1,v2]=[some v0,some v1,some v2]:=rfl
theorem sc_Word___init__:qj ["self","box","word"] ["self","box","word"] (qg s_Word___init__):=⟨rfl,rfl,rfl,by decide +kernel,rfl,by decide +kernel,by decide +kernel⟩
abbrev s_Word_told:Stmt:=qc1 (top 17) 1
theorem st_Word_told {v0:V}:qd1 ["self"] [v0]=[some v0]:=rfl
theorem sc_Word_told:qj ["self"] ["self"] (qg s_Word_told):=⟨rfl,rfl,rfl,by decide +kernel,rfl,by decide +kernel,by decide +kernel⟩
abbrev s_Word_head:Stmt:=qc1 (top 17) 2
abbrev s_Back_told:Stmt:=qc1 (top 18) 0
theorem st_Back_told {v0:V}:qd1 ["self"] [v0]=[some v0]:=rfl
theorem sc_Back_told:qj ["self"] ["self"] (qg s_Back_told):=⟨rfl,rfl,rfl,by decide +kernel,rfl,by decide +kernel,by decide +kernel⟩
abbrev s_Back_head:Stmt:=qc1 (top 18) 1
abbrev s_Call___init__:Stmt:=qc1 (top 19) 0
theorem st_Call___init__ {v0 v1 v2:V}:qd1 ["self","box","name"] [v0,v1,v2]=[some v0,some v1,some v2]:=rfl
theorem sc_Call___init__:qj ["self","box","name"] ["self","box","name"] (qg s_Call___init__):=⟨rfl,rfl,rfl,by decide +kernel,rfl,by decide +kernel,by decide +kernel⟩
abbrev s_Call_told:Stmt:=qc1 (top 19) 1
theorem st_Call_told {v0:V}:qd1 ["self"] [v0]=[some v0]:=rfl
theorem sc_Call_told:qj ["self"] ["self"] (qg s_Call_told):=⟨rfl,rfl,rfl,by decide +kernel,rfl,by decide +kernel,by decide +kernel⟩
abbrev s_Call_head:Stmt:=qc1 (top 19) 2
abbrev s_rule_of:Stmt:=top 20
theorem st_rule_of {v0:V}:qd1 ["told"] [v0]=[some v0]:=rfl
theorem sc_rule_of:qj ["told"] ["told"] (qg s_rule_of):=⟨rfl,rfl,rfl,by decide +kernel,rfl,by decide +kernel,by decide +kernel⟩
abbrev s_called_names:Stmt:=top 24
theorem st_called_names {v0:V}:qd1 ["rules"] [v0]=[some v0]:=rfl
theorem sc_called_names:qj ["rules"] ["rules"] (qg s_called_names):=⟨rfl,rfl,rfl,by decide +kernel,rfl,by decide +kernel,by decide +kernel⟩
abbrev s_refuse_two_chains:Stmt:=top 25
theorem st_refuse_two_chains {v0:V}:qd1 ["names","place","name"] [v0]=[some v0,none,none]:=rfl
theorem sc_refuse_two_chains:qj ["names","place","name"] ["names"] (qg s_refuse_two_chains):=⟨rfl,rfl,rfl,by decide +kernel,rfl,by decide +kernel,by decide +kernel⟩
abbrev s_refuse_missing_chains:Stmt:=top 26
theorem st_refuse_missing_chains {v0:V}:qd1 ["chains","name","called"] [v0]=[some v0,none,none]:=rfl
theorem sc_refuse_missing_chains:qj ["chains","name","called"] ["chains"] (qg s_refuse_missing_chains):=⟨rfl,rfl,rfl,by decide +kernel,rfl,by decide +kernel,by decide +kernel⟩
abbrev s_ready_names:Stmt:=top 27
theorem st_ready_names {v0 v1:V}:qd1 ["chains","lengths","ready","name","lacking"] [v0,v1]=[some v0,some v1,none,none,none]:=rfl
theorem sc_ready_names:qj ["chains","lengths","ready","name","lacking"] ["chains","lengths"] (qg s_ready_names):=⟨rfl,rfl,rfl,by decide +kernel,rfl,by decide +kernel,by decide +kernel⟩
abbrev s_chain_lengths:Stmt:=top 28
theorem st_chain_lengths {v0:V}:qd1 ["chains","lengths","ready","name","rules"] [v0]=[some v0,none,none,none,none]:=rfl
theorem sc_chain_lengths:qj ["chains","lengths","ready","name","rules"] ["chains"] (qg s_chain_lengths):=⟨rfl,rfl,rfl,by decide +kernel,rfl,by decide +kernel,by decide +kernel⟩
abbrev s_first_unmeasured:Stmt:=top 29
abbrev s_ring_among:Stmt:=top 30
abbrev s_Book___init__:Stmt:=qc1 (top 31) 0
theorem st_Book___init__ {v0 v1 v2:V}:qd1 ["self","default","chains","kept","name","rules","lengths"] [v0,v1,v2]=[some v0,some v1,some v2,none,none,none,none]:=rfl
theorem sc_Book___init__:qj ["self","default","chains","kept","name","rules","lengths"] ["self","default","chains"] (qg s_Book___init__):=⟨rfl,rfl,rfl,by decide +kernel,rfl,by decide +kernel,by decide +kernel⟩
abbrev s_Book_chain_names:Stmt:=qc1 (top 31) 1
abbrev s_Book_chain:Stmt:=qc1 (top 31) 2
abbrev s_Book_rule_at:Stmt:=qc1 (top 31) 3
theorem st_Book_rule_at {v0 v1 v2:V}:qd1 ["self","name","index","rules"] [v0,v1,v2]=[some v0,some v1,some v2,none]:=rfl
theorem sc_Book_rule_at:qj ["self","name","index","rules"] ["self","name","index"] (qg s_Book_rule_at):=⟨rfl,rfl,rfl,by decide +kernel,rfl,by decide +kernel,by decide +kernel⟩
abbrev s_Book_length:Stmt:=qc1 (top 31) 4
abbrev s_Book_length_of:Stmt:=qc1 (top 31) 5
abbrev s_Book_told:Stmt:=qc1 (top 31) 6
theorem st_Book_told {v0:V}:qd1 ["self","chains","name"] [v0]=[some v0,none,none]:=rfl
theorem sc_Book_told:qj ["self","chains","name"] ["self"] (qg s_Book_told):=⟨rfl,rfl,rfl,by decide +kernel,rfl,by decide +kernel,by decide +kernel⟩
abbrev s_copy_of:Stmt:=top 32
theorem st_copy_of {v0:V}:qd1 ["book","told"] [v0]=[some v0,none]:=rfl
theorem sc_copy_of:qj ["book","told"] ["book"] (qg s_copy_of):=⟨rfl,rfl,rfl,by decide +kernel,rfl,by decide +kernel,by decide +kernel⟩
abbrev s_changed:Stmt:=top 34
theorem st_changed {v0 v1 v2 v3:V}:qd1 ["label","side","address","door"] [v0,v1,v2,v3]=[some v0,some v1,some v2,some v3]:=rfl
theorem sc_changed:qj ["label","side","address","door"] ["label","side","address","door"] (qg s_changed):=⟨rfl,rfl,rfl,by decide +kernel,rfl,by decide +kernel,by decide +kernel⟩
abbrev s_free_or_none:Stmt:=top 35
theorem st_free_or_none {v0 v1 v2:V}:qd1 ["label","sent","table"] [v0,v1,v2]=[some v0,some v1,some v2]:=rfl
theorem sc_free_or_none:qj ["label","sent","table"] ["label","sent","table"] (qg s_free_or_none):=⟨rfl,rfl,rfl,by decide +kernel,rfl,by decide +kernel,by decide +kernel⟩
abbrev s_choice_by:Stmt:=top 36
theorem st_choice_by {v0 v1 v2:V}:qd1 ["change","label","table","door","sent"] [v0,v1,v2]=[some v0,some v1,some v2,none,none]:=rfl
theorem sc_choice_by:qj ["change","label","table","door","sent"] ["change","label","table"] (qg s_choice_by):=⟨rfl,rfl,rfl,by decide +kernel,rfl,by decide +kernel,by decide +kernel⟩
abbrev s_choice:Stmt:=top 37
theorem st_choice {v0 v1 v2:V}:qd1 ["changes","label","table","change"] [v0,v1,v2]=[some v0,some v1,some v2,none]:=rfl
theorem sc_choice:qj ["changes","label","table","change"] ["changes","label","table"] (qg s_choice):=⟨rfl,rfl,rfl,by decide +kernel,rfl,by decide +kernel,by decide +kernel⟩
abbrev s_read_through:Stmt:=top 39
theorem st_read_through {v0 v1:V}:qd1 ["book","parcel","looked","places","place","rule","fits"] [v0,v1]=[some v0,some v1,none,none,none,none,none]:=rfl
theorem sc_read_through:qj ["book","parcel","looked","places","place","rule","fits"] ["book","parcel"] (qg s_read_through):=⟨rfl,rfl,rfl,by decide +kernel,rfl,by decide +kernel,by decide +kernel⟩
abbrev s_word_of:Stmt:=top 40
theorem st_word_of {v0 v1:V}:qd1 ["book","parcel"] [v0,v1]=[some v0,some v1]:=rfl
theorem sc_word_of:qj ["book","parcel"] ["book","parcel"] (qg s_word_of):=⟨rfl,rfl,rfl,by decide +kernel,rfl,by decide +kernel,by decide +kernel⟩
abbrev s_flip:Stmt:=top 42
theorem st_flip {v0:V}:qd1 ["label"] [v0]=[some v0]:=rfl
theorem sc_flip:qj ["label"] ["label"] (qg s_flip):=⟨rfl,rfl,rfl,by decide +kernel,rfl,by decide +kernel,by decide +kernel⟩
abbrev s_Talk___init__:Stmt:=qc1 (top 43) 0
theorem st_Talk___init__ {v0 v1 v2 v3:V}:qd1 ["self","label","sent","until"] [v0,v1,v2,v3]=[some v0,some v1,some v2,some v3]:=rfl
theorem sc_Talk___init__:qj ["self","label","sent","until"] ["self","label","sent","until"] (qg s_Talk___init__):=⟨rfl,rfl,rfl,by decide +kernel,rfl,by decide +kernel,by decide +kernel⟩
abbrev s_Talk_has_both_farewells:Stmt:=qc1 (top 43) 1
theorem st_Talk_has_both_farewells {v0:V}:qd1 ["self"] [v0]=[some v0]:=rfl
theorem sc_Talk_has_both_farewells:qj ["self"] ["self"] (qg s_Talk_has_both_farewells):=⟨rfl,rfl,rfl,by decide +kernel,rfl,by decide +kernel,by decide +kernel⟩
abbrev s_Talk_outgoing:Stmt:=qc1 (top 43) 2
theorem st_Talk_outgoing {v0 v1:V}:qd1 ["self","label"] [v0,v1]=[some v0,some v1]:=rfl
theorem sc_Talk_outgoing:qj ["self","label"] ["self","label"] (qg s_Talk_outgoing):=⟨rfl,rfl,rfl,by decide +kernel,rfl,by decide +kernel,by decide +kernel⟩
abbrev s_Table___init__:Stmt:=qc1 (top 44) 0
theorem st_Table___init__ {v0 v1 v2 v3:V}:qd1 ["self","short","long","most"] [v0,v1,v2,v3]=[some v0,some v1,some v2,some v3]:=rfl
theorem sc_Table___init__:qj ["self","short","long","most"] ["self","short","long","most"] (qg s_Table___init__):=⟨rfl,rfl,rfl,by decide +kernel,rfl,by decide +kernel,by decide +kernel⟩
abbrev s_Table_keep:Stmt:=qc1 (top 44) 1
theorem st_Table_keep {v0 v1:V}:qd1 ["self","talks","talk"] [v0,v1]=[some v0,some v1,none]:=rfl
theorem sc_Table_keep:qj ["self","talks","talk"] ["self","talks"] (qg s_Table_keep):=⟨rfl,rfl,rfl,by decide +kernel,rfl,by decide +kernel,by decide +kernel⟩
abbrev s_Table_at:Stmt:=qc1 (top 44) 2
theorem st_Table_at {v0 v1:V}:qd1 ["self","moment"] [v0,v1]=[some v0,some v1]:=rfl
theorem sc_Table_at:qj ["self","moment"] ["self","moment"] (qg s_Table_at):=⟨rfl,rfl,rfl,by decide +kernel,rfl,by decide +kernel,by decide +kernel⟩
abbrev s_Table_turn:Stmt:=qc1 (top 44) 3
theorem st_Table_turn {v0 v1:V}:qd1 ["self","label","talk"] [v0,v1]=[some v0,some v1,none]:=rfl
theorem sc_Table_turn:qj ["self","label","talk"] ["self","label"] (qg s_Table_turn):=⟨rfl,rfl,rfl,by decide +kernel,rfl,by decide +kernel,by decide +kernel⟩
abbrev s_Table_free:Stmt:=qc1 (top 44) 4
theorem st_Table_free {v0 v1 v2:V}:qd1 ["self","label","sent","back"] [v0,v1,v2]=[some v0,some v1,some v2,none]:=rfl
theorem sc_Table_free:qj ["self","label","sent","back"] ["self","label","sent"] (qg s_Table_free):=⟨rfl,rfl,rfl,by decide +kernel,rfl,by decide +kernel,by decide +kernel⟩
abbrev s_Table_begin:Stmt:=qc1 (top 44) 5
theorem st_Table_begin {v0 v1 v2:V}:qd1 ["self","label","sent"] [v0,v1,v2]=[some v0,some v1,some v2]:=rfl
theorem sc_Table_begin:qj ["self","label","sent"] ["self","label","sent"] (qg s_Table_begin):=⟨rfl,rfl,rfl,by decide +kernel,rfl,by decide +kernel,by decide +kernel⟩
abbrev s_Table_go_on:Stmt:=qc1 (top 44) 6
theorem st_Table_go_on {v0 v1 v2:V}:qd1 ["self","label","last","talk"] [v0,v1,v2]=[some v0,some v1,some v2,none]:=rfl
theorem sc_Table_go_on:qj ["self","label","last","talk"] ["self","label","last"] (qg s_Table_go_on):=⟨rfl,rfl,rfl,by decide +kernel,rfl,by decide +kernel,by decide +kernel⟩
abbrev s_Table_is_full:Stmt:=qc1 (top 44) 7
theorem st_Table_is_full {v0:V}:qd1 ["self"] [v0]=[some v0]:=rfl
theorem sc_Table_is_full:qj ["self"] ["self"] (qg s_Table_is_full):=⟨rfl,rfl,rfl,by decide +kernel,rfl,by decide +kernel,by decide +kernel⟩
abbrev s_Table_standing:Stmt:=qc1 (top 44) 8
theorem st_Table_standing {v0:V}:qd1 ["self"] [v0]=[some v0]:=rfl
theorem sc_Table_standing:qj ["self"] ["self"] (qg s_Table_standing):=⟨rfl,rfl,rfl,by decide +kernel,rfl,by decide +kernel,by decide +kernel⟩
abbrev s_Gate___init__:Stmt:=qc1 (top 46) 0
theorem st_Gate___init__ {v0 v1 v2 v3 v4 v5:V}:qd1 ["self","book","changes","short","long","most"] [v0,v1,v2,v3,v4,v5]=[some v0,some v1,some v2,some v3,some v4,some v5]:=rfl
theorem sc_Gate___init__:qj ["self","book","changes","short","long","most"] ["self","book","changes","short","long","most"] (qg s_Gate___init__):=⟨rfl,rfl,rfl,by decide +kernel,rfl,by decide +kernel,by decide +kernel⟩
abbrev s_Gate_turn:Stmt:=qc1 (top 46) 1
theorem st_Gate_turn {v0 v1:V}:qd1 ["self","label"] [v0,v1]=[some v0,some v1]:=rfl
theorem sc_Gate_turn:qj ["self","label"] ["self","label"] (qg s_Gate_turn):=⟨rfl,rfl,rfl,by decide +kernel,rfl,by decide +kernel,by decide +kernel⟩
abbrev s_Gate_standing:Stmt:=qc1 (top 46) 2
theorem st_Gate_standing {v0:V}:qd1 ["self"] [v0]=[some v0]:=rfl
theorem sc_Gate_standing:qj ["self"] ["self"] (qg s_Gate_standing):=⟨rfl,rfl,rfl,by decide +kernel,rfl,by decide +kernel,by decide +kernel⟩
abbrev s_Gate_take:Stmt:=qc1 (top 46) 3
theorem st_Gate_take {v0 v1 v2 v3:V}:qd1 ["self","moment","label","last","turn"] [v0,v1,v2,v3]=[some v0,some v1,some v2,some v3,none]:=rfl
theorem sc_Gate_take:qj ["self","moment","label","last","turn"] ["self","moment","label","last"] (qg s_Gate_take):=⟨rfl,rfl,rfl,by decide +kernel,rfl,by decide +kernel,by decide +kernel⟩
abbrev s_Gate_begin_talk:Stmt:=qc1 (top 46) 4
theorem st_Gate_begin_talk {v0 v1 v2:V}:qd1 ["self","label","last","sent"] [v0,v1,v2]=[some v0,some v1,some v2,none]:=rfl
theorem sc_Gate_begin_talk:qj ["self","label","last","sent"] ["self","label","last"] (qg s_Gate_begin_talk):=⟨rfl,rfl,rfl,by decide +kernel,rfl,by decide +kernel,by decide +kernel⟩
abbrev s__law_cell_at:Stmt:=top 48
theorem st__law_cell_at {v0 v1:V}:qd1 ["_law_script","_law_k"] [v0,v1]=[some v0,some v1]:=rfl
theorem sc__law_cell_at:qj ["_law_script","_law_k"] ["_law_script","_law_k"] (qg s__law_cell_at):=⟨rfl,rfl,rfl,by decide +kernel,rfl,by decide +kernel,by decide +kernel⟩
abbrev s__law_stream:Stmt:=top 49
theorem st__law_stream {v0 v1:V}:qd1 ["_law_cell","_law_many","_law_found","_law_number","_law_k"] [v0,v1]=[some v0,some v1,none,none,none]:=rfl
theorem sc__law_stream:qj ["_law_cell","_law_many","_law_found","_law_number","_law_k"] ["_law_cell","_law_many"] (qg s__law_stream):=⟨rfl,rfl,rfl,by decide +kernel,rfl,by decide +kernel,by decide +kernel⟩
abbrev s__law_flip:Stmt:=top 50
theorem st__law_flip {v0:V}:qd1 ["_law_label_here"] [v0]=[some v0]:=rfl
theorem sc__law_flip:qj ["_law_label_here"] ["_law_label_here"] (qg s__law_flip):=⟨rfl,rfl,rfl,by decide +kernel,rfl,by decide +kernel,by decide +kernel⟩
abbrev s__law_ends:Stmt:=top 51
theorem st__law_ends {v0:V}:qd1 ["_law_cell","_law_draws","_law_kind","_law_one","_law_two","_law_kinds"] [v0]=[some v0,none,none,none,none,none]:=rfl
theorem sc__law_ends:qj ["_law_cell","_law_draws","_law_kind","_law_one","_law_two","_law_kinds"] ["_law_cell"] (qg s__law_ends):=⟨rfl,rfl,rfl,by decide +kernel,rfl,by decide +kernel,by decide +kernel⟩
abbrev s__law_label:Stmt:=top 52
theorem st__law_label {v0 v1:V}:qd1 ["_law_draw","_law_ends_here","_law_kinds","_law_some"] [v0,v1]=[some v0,some v1,none,none]:=rfl
theorem sc__law_label:qj ["_law_draw","_law_ends_here","_law_kinds","_law_some"] ["_law_draw","_law_ends_here"] (qg s__law_label):=⟨rfl,rfl,rfl,by decide +kernel,rfl,by decide +kernel,by decide +kernel⟩
abbrev s__law_rules:Stmt:=top 53
theorem st__law_rules {v0 v1:V}:qd1 ["_law_cell","_law_ends_here","_law_rules_here","_law_k","_law_draws","_law_low","_law_turns","_law_address","_law_receivers","_law_box"] [v0,v1]=[some v0,some v1,none,none,none,none,none,none,none,none]:=rfl
theorem sc__law_rules:qj ["_law_cell","_law_ends_here","_law_rules_here","_law_k","_law_draws","_law_low","_law_turns","_law_address","_law_receivers","_law_box"] ["_law_cell","_law_ends_here"] (qg s__law_rules):=⟨rfl,rfl,rfl,by decide +kernel,rfl,by decide +kernel,by decide +kernel⟩
abbrev s__law_changes:Stmt:=top 54
theorem st__law_changes {v0 v1:V}:qd1 ["_law_cell","_law_ends_here","_law_changes_here","_law_k","_law_draws","_law_one","_law_senders","_law_box","_law_other","_law_low","_law_side"] [v0,v1]=[some v0,some v1,none,none,none,none,none,none,none,none,none]:=rfl
theorem sc__law_changes:qj ["_law_cell","_law_ends_here","_law_changes_here","_law_k","_law_draws","_law_one","_law_senders","_law_box","_law_other","_law_low","_law_side"] ["_law_cell","_law_ends_here"] (qg s__law_changes):=⟨rfl,rfl,rfl,by decide +kernel,rfl,by decide +kernel,by decide +kernel⟩
abbrev s__law_in:Stmt:=top 55
theorem st__law_in {v0 v1:V}:qd1 ["_law_box","_law_point"] [v0,v1]=[some v0,some v1]:=rfl
theorem sc__law_in:qj ["_law_box","_law_point"] ["_law_box","_law_point"] (qg s__law_in):=⟨rfl,rfl,rfl,by decide +kernel,rfl,by decide +kernel,by decide +kernel⟩
abbrev s__law_at:Stmt:=top 56
theorem st__law_at {v0 v1:V}:qd1 ["_law_talks","_law_label_here","_law_k"] [v0,v1]=[some v0,some v1,none]:=rfl
theorem sc__law_at:qj ["_law_talks","_law_label_here","_law_k"] ["_law_talks","_law_label_here"] (qg s__law_at):=⟨rfl,rfl,rfl,by decide +kernel,rfl,by decide +kernel,by decide +kernel⟩
abbrev s__law_turn:Stmt:=top 57
theorem st__law_turn {v0 v1:V}:qd1 ["_law_talks","_law_label_here","_law_at_here"] [v0,v1]=[some v0,some v1,none]:=rfl
theorem sc__law_turn:qj ["_law_talks","_law_label_here","_law_at_here"] ["_law_talks","_law_label_here"] (qg s__law_turn):=⟨rfl,rfl,rfl,by decide +kernel,rfl,by decide +kernel,by decide +kernel⟩
abbrev s__law_choice:Stmt:=top 58
theorem st__law_choice {v0 v1 v2:V}:qd1 ["_law_changes_here","_law_talks","_law_label_here","_law_some","_law_side","_law_box","_law_address","_law_doors","_law_sent","_law_key"] [v0,v1,v2]=[some v0,some v1,some v2,none,none,none,none,none,none,none]:=rfl
theorem sc__law_choice:qj ["_law_changes_here","_law_talks","_law_label_here","_law_some","_law_side","_law_box","_law_address","_law_doors","_law_sent","_law_key"] ["_law_changes_here","_law_talks","_law_label_here"] (qg s__law_choice):=⟨rfl,rfl,rfl,by decide +kernel,rfl,by decide +kernel,by decide +kernel⟩
abbrev s__law_going:Stmt:=top 59
theorem st__law_going {v0 v1 v2 v3 v4 v5:V}:qd1 ["_law_talks","_law_at_here","_law_label_here","_law_last","_law_time","_law_spans","_law_came","_law_sent","_law_answered","_law_until","_law_onward","_law_back","_law_out","_law_talk"] [v0,v1,v2,v3,v4,v5]=[some v0,some v1,some v2,some v3,some v4,some v5,none,none,none,none,none,none,none,none]:=rfl
theorem sc__law_going:qj ["_law_talks","_law_at_here","_law_label_here","_law_last","_law_time","_law_spans","_law_came","_law_sent","_law_answered","_law_until","_law_onward","_law_back","_law_out","_law_talk"] ["_law_talks","_law_at_here","_law_label_here","_law_last","_law_time","_law_spans"] (qg s__law_going):=⟨rfl,rfl,rfl,by decide +kernel,rfl,by decide +kernel,by decide +kernel⟩
abbrev s__law_due:Stmt:=top 60
theorem st__law_due {v0 v1 v2 v3 v4 v5:V}:qd1 ["_law_rules_here","_law_default","_law_changes_here","_law_talks","_law_spans","_law_parcel_here","_law_time","_law_label_here","_law_last","_law_turn_here","_law_word","_law_box","_law_sent"] [v0,v1,v2,v3,v4,v5]=[some v0,some v1,some v2,some v3,some v4,some v5,none,none,none,none,none,none,none]:=rfl
theorem sc__law_due:qj ["_law_rules_here","_law_default","_law_changes_here","_law_talks","_law_spans","_law_parcel_here","_law_time","_law_label_here","_law_last","_law_turn_here","_law_word","_law_box","_law_sent"] ["_law_rules_here","_law_default","_law_changes_here","_law_talks","_law_spans","_law_parcel_here"] (qg s__law_due):=⟨rfl,rfl,rfl,by decide +kernel,rfl,by decide +kernel,by decide +kernel⟩
abbrev s__law_parcel:Stmt:=top 61
theorem st__law_parcel {v0 v1 v2 v3:V}:qd1 ["_law_talks","_law_time","_law_draws","_law_ends_here","_law_label_here","_law_talk"] [v0,v1,v2,v3]=[some v0,some v1,some v2,some v3,none,none]:=rfl
theorem sc__law_parcel:qj ["_law_talks","_law_time","_law_draws","_law_ends_here","_law_label_here","_law_talk"] ["_law_talks","_law_time","_law_draws","_law_ends_here"] (qg s__law_parcel):=⟨rfl,rfl,rfl,by decide +kernel,rfl,by decide +kernel,by decide +kernel⟩
abbrev s__law_book:Stmt:=top 62
theorem st__law_book {v0 v1 v2:V}:qd1 ["_law_default","_law_rules_here","_law_way","_law_whole","_law_inner"] [v0,v1,v2]=[some v0,some v1,some v2,none,none]:=rfl
theorem sc__law_book:qj ["_law_default","_law_rules_here","_law_way","_law_whole","_law_inner"] ["_law_default","_law_rules_here","_law_way"] (qg s__law_book):=⟨rfl,rfl,rfl,by decide +kernel,rfl,by decide +kernel,by decide +kernel⟩
abbrev s_law:Stmt:=top 63
theorem st_law {v0:V}:qd1 ["_law_script","_law_ends_here","_law_first","_law_rules_here","_law_default","_law_cell","_law_top","_law_spans","_law_changes_here","_law_handed","_law_gate","_law_time","_law_talks","_law_held","_law_draws","_law_parcel_here","_law_due_here","_law_label_here"] [v0]=[some v0,none,none,none,none,none,none,none,none,none,none,none,none,none,none,none,none,none]:=rfl
theorem sc_law:qj ["_law_script","_law_ends_here","_law_first","_law_rules_here","_law_default","_law_cell","_law_top","_law_spans","_law_changes_here","_law_handed","_law_gate","_law_time","_law_talks","_law_held","_law_draws","_law_parcel_here","_law_due_here","_law_label_here"] ["_law_script"] (qg s_law):=⟨rfl,rfl,rfl,by decide +kernel,rfl,by decide +kernel,by decide +kernel⟩
theorem ok_cell (F:Fun K "_law_cell_at" "_law_cell_at" s__law_cell_at f fd)(b_len:mg "len"=none):FnOk P w K mg base CX0 1 f fd ["_law_script","_law_k"] (spCell K):=by
 refine F.ok sc__law_cell_at (fun vs H Q E h=>?_) (fun cdv A outer s H vs Q E hr h=>?_)
 ·obtain ⟨a,ns,k,rfl,_⟩:=h
  rfl
 obtain ⟨a,ns,k,rfl,hS,h0,q⟩:=h
 obtain ⟨n,rfl⟩:=Int.eq_ofNat_of_zero_le h0
 refine ⟨_,(@qb _ _ _ _ _ (@qo1 _ _ _ _ _ _ _ _ (qv op_lt (pv 1) (qh1 call_lenR rfl b_len bo_len (qa (pv 0) qd0)) (qa1 _)) (@qf _ _ _ (qq0 (qi qp (pv 0) (pv 1) (fun _ _=>rfl)))) qw) (@qf _ _ _ (qq0 qc))),?_⟩
 rw [st__law_cell_at]
 walk_at "sv"
 refine LenR.lst hS ?_
 walk_at "sv"
 rw [List.length_map]
 refine BrS.dec (fun c=>?_) (fun c=>?_)
 ·walk_at "sv"
  refine qe1 hS (v:=.int (cell ns n)) ?_ q
  have hn:n<ns.length:=by omega
  rw [List.getElem?_map,List.getElem?_eq_getElem hn]
  unfold cell
  rw [Int.toNat_natCast,List.getD_eq_getElem?_getD,List.getElem?_eq_getElem hn]
  rfl
 ·walk_at "sv"
  have hn:ns.length≤n:=by omega
  have e:cell ns n=0:=by
   unfold cell
   rw [Int.toNat_natCast,List.getD_eq_getElem?_getD,List.getElem?_eq_none hn]
   rfl
  rw [e] at q
  exact q
def spStream:Sp:=fun vs H Q _=>∃ (c:Int) (k:Nat),vs=[.int c,.int (k:Int)]∧k≤100∧∀ (l:Addr) (ds:List Int) (H':Hp),H l=none→Same H H'→H' l=some (.lst (ds.map V.int))→ds.length=k→(∀ d∈ds,0≤d∧d<4294967311)→Q (.ref l) H'
theorem ok_stream (F:Fun K "_law_stream" "_law_stream" s__law_stream f fd)(b_range:mg "range"=none):FnOk P w K mg base CX0 1 f fd ["_law_cell","_law_many"] spStream:=by
 refine F.ok sc__law_stream (fun vs H Q E h=>?_) (fun cdv A outer s H vs Q E hr h=>?_)
 ·obtain ⟨_,_,rfl,_⟩:=h
  rfl
 obtain ⟨c,k,rfl,hk,q⟩:=h
 refine ⟨_,(@qb _ _ _ _ _ (ql (i:=2) sc__law_stream.nd rfl (Or.inl rfl) (qi1 qd0)) (@qb _ _ _ _ _ (ql (i:=3) sc__law_stream.nd rfl (Or.inl rfl) (qs0 qf2 (qs0 qf1 (pv 0) qc) qc)) (@qb _ _ _ _ _ (@ps_for _ _ _ _ _ _ _ _ PassesOwn.never rfl (pi_range1 rfl b_range (qa (pv 1) qd0)) (qn0 (i:=4) sc__law_stream.nd rfl (Or.inl rfl)) (@qb _ _ _ _ _ (ql (i:=3) sc__law_stream.nd rfl (Or.inl rfl) (qs0 qf1 (qs0 qf2 (qs0 qf2 (qs0 op_mul (pv 3) (pv 3)) (qs0 op_mul qc (pv 3))) (pv 4)) qc)) (@qf _ _ _ (qw1 (pe_bm PySem.F.plainAttrs_list PySem.F.slot_list_append PySem.F.type_list_append mt_append (pv 2) (qa (pv 3) qd0))))) (by intro _; rfl)) (@qf _ _ _ (qq0 (pv 2)))))),?_⟩
 rw [st__law_stream]
 walk_at "sv"
 refine LstR.go (by simp) fun l hl=>?_
 have s0:=qh hl (.lst [])
 refine ⟨by decide,?_⟩
 have m0:=Int.emod_nonneg c (show (4294967311:Int)≠0 by decide)
 have m1:=Int.emod_lt_of_pos c (show (0:Int)<4294967311 by decide)
 generalize c % 4294967311=n0 at *
 refine RngR.go (by omega) (by omega) ?_
 rw [Int.toNat_natCast]
 refine ForR.range (fun i σ H'=>Same H H'∧∃ (ds:List Int) (n:Int) (y:Option V),H' l=some (.lst (ds.map V.int))∧ds.length=i∧(∀ d∈ds,0≤d∧d<4294967311)∧0≤n∧n<4295015582∧σ=[some (.int c),some (.int (k:Int)),some (.ref l),some (.int n),y]) ⟨s0,[],n0+48271,none,qe,rfl,(fun d hd=>by cases hd),by omega,by omega,rfl⟩ (fun i σ H1 hi pv=>?_) (fun σ H1 pv=>?_)
 ·obtain ⟨sm,ds,n,y,hl1,dl,al,n1,n2,rfl⟩:=pv
  walk_at "sv"
  refine ⟨.inl ⟨by omega,by omega⟩,.inl ⟨by decide,by decide⟩,by decide,?_⟩
  generalize n * n+69621 * n+(0+(i:Int))=z
  have z0:=Int.emod_nonneg z (show (4294967311:Int)≠0 by decide)
  have z1:=Int.emod_lt_of_pos z (show (0:Int)<4294967311 by decide)
  generalize z % 4294967311=d at *
  refine ⟨ty_lst hl1,?_⟩
  refine app_go hl1 (by rw [List.length_map]; omega) ?_
  refine ⟨sm.put hl,ds++[d],d,_,by rw [qe,List.map_append]; rfl,by rw [List.length_append,dl]; rfl,(fun x hx=>?_),z0,by omega,rfl⟩
  rcases List.mem_append.mp hx with hx | hx
  ·exact al x hx
  ·obtain rfl:=List.mem_singleton.mp hx
   exact ⟨z0,z1⟩
 ·obtain ⟨sm,ds,n,y,hl1,dl,al,n1,n2,rfl⟩:=pv
  walk_at "sv"
  exact q l ds H1 hl sm hl1 dl al
theorem at_of {α:Type}{xs:List α}{i n:Nat}(h:i<n)(e:xs.length=n):∃ x,xs[i]?=some x:=by
 subst e
 exact ⟨xs[i],List.getElem?_eq_getElem h⟩
structure Txt (K:PySem.W.Frag)(cRu cWo cBa cCa:Addr):Prop where
 pg_Rule:PySem.W.plainGet K cRu Str.empty=true
 hd_Rule:PySem.W.hasDictIn K cRu=true
 po_Rule:PySem.W.plainOver K cRu=true
 sa_Rule:PySem.W.findIn K (.ref cRu) "__setattr__"=some (some (.builtin "object.__setattr__"))
 cl_Rule:PySem.W.findIn K (.ref cRu) "__class__"=some (some (.builtin "object.__class__"))
 ob_Rule:PySem.W.mroIn K cRu (.type "object")=some true
 nb_Rule:PySem.W.findIn K (.ref cRu) "box"=some none
 mk_Rule:PySem.W.makesIn K cRu=true
 kp_Rule:PySem.W.keepIn K (.ref cRu)=true
 pg_Word:PySem.W.plainGet K cWo Str.empty=true
 hd_Word:PySem.W.hasDictIn K cWo=true
 po_Word:PySem.W.plainOver K cWo=true
 sa_Word:PySem.W.findIn K (.ref cWo) "__setattr__"=some (some (.builtin "object.__setattr__"))
 cl_Word:PySem.W.findIn K (.ref cWo) "__class__"=some (some (.builtin "object.__class__"))
 ob_Word:PySem.W.mroIn K cWo (.type "object")=some true
 nb_Word:PySem.W.findIn K (.ref cWo) "box"=some none
 mk_Word:PySem.W.makesIn K cWo=true
 kp_Word:PySem.W.keepIn K (.ref cWo)=true
 pg_Back:PySem.W.plainGet K cBa Str.empty=true
 hd_Back:PySem.W.hasDictIn K cBa=true
 po_Back:PySem.W.plainOver K cBa=true
 sa_Back:PySem.W.findIn K (.ref cBa) "__setattr__"=some (some (.builtin "object.__setattr__"))
 cl_Back:PySem.W.findIn K (.ref cBa) "__class__"=some (some (.builtin "object.__class__"))
 ob_Back:PySem.W.mroIn K cBa (.type "object")=some true
 nb_Back:PySem.W.findIn K (.ref cBa) "box"=some none
 mk_Back:PySem.W.makesIn K cBa=true
 kp_Back:PySem.W.keepIn K (.ref cBa)=true
 pg_Call:PySem.W.plainGet K cCa Str.empty=true
 hd_Call:PySem.W.hasDictIn K cCa=true
 po_Call:PySem.W.plainOver K cCa=true
 sa_Call:PySem.W.findIn K (.ref cCa) "__setattr__"=some (some (.builtin "object.__setattr__"))
 cl_Call:PySem.W.findIn K (.ref cCa) "__class__"=some (some (.builtin "object.__class__"))
 ob_Call:PySem.W.mroIn K cCa (.type "object")=some true
 nb_Call:PySem.W.findIn K (.ref cCa) "box"=some none
 mk_Call:PySem.W.makesIn K cCa=true
 kp_Call:PySem.W.keepIn K (.ref cCa)=true
 nw:PySem.W.findIn K (.ref cWo) "word"=some none
 nn:PySem.W.findIn K (.ref cCa) "name"=some none
 gs:PySem.W.specialIn K (.builtin "object.__class__") "__get__"=some (some (.builtin "getset_descriptor.__get__"))
 tk:PySem.W.takesIn K (.builtin "object.__class__")=some true
 i_Word_Rule:PySem.W.kitOne K (.ref cWo) (.ref cRu)=some true
 i_Word_Word:PySem.W.kitOne K (.ref cWo) (.ref cWo)=some true
 i_Word_Back:PySem.W.kitOne K (.ref cWo) (.ref cBa)=some false
 i_Word_Call:PySem.W.kitOne K (.ref cWo) (.ref cCa)=some false
 i_Back_Rule:PySem.W.kitOne K (.ref cBa) (.ref cRu)=some true
 i_Back_Word:PySem.W.kitOne K (.ref cBa) (.ref cWo)=some false
 i_Back_Back:PySem.W.kitOne K (.ref cBa) (.ref cBa)=some true
 i_Back_Call:PySem.W.kitOne K (.ref cBa) (.ref cCa)=some false
 i_Call_Rule:PySem.W.kitOne K (.ref cCa) (.ref cRu)=some true
 i_Call_Word:PySem.W.kitOne K (.ref cCa) (.ref cWo)=some false
 i_Call_Back:PySem.W.kitOne K (.ref cCa) (.ref cBa)=some false
 i_Call_Call:PySem.W.kitOne K (.ref cCa) (.ref cCa)=some true
def Fair (bs:List (Int×Int)):Prop:=bs.length≤8∧∀ b∈bs,b.1≤b.2∧-(2 ^ 400)<b.1∧b.2<2 ^ 400
def spHolds:Sp:=fun vs H Q _=>∃ (p:Addr) (a b n:Int),vs=[.ref p,.int n]∧H p=some (.tup [.int a,.int b])∧∀ H',Same H H'→Q (.bl (decide (a≤n) && decide (n≤b))) H'
theorem ok_holds (F:Fun K "holds" "holds" s_holds f fd):FnOk P w K mg base CX0 1 f fd ["stretch","number"] spHolds:=by
 refine F.ok sc_holds (fun vs H Q E h=>?_) (fun cdv A outer s H vs Q E hr h=>?_)
 ·obtain ⟨_,_,_,_,rfl,_⟩:=h
  rfl
 obtain ⟨p,a,b,n,rfl,hp,q⟩:=h
 refine ⟨_,(@qf _ _ _ (qq0 (pe_and (pe_cmpR op_le (qi qm (pv 0) qc (fun _ _=>rfl)) (pv 1) (qa1 _)) (pe_one (pe_cmpR op_le (pv 1) (qi qm (pv 0) qc (fun _ _=>rfl)) (qa1 _)))))),?_⟩
 rw [st_holds]
 have q1:=q H (Same.refl H)
 walk_at "ix"
 by_cases c1:a≤n
 ·rw [decide_eq_true c1,Bool.true_and] at q1
  rw [decide_eq_true c1]
  walk_at "ix"
  exact q1
 ·rw [decide_eq_false c1,Bool.false_and] at q1
  rw [decide_eq_false c1]
  walk_at "ix"
  exact q1
def spHas:Sp:=fun vs H Q _=>∃ (p r:Addr) (bs:List (Int×Int)) (ns:List Int),vs=[.ref p,.ref r]∧IsBox H p bs∧IsPt H r ns∧ns.length=bs.length∧Fair bs∧∀ H',Same H H'→Q (.bl (inBox bs ns)) H'
def inV (H:Hp):V×V→V
 | (.ref a,.int n)=>match H a with
  | some (.tup [.int lo,.int hi])=>.bl (liesIn (lo,hi) n)
  | _=>.non
 | _=>.non
theorem inV_at {H:Hp}{a:Addr}{lo hi n:Int}(h:H a=some (.tup [.int lo,.int hi])):inV H (.ref a,.int n)=.bl (liesIn (lo,hi) n):=by
 simp only [inV,h]
theorem ins_of {H:Hp}{vs:List V}{bs:List (Int×Int)}(h:Strs H vs bs):∀ ns:List Int,(vs.zip (ns.map V.int)).map (inV H)=(List.zipWith liesIn bs ns).map V.bl:=by
 induction h with
 | nil=>intro ns; rfl
 | cons h _ ih =>
  intro ns
  cases ns with
  | nil=>rfl
  | cons n ns =>
   rw [List.map_cons,List.zip_cons_cons,List.map_cons,inV_at h,ih ns]
   rfl
theorem ok_has (F:Fun K "has" "has" s_has f fd)(g_holds:Fn P w K mg base "holds" 1 ["stretch","number"] spHolds)(b_zip:mg "zip"=none)(b_all:mg "all"=none):FnOk P w K mg base CX0 2 f fd ["box","point"] spHas:=by
 refine F.ok sc_has (fun vs H Q E h=>?_) (fun cdv A outer s H vs Q E hr h=>?_)
 ·obtain ⟨_,_,_,_,rfl,_⟩:=h
  rfl
 obtain ⟨p,r,bs,ns,rfl,⟨vs,hp,hb⟩,hr1,hl,fair,q⟩:=h
 refine ⟨_,(@qf _ _ _ (qq0 (qh1 (call_all rfl) rfl b_all bo_all (qa (pe_comp (T:=["stretch","number"]) (cap:=[]) rfl (COk.of (out:=qg s_has) (N:=["box","point"]) rfl rfl (by decide +kernel)) (pi_zip rfl b_zip (qa (pv 0) (qa (pv 1) qd0))) (fun _ _ _=>(pg_tupK (K:=K) (n:=2) rfl rfl (qb1 (qn0 (i:=0) (show List.Nodup (["stretch","number"]:List Str) by decide +kernel) rfl (Or.inl rfl)) (qb1 (qn0 (i:=1) (show List.Nodup (["stretch","number"]:List Str) by decide +kernel) rfl (Or.inl rfl)) pgs_nil)))) (fun _ _ _=>pifs_nil) (fun _ _ _=>(qj1 g_holds hr (by decide) rfl (qa (pv 0) (qa (pv 1) qd0))))) qd0)))),?_⟩
 rw [st_has]
 walk_at "sv"
 refine ZipR.go (SqT.of hp) (SqT.of hr1) ?_
 have h8:=fair.1
 have hbl:=hb.len
 refine CmpR.pairs (inV H) itz (by rw [List.length_zip,List.length_map]; omega) (fun H' sm=>⟨sm.seqT (SqT.of hp),sm.seqT (SqT.of hr1)⟩) (fun x H' Q' hx sm q'=>?_) (fun D H1 hD s1 hl1=>?_)
 ·obtain ⟨x1,x2⟩:=x
  obtain ⟨m1,m2⟩:=List.of_mem_zip hx
  obtain ⟨a,lo,hi,rfl,_,ha⟩:=hb.mem m1
  obtain ⟨n,_,rfl⟩:=List.mem_map.mp m2
  rw [inV_at ha] at q'
  walk_at "sv"
  exact ⟨a,lo,hi,n,rfl,sm _ _ ha,q'⟩
 rw [ins_of hb] at hl1
 walk_at "sv"
 refine all_go (SqL.of hl1) ?_
 exact q _ s1
def IsLab (H:Hp)(p:Addr)(k s n r f:Int):Prop:=H p=some (.tup [.int k,.int s,.int n,.int r,.int f])
theorem IsLab.same {H H':Hp}{p:Addr}{k s n r f:Int}(h:IsLab H p k s n r f)(z:Same H H'):IsLab H' p k s n r f:=z _ _ h
theorem IsLab.pt {H:Hp}{p:Addr}{k s n r f:Int}(h:IsLab H p k s n r f):IsPt H p [k,s,n,r,f]:=h
def spFlip:Sp:=fun vs H Q _=>∃ (p:Addr) (k s n r f:Int),vs=[.ref p]∧IsLab H p k s n r f∧∀ q H',H q=none→Same H H'→IsLab H' q k r f s n→Q (.ref q) H'
theorem ok_flip (F:Fun K "flip" "flip" s_flip f fd):FnOk P w K mg base CX0 1 f fd ["label"] spFlip:=by
 refine F.ok sc_flip (fun vs H Q E h=>?_) (fun cdv A outer s H vs Q E hr h=>?_)
 ·obtain ⟨_,_,_,_,_,_,rfl,_⟩:=h
  rfl
 obtain ⟨p,k,sd,n,r,fr,rfl,hp,q⟩:=h
 refine ⟨_,(@qf _ _ _ (qq0 (qo (qa (qi qm (pv 0) qc (fun _ _=>rfl)) (qa (qi qm (pv 0) qc (fun _ _=>rfl)) (qa (qi qm (pv 0) qc (fun _ _=>rfl)) (qa (qi qm (pv 0) qc (fun _ _=>rfl)) (qa (qi qm (pv 0) qc (fun _ _=>rfl)) qd0)))))))),?_⟩
 rw [st_flip]
 walk_at "sv"
 refine ixT_go (i:=0) (SqT.of hp) rfl ?_
 walk_at "sv"
 refine ixT_go (i:=3) (SqT.of hp) rfl ?_
 walk_at "sv"
 refine ixT_go (i:=4) (SqT.of hp) rfl ?_
 walk_at "sv"
 refine ixT_go (i:=1) (SqT.of hp) rfl ?_
 walk_at "sv"
 refine ixT_go (i:=2) (SqT.of hp) rfl ?_
 walk_at "sv"
 refine TupR.go (by simp) fun t nt=>?_
 exact q _ _ nt (qh nt _) qe
def spChanged:Sp:=fun vs H Q _=>∃ (p:Addr) (k s n r f a d:Int) (sd:Str),vs=[.ref p,.str sd,.int a,.int d]∧IsLab H p k s n r f∧∀ q H',H q=none→Same H H'→(if sd="from" then IsLab H' q k a d r f else IsLab H' q k s n a d)→Q (.ref q) H'
theorem ok_changed (F:Fun K "changed" "changed" s_changed f fd):FnOk P w K mg base CX0 1 f fd ["label","side","address","door"] spChanged:=by
 refine F.ok sc_changed (fun vs H Q E h=>?_) (fun cdv A outer s H vs Q E hr h=>?_)
 ·obtain ⟨_,_,_,_,_,_,_,_,_,rfl,_⟩:=h
  rfl
 obtain ⟨p,k,sd,n,r,fr,ad,dr,side,rfl,hp,q⟩:=h
 refine ⟨_,(@qb _ _ _ _ _ (@qo1 _ _ _ _ _ _ _ _ (qv op_eq (pv 1) qr1 (qa1 _)) (@qf _ _ _ (qq0 (qo (qa (qi qm (pv 0) qc (fun _ _=>rfl)) (qa (pv 2) (qa (pv 3) (qa (qi qm (pv 0) qc (fun _ _=>rfl)) (qa (qi qm (pv 0) qc (fun _ _=>rfl)) qd0)))))))) qw) (@qf _ _ _ (qq0 (qo (qa (qi qm (pv 0) qc (fun _ _=>rfl)) (qa (qi qm (pv 0) qc (fun _ _=>rfl)) (qa (qi qm (pv 0) qc (fun _ _=>rfl)) (qa (pv 2) (qa (pv 3) qd0))))))))),?_⟩
 rw [st_changed]
 walk_at "sv"
 refine BrS.dec (fun c=>?_) (fun c=>?_)
 ·walk_at "sv"
  refine ixT_go (i:=0) (SqT.of hp) rfl ?_
  walk_at "sv"
  refine ixT_go (i:=3) (SqT.of hp) rfl ?_
  walk_at "sv"
  refine ixT_go (i:=4) (SqT.of hp) rfl ?_
  walk_at "sv"
  refine TupR.go (by simp) fun t nt=>?_
  exact q _ _ nt (qh nt _) (by rw [if_pos c]; exact qe)
 ·walk_at "sv"
  refine ixT_go (i:=0) (SqT.of hp) rfl ?_
  walk_at "sv"
  refine ixT_go (i:=1) (SqT.of hp) rfl ?_
  walk_at "sv"
  refine ixT_go (i:=2) (SqT.of hp) rfl ?_
  walk_at "sv"
  refine TupR.go (by simp) fun t nt=>?_
  exact q _ _ nt (qh nt _) (by rw [if_neg c]; exact qe)
def flipL:List Int→List Int
 | [k,s,n,r,f]=>[k,r,f,s,n]
 | ns=>ns
theorem five {ns:List Int}(h:ns.length=5):∃ k s n r f,ns=[k,s,n,r,f]:=by
 match ns,h with
 | [k,s,n,r,f],_=>exact ⟨k,s,n,r,f,rfl⟩
theorem spFlip.go {H:Hp}{Q:VK}{E:XK}{p:Addr}{ns:List Int}(h:IsPt H p ns)(l:ns.length=5)(q:∀ r H',H r=none→Same H H'→IsPt H' r (flipL ns)→Q (.ref r) H'):spFlip [.ref p] H Q E:=by
 obtain ⟨k,s,n,r,f,rfl⟩:=five l
 exact ⟨p,k,s,n,r,f,rfl,h,q⟩
def ky (ns:List Int):List Key:=ns.map Sum.inl
theorem ky_v (ns:List Int):(ky ns).map kV=ns.map V.int:=by
 unfold ky
 rw [List.map_map]
 rfl
theorem ky_inj {a b:List Int}(h:ky a=ky b):a=b:=(List.map_inj_right fun _ _ e=>Sum.inl.inj e).mp h
theorem pt_key {H:Hp}{p:Addr}{ns:List Int}(h:IsPt H p ns):H p=some (.tup ((ky ns).map kV)):=by
 rw [ky_v]
 exact h
section
variable {H:Hp}{Q:VK}{d p:Addr}{ns:List Int}{kvs:List (List Key×V)}{v:V}
theorem dinT_go {neg:Bool}(hd:H d=some (.dT kvs))(hp:IsPt H p ns)(q:Q (.bl (if neg then !(valV kvs (ky ns)).isSome else (valV kvs (ky ns)).isSome)) H):DInR neg (.ref d) (.ref p) H Q:=⟨d,_,rfl,DGet.t hd (pt_key hp),q⟩
theorem dgetT_go (hd:H d=some (.dT kvs))(hp:IsPt H p ns)(e:valV kvs (ky ns)=some v)(q:Q v H):DGetR (.ref d) (.ref p) H Q:=⟨d,v,rfl,e▸DGet.t hd (pt_key hp),q⟩
theorem dputT_go {R:Hp→Prop}(hd:H d=some (.dT kvs))(hp:IsPt H p ns)(l:kvs.length≤1000)(q:R (upd H d (.dT (putK kvs (ky ns) v)))):DPutR (.ref d) (.ref p) v H R:=⟨d,_,rfl,DPut.t hd (pt_key hp) (qs1 l),q⟩
end
theorem putK_new {kvs:List (List Key×V)}{k:List Key}{v:V}(h:valV kvs k=none):putK kvs k v=kvs++[(k,v)]:=by
 unfold putK
 rw [valV_any,h,Option.isSome_none,if_neg Bool.false_ne_true]
structure Tk where
 lab:List Int
 sent:List Int
 ans:Bool
 til:Int
 fw:List (List Int)
def Tk.back (x:Tk):List Int:=flipL x.sent
def fwD (ks:List (List Int)):List (List Key×V):=ks.map fun k=>(ky k,.bl true)
theorem fw_val (k:List Int):∀ ks:List (List Int),(valV (fwD ks) (ky k)).isSome=decide (k∈ks)
 | []=>rfl
 | z::ks=>by
  by_cases e:z=k
  ·subst e
   rw [show fwD (z::ks)=(ky z,.bl true)::fwD ks from rfl,valV_pos rfl,Option.isSome_some,decide_eq_true List.mem_cons_self]
  ·rw [show fwD (z::ks)=(ky z,.bl true)::fwD ks from rfl,valV_neg (fun h=>e (ky_inj h)),fw_val k ks]
   refine decide_eq_decide.mpr ⟨fun h=>List.mem_cons_of_mem _ h,fun h=>?_⟩
   rcases List.mem_cons.mp h with h | h
   ·exact absurd h.symm e
   ·exact h
def addK (ks:List (List Int))(k:List Int):List (List Int):=if k∈ks then ks else ks++[k]
theorem fw_put (ks:List (List Int))(k:List Int):putK (fwD ks) (ky k) (.bl true)=fwD (addK ks k):=by
 unfold putK addK
 rw [valV_any,fw_val]
 by_cases h:k∈ks
 ·rw [decide_eq_true h,if_pos rfl,if_pos h]
  unfold fwD
  rw [List.map_map]
  refine List.map_congr_left fun z _=>?_
  show (if ky z=ky k then (ky z,V.bl true) else (ky z,V.bl true))=_
  split <;> rfl
 ·rw [decide_eq_false h,if_neg Bool.false_ne_true,if_neg h]
  unfold fwD
  rw [List.map_append]
  rfl
structure Tb where
 short:Int
 long:Int
 most:Int
 time:Int
 ts:List Tk
def keysD:List (Addr×Addr)→List Tk→List (List Key×V)
 | ad::ads,x::xs=>(ky x.lab,.ref ad.1)::(ky x.back,.ref ad.1)::keysD ads xs
 | _,_=>[]
def keysL (ts:List Tk):List (List Int):=ts.flatMap fun x=>[x.lab,x.back]
theorem keysL_cons (x:Tk)(ts:List Tk):keysL (x::ts)=x.lab::x.back::keysL ts:=rfl
theorem keysD_keys:∀ {ads:List (Addr×Addr)} {xs:List Tk},ads.length=xs.length→(keysD ads xs).map (·.1)=(keysL xs).map ky
 | [],[],_=>rfl
 | ad::ads,x::xs,h=>by
  rw [keysL_cons]
  show ky x.lab::ky x.back::(keysD ads xs).map (·.1)=ky x.lab::ky x.back::(keysL xs).map ky
  rw [keysD_keys (Nat.succ.inj h)]
theorem keysD_len:∀ (ads:List (Addr×Addr)) (xs:List Tk),(keysD ads xs).length≤2 * xs.length
 | [],[]=>Nat.le_refl _
 | [],x::xs=>Nat.zero_le _
 | ad::ads,[]=>Nat.le_refl _
 | ad::ads,x::xs=>by
  have:=keysD_len ads xs
  show (keysD ads xs).length+1+1≤_
  rw [List.length_cons]
  omega
theorem keysD_snoc:∀ {ads:List (Addr×Addr)} {xs:List Tk} {ad:Addr×Addr} {x:Tk},ads.length=xs.length→keysD (ads++[ad]) (xs++[x])=keysD ads xs++[(ky x.lab,.ref ad.1)]++[(ky x.back,.ref ad.1)]
 | [],[],_,_,_=>rfl
 | b::ads,y::xs,ad,x,h=>by
  show _::_::keysD (ads++[ad]) (xs++[x])=_::_::_
  rw [keysD_snoc (Nat.succ.inj h)]
  rfl
theorem valV_not {kvs:List (List Key×V)}{k:List Key}(h:k∉kvs.map (·.1)):valV kvs k=none:=by
 induction kvs with
 | nil=>rfl
 | cons p r ih =>
  rw [List.map_cons] at h
  rw [valV_neg (fun e=>h (e▸List.mem_cons_self)),ih fun m=>h (List.mem_cons_of_mem _ m)]
def qz0 (k:List Int)(x:Tk):Bool:=decide (x.lab=k) || decide (x.back=k)
theorem keys_val (k:List Int):∀ {ads:List (Addr×Addr)} {xs:List Tk},ads.length=xs.length →
  (valV (keysD ads xs) (ky k)=none∧xs.find? (qz0 k)=none)∨∃ (i:Nat) (ad:Addr×Addr) (x:Tk),ads[i]?=some ad∧xs[i]?=some x∧qz0 k x=true∧valV (keysD ads xs) (ky k)=some (.ref ad.1)∧xs.find? (qz0 k)=some x
 | [],[],_=>.inl ⟨rfl,rfl⟩
 | ad::ads,x::xs,h=>by
  by_cases e:x.lab=k
  ·have hk:qz0 k x=true:=by simp [qz0,e]
   refine .inr ⟨0,ad,x,rfl,rfl,hk,?_,?_⟩
   ·exact valV_pos (p:=(ky x.lab,V.ref ad.1)) (by rw [← e])
   ·rw [List.find?_cons,hk]
  ·have n1:valV (keysD (ad::ads) (x::xs)) (ky k)=valV ((ky x.back,V.ref ad.1)::keysD ads xs) (ky k):=valV_neg (p:=(ky x.lab,V.ref ad.1)) fun z=>e (ky_inj z)
   by_cases e2:x.back=k
   ·have hk:qz0 k x=true:=by simp [qz0,e2]
    refine .inr ⟨0,ad,x,rfl,rfl,hk,?_,?_⟩
    ·rw [n1]
     exact valV_pos (p:=(ky x.back,V.ref ad.1)) (by rw [← e2])
    ·rw [List.find?_cons,hk]
   ·have hk:qz0 k x=false:=by simp [qz0,e,e2]
    have n2:valV ((ky x.back,V.ref ad.1)::keysD ads xs) (ky k)=valV (keysD ads xs) (ky k):=valV_neg (p:=(ky x.back,V.ref ad.1)) fun z=>e2 (ky_inj z)
    have f:(x::xs).find? (qz0 k)=xs.find? (qz0 k):=by rw [List.find?_cons,hk]
    rw [n1,n2,f]
    rcases keys_val k (Nat.succ.inj h) with z | ⟨i,ad',x',z⟩
    ·exact .inl z
    ·exact .inr ⟨i+1,ad',x',z⟩
def qm1 (ts:List Tk)(k:List Int):Int:=match ts.find? (qz0 k) with
 | none=>0
 | some x=>if k=x.back then 3 else if x.ans=true then 2 else 1
def isKey (ts:List Tk)(k:List Int):Bool:=(ts.find? (qz0 k)).isSome
def qt1 (ts:List Tk)(k s:List Int):Bool:=!decide (k=flipL s) && !isKey ts k && !isKey ts (flipL s)
theorem isKey_iff {ts:List Tk}{k:List Int}:isKey ts k=true↔k∈keysL ts:=by
 unfold isKey keysL
 rw [List.find?_isSome]
 constructor
 ·rintro ⟨x,hx,h⟩
  rw [List.mem_flatMap]
  refine ⟨x,hx,?_⟩
  unfold qz0 at h
  rw [Bool.or_eq_true,decide_eq_true_eq,decide_eq_true_eq] at h
  rcases h with rfl | rfl
  ·exact List.mem_cons_self
  ·exact List.mem_cons_of_mem _ List.mem_cons_self
 ·intro h
  obtain ⟨x,hx,h⟩:=List.mem_flatMap.mp h
  refine ⟨x,hx,?_⟩
  unfold qz0
  rw [Bool.or_eq_true,decide_eq_true_eq,decide_eq_true_eq]
  rcases List.mem_cons.mp h with rfl | h
  ·exact .inl rfl
  ·exact .inr (List.mem_singleton.mp h).symm
structure TsOk (ts:List Tk):Prop where
 five:∀ x∈ts,x.lab.length=5∧x.sent.length=5
 keys:(keysL ts).Nodup
 few:ts.length≤200
theorem keysL_app (xs ys:List Tk):keysL (xs++ys)=keysL xs++keysL ys:=by
 unfold keysL
 rw [List.flatMap_append]
theorem keysL_sub {p:Tk→Bool}:∀ ts:List Tk,(keysL (ts.filter p)).Sublist (keysL ts)
 | []=>.slnil
 | x::ts=>by
  rw [keysL_cons]
  by_cases h:p x=true
  ·rw [List.filter_cons_of_pos h,keysL_cons]
   exact ((keysL_sub ts).cons₂ _).cons₂ _
  ·rw [List.filter_cons_of_neg h]
   exact ((keysL_sub ts).cons _).cons _
theorem TsOk.filter {ts:List Tk}(h:TsOk ts)(p:Tk→Bool):TsOk (ts.filter p) :=
 ⟨fun x hx=>h.five x (List.mem_filter.mp hx).1,h.keys.sublist (keysL_sub ts),Nat.le_trans (List.length_filter_le _ _) h.few⟩
section
variable {C_Talk C_Table:Addr}
structure TxT (K:PySem.W.Frag)(C_Talk C_Table:Addr):Prop where
 pg_Talk:PySem.W.plainGet K C_Talk Str.empty=true
 hd_Talk:PySem.W.hasDictIn K C_Talk=true
 po_Talk:PySem.W.plainOver K C_Talk=true
 sa_Talk:PySem.W.findIn K (.ref C_Talk) "__setattr__"=some (some (.builtin "object.__setattr__"))
 mk_Talk:PySem.W.makesIn K C_Talk=true
 kp_Talk:PySem.W.keepIn K (.ref C_Talk)=true
 n_onward:PySem.W.findIn K (.ref C_Talk) "onward"=some none
 n_sent:PySem.W.findIn K (.ref C_Talk) "sent"=some none
 n_back:PySem.W.findIn K (.ref C_Talk) "back"=some none
 n_answered:PySem.W.findIn K (.ref C_Talk) "answered"=some none
 n_until:PySem.W.findIn K (.ref C_Talk) "until"=some none
 n_farewells:PySem.W.findIn K (.ref C_Talk) "farewells"=some none
 pg_Table:PySem.W.plainGet K C_Table Str.empty=true
 hd_Table:PySem.W.hasDictIn K C_Table=true
 po_Table:PySem.W.plainOver K C_Table=true
 sa_Table:PySem.W.findIn K (.ref C_Table) "__setattr__"=some (some (.builtin "object.__setattr__"))
 mk_Table:PySem.W.makesIn K C_Table=true
 kp_Table:PySem.W.keepIn K (.ref C_Table)=true
 n_short:PySem.W.findIn K (.ref C_Table) "short"=some none
 n_long:PySem.W.findIn K (.ref C_Table) "long"=some none
 n_most:PySem.W.findIn K (.ref C_Table) "most"=some none
 n_time:PySem.W.findIn K (.ref C_Table) "time"=some none
 n_talks:PySem.W.findIn K (.ref C_Table) "talks"=some none
 n_by_key:PySem.W.findIn K (.ref C_Table) "by_key"=some none
theorem TxT.talk (T:TxT K C_Talk C_Table):Cls K C_Talk:=⟨T.pg_Talk,T.hd_Talk,T.po_Talk,T.sa_Talk⟩
theorem TxT.table (T:TxT K C_Talk C_Table):Cls K C_Table:=⟨T.pg_Table,T.hd_Table,T.po_Table,T.sa_Table⟩
def talkFs (p q r d:Addr)(x:Tk):List (Str×V):=[("onward",.ref p),("sent",.ref q),("back",.ref r),("answered",.bl x.ans),("until",.int x.til),("farewells",.ref d)]
def TkAt (C_Talk:Addr)(H:Hp)(ad:Addr×Addr)(x:Tk):Prop:=∃ dx p q r,H ad.1=some (.ins C_Talk dx (talkFs p q r ad.2 x))∧IsPt H p x.lab∧IsPt H q x.sent∧IsPt H r x.back∧H ad.2=some (.dT (fwD x.fw))
def tabFs (T:Tb)(l kd:Addr):List (Str×V):=[("short",.int T.short),("long",.int T.long),("most",.int T.most),("time",.int T.time),("talks",.ref l),("by_key",.ref kd)]
structure TabAt (C_Talk C_Table:Addr)(H:Hp)(t:Addr)(T:Tb)(dx l kd:Addr)(ads:List (Addr×Addr)):Prop where
 tab:H t=some (.ins C_Table dx (tabFs T l kd))
 lst:H l=some (.lst (ads.map fun ad:Addr×Addr=>V.ref ad.1))
 tks:All2 (TkAt C_Talk H) ads T.ts
 nd1:(ads.map (·.1)).Nodup
 nd2:(ads.map (·.2)).Nodup
 dic:H kd=some (.dT (keysD ads T.ts))
 ndk:kd∉ads.map (·.2)
def But (b:Addr)(H H':Hp):Prop:=∀ a o,a≠b→H a=some o→H' a=some o
theorem Same.but {b:Addr}{H H':Hp}(h:Same H H'):But b H H':=fun a o _ e=>h a o e
theorem But.trans {b:Addr}{H H' H'':Hp}(h:But b H H')(k:But b H' H''):But b H H'':=fun a o n e=>k a o n (h a o n e)
theorem but_upd {b:Addr}{H:Hp}{o:HO}:But b H (upd H b o):=fun a o' n e=>by
 rw [qu0 n]
 exact e
theorem But.put {b c:Addr}{H H':Hp}{o:HO}(h:But b H H')(n:H c=none):But b H (upd H' c o):=fun a o' ne e=>by
 rw [qu0 (qy0 e n)]
 exact h a o' ne e
theorem But.pt {b p dx C:Addr}{H H':Hp}{ns:List Int}{fs:List (Str×V)}(h:But b H H')(hb:H b=some (.ins C dx fs))(hp:IsPt H p ns):IsPt H' p ns:=h p _ (fun e=>by
 have hp:H p=some _:=hp
 rw [e,hb] at hp
 cases hp) hp
theorem But.free {b a:Addr}{o:HO}{H H':Hp}(h:But b H H')(hb:H' b=some o)(n:H' a=none):H a=none:=by
 cases e:H a with
 | none=>rfl
 | some o' =>
  have:=h a o' (fun z=>by rw [z,hb] at n; cases n) e
  rw [n] at this
  cases this
theorem look_hit {f:Str}{v:V}{r:List (Str×V)}:((f,v)::r).lookup f=some v:=by
 rw [List.lookup_cons,beq_self_eq_true]
theorem qk {f g:Str}{v:V}{r:List (Str×V)}(h:f≠g):((g,v)::r).lookup f=r.lookup f:=by
 rw [List.lookup_cons,beq_eq_false_iff_ne.mpr h]
theorem putF_app {f:Str}{v:V}:∀ {fs:List (Str×V)},f∉fs.map (·.1)→putF f v fs=fs++[(f,v)]
 | [],_=>rfl
 | (g,x)::r,h=>by
  rw [List.map_cons] at h
  show (if g=f then (g,v)::r else (g,x)::putF f v r)=_
  rw [if_neg (fun e:g=f=>h (by rw [← e]; exact List.mem_cons_self)),putF_app fun m=>h (List.mem_cons_of_mem _ m)]
  rfl
theorem put_hit {f:Str}{v x:V}{r:List (Str×V)}:putF f v ((f,x)::r)=(f,v)::r:=if_pos rfl
theorem ql1 {f g:Str}{v x:V}{r:List (Str×V)}(h:g≠f):putF f v ((g,x)::r)=(g,x)::putF f v r:=if_neg h
theorem qc2 {f:Str}{y:V}{a C dx:Addr}{fs:List (Str×V)}{H:Hp}{R:Hp→Prop}(ks:List Str)(h:H a=some (.ins C dx fs))(c:Cls K C)(n:NoAttr K C f)(e:fs.map (·.1)=ks)(nk:f∉ks)(l:ks.length<1000)(q:∀ H',But a H H'→H' a=some (.ins C dx (fs++[(f,y)]))→R H'):SFldR K f y (.ref a) H R:=by
 subst e
 refine SFldR.go h c n (by rw [List.length_map] at l; exact l) ?_
 rw [putF_app nk]
 exact q _ but_upd qe
theorem sfld_set {f:Str}{y:V}{a C dx:Addr}{fs fs':List (Str×V)}{H:Hp}{R:Hp→Prop}(h:H a=some (.ins C dx fs))(c:Cls K C)(n:NoAttr K C f)(l:fs.length<1000)(e:putF f y fs=fs')(q:∀ H',But a H H'→H' a=some (.ins C dx fs')→R H'):SFldR K f y (.ref a) H R:=by
 refine SFldR.go h c n l ?_
 rw [e]
 exact q _ but_upd qe
section
variable {p q r d l kd:Addr}{x:Tk}{B:Tb}
theorem tk_onward:(talkFs p q r d x).lookup ("onward":Str)=some (.ref p):=look_hit
theorem tk_sent:(talkFs p q r d x).lookup ("sent":Str)=some (.ref q):=(qk (by decide)).trans look_hit
theorem tk_back:(talkFs p q r d x).lookup ("back":Str)=some (.ref r):=(qk (by decide)).trans ((qk (by decide)).trans look_hit)
theorem tk_answered:(talkFs p q r d x).lookup ("answered":Str)=some (.bl x.ans):=(qk (by decide)).trans ((qk (by decide)).trans ((qk (by decide)).trans look_hit))
theorem tk_until:(talkFs p q r d x).lookup ("until":Str)=some (.int x.til):=(qk (by decide)).trans ((qk (by decide)).trans ((qk (by decide)).trans ((qk (by decide)).trans look_hit)))
theorem tk_farewells:(talkFs p q r d x).lookup ("farewells":Str)=some (.ref d):=(qk (by decide)).trans ((qk (by decide)).trans ((qk (by decide)).trans ((qk (by decide)).trans ((qk (by decide)).trans look_hit))))
theorem tb_short:(tabFs B l kd).lookup ("short":Str)=some (.int B.short):=look_hit
theorem tb_long:(tabFs B l kd).lookup ("long":Str)=some (.int B.long):=(qk (by decide)).trans look_hit
theorem tb_most:(tabFs B l kd).lookup ("most":Str)=some (.int B.most):=(qk (by decide)).trans ((qk (by decide)).trans look_hit)
theorem tb_time:(tabFs B l kd).lookup ("time":Str)=some (.int B.time):=(qk (by decide)).trans ((qk (by decide)).trans ((qk (by decide)).trans look_hit))
theorem tb_talks:(tabFs B l kd).lookup ("talks":Str)=some (.ref l):=(qk (by decide)).trans ((qk (by decide)).trans ((qk (by decide)).trans ((qk (by decide)).trans look_hit)))
theorem tb_by_key:(tabFs B l kd).lookup ("by_key":Str)=some (.ref kd):=(qk (by decide)).trans ((qk (by decide)).trans ((qk (by decide)).trans ((qk (by decide)).trans ((qk (by decide)).trans look_hit))))
theorem tab_no {m:Str}(h:m∉(["short","long","most","time","talks","by_key"]:List Str)):(tabFs B l kd).lookup m=none:=by
 unfold tabFs
 rw [qk (fun e=>h (by rw [e]; decide)),qk (fun e=>h (by rw [e]; decide)),qk (fun e=>h (by rw [e]; decide)),qk (fun e=>h (by rw [e]; decide)),qk (fun e=>h (by rw [e]; decide)),qk (fun e=>h (by rw [e]; decide))]
 rfl
theorem talk_no {m:Str}(h:m∉(["onward","sent","back","answered","until","farewells"]:List Str)):(talkFs p q r d x).lookup m=none:=by
 unfold talkFs
 rw [qk (fun e=>h (by rw [e]; decide)),qk (fun e=>h (by rw [e]; decide)),qk (fun e=>h (by rw [e]; decide)),qk (fun e=>h (by rw [e]; decide)),qk (fun e=>h (by rw [e]; decide)),qk (fun e=>h (by rw [e]; decide))]
 rfl
end
def spTalkI (C_Talk:Addr):Sp:=fun vs H Q _=>∃ (a dx p q:Addr) (u:Int) (lab sent:List Int),vs=[.ref a,.ref p,.ref q,.int u]∧H a=some (.ins C_Talk dx [])∧IsPt H p lab∧IsPt H q sent∧sent.length=5 ∧
 ∀ d H',H d=none→But a H H'→TkAt C_Talk H' (a,d) ⟨lab,sent,false,u,[]⟩→Q .non H'
theorem ok_Talk_init (F:Fun K "__init__" "Talk.__init__" s_Talk___init__ f fd)(g_flip:Fn P w K mg base "flip" 1 ["label"] spFlip)(T:TxT K C_Talk C_Table):FnOk P w K mg base CX0 2 f fd ["self","label","sent","until"] (spTalkI C_Talk):=by
 refine F.ok sc_Talk___init__ (fun vs H Q E h=>?_) (fun cdv A outer s H vs Q E hr h=>?_)
 ·obtain ⟨_,_,_,_,_,_,_,rfl,_⟩:=h
  rfl
 obtain ⟨a,dx,p,q,u,lab,sent,rfl,ha,hp,hq,l5,k⟩:=h
 refine ⟨_,(@qb _ _ _ _ _ (qa2 (pv 0) (pv 1) rfl) (@qb _ _ _ _ _ (qa2 (pv 0) (pv 2) rfl) (@qb _ _ _ _ _ (qa2 (pv 0) (qj1 g_flip hr (by decide) rfl (qa (pv 2) qd0)) rfl) (@qb _ _ _ _ _ (qa2 (pv 0) pe_bl rfl) (@qb _ _ _ _ _ (qa2 (pv 0) (pv 3) rfl) (@qf _ _ _ (qa2 (pv 0) pe_dnewT rfl))))))),?_⟩
 rw [st_Talk___init__]
 walk_at "sv"
 refine qc2 [] ha T.talk T.n_onward rfl (by decide) (by decide) fun H1 b1 h1=>?_
 walk_at "sv"
 refine qc2 ["onward"] h1 T.talk T.n_sent rfl (by decide) (by decide) fun H2 b2 h2=>?_
 have b12:=b1.trans b2
 walk_at "sv"
 refine spFlip.go (b12.pt ha hq) l5 fun r H3 nr s3 hr3=>?_
 walk_at "sv"
 have h3:=s3 _ _ h2
 have b13:But a H H3:=b12.trans (Same.but s3)
 refine qc2 ["onward","sent"] h3 T.talk T.n_back rfl (by decide) (by decide) fun H4 b4 h4=>?_
 walk_at "sv"
 refine qc2 ["onward","sent","back"] h4 T.talk T.n_answered rfl (by decide) (by decide) fun H5 b5 h5=>?_
 walk_at "sv"
 refine qc2 ["onward","sent","back","answered"] h5 T.talk T.n_until rfl (by decide) (by decide) fun H6 b6 h6=>?_
 walk_at "sv"
 intro d nd
 have s7:=qh nd (.dT [])
 have hd7:upd H6 d (.dT []) d=some (.dT []):=qe
 have h7:=s7 _ _ h6
 have nda:d≠a:=fun e=>by
  rw [e,h6] at nd
  cases nd
 generalize upd H6 d (.dT [])=H7 at *
 walk_at "sv"
 refine qc2 ["onward","sent","back","answered","until"] h7 T.talk T.n_farewells rfl (by decide) (by decide) fun H8 b8 h8=>?_
 have b36:=(b4.trans b5).trans b6
 have b38:=(b36.trans (Same.but s7)).trans b8
 have b18:=b13.trans b38
 have nd0:H d=none:=(b13.trans b36).free h6 nd
 exact k d H8 nd0 b18 ⟨dx,p,q,r,h8,b18.pt ha hp,b18.pt ha hq,b38.pt h3 hr3,b8 _ _ nda hd7⟩
def spTabI (C_Talk C_Table:Addr):Sp:=fun vs H Q _=>∃ (t dx:Addr) (sh lo mo:Int),vs=[.ref t,.int sh,.int lo,.int mo]∧H t=some (.ins C_Table dx []) ∧
 ∀ l kd H',H l=none→H kd=none→But t H H'→TabAt C_Talk C_Table H' t ⟨sh,lo,mo,0,[]⟩ dx l kd []→Q .non H'
theorem ok_Table_init (F:Fun K "__init__" "Table.__init__" s_Table___init__ f fd)(T:TxT K C_Talk C_Table):FnOk P w K mg base CX0 1 f fd ["self","short","long","most"] (spTabI C_Talk C_Table):=by
 refine F.ok sc_Table___init__ (fun vs H Q E h=>?_) (fun cdv A outer s H vs Q E hr h=>?_)
 ·obtain ⟨_,_,_,_,_,rfl,_⟩:=h
  rfl
 obtain ⟨t,dx,sh,lo,mo,rfl,ht,k⟩:=h
 refine ⟨_,(@qb _ _ _ _ _ (qa2 (pv 0) (pv 1) rfl) (@qb _ _ _ _ _ (qa2 (pv 0) (pv 2) rfl) (@qb _ _ _ _ _ (qa2 (pv 0) (pv 3) rfl) (@qb _ _ _ _ _ (qa2 (pv 0) qc rfl) (@qb _ _ _ _ _ (qa2 (pv 0) (qi1 qd0) rfl) (@qf _ _ _ (qa2 (pv 0) pe_dnewT rfl))))))),?_⟩
 rw [st_Table___init__]
 walk_at "sv"
 refine qc2 [] ht T.table T.n_short rfl (by decide) (by decide) fun H1 b1 h1=>?_
 walk_at "sv"
 refine qc2 ["short"] h1 T.table T.n_long rfl (by decide) (by decide) fun H2 b2 h2=>?_
 walk_at "sv"
 refine qc2 ["short","long"] h2 T.table T.n_most rfl (by decide) (by decide) fun H3 b3 h3=>?_
 walk_at "sv"
 refine qc2 ["short","long","most"] h3 T.table T.n_time rfl (by decide) (by decide) fun H4 b4 h4=>?_
 have b14:=((b1.trans b2).trans b3).trans b4
 walk_at "sv"
 refine LstR.go (by simp) fun l nl=>?_
 have s5:=qh nl (.lst [])
 have hl5:upd H4 l (.lst []) l=some (.lst []):=qe
 have h5:=s5 _ _ h4
 have nlt:l≠t:=fun e=>by
  rw [e,h4] at nl
  cases nl
 generalize upd H4 l (.lst [])=H5 at *
 walk_at "sv"
 refine qc2 ["short","long","most","time"] h5 T.table T.n_talks rfl (by decide) (by decide) fun H6 b6 h6=>?_
 have b16:=(b14.trans (Same.but s5)).trans b6
 have hl6:=b6 _ _ nlt hl5
 walk_at "sv"
 intro kd nk
 have s7:=qh nk (.dT [])
 have hk7:upd H6 kd (.dT []) kd=some (.dT []):=qe
 have h7:=s7 _ _ h6
 have hl7:=s7 _ _ hl6
 have nkt:kd≠t:=fun e=>by
  rw [e,h6] at nk
  cases nk
 generalize upd H6 kd (.dT [])=H7 at *
 walk_at "sv"
 refine qc2 ["short","long","most","time","talks"] h7 T.table T.n_by_key rfl (by decide) (by decide) fun H8 b8 h8=>?_
 have b18:=(b16.trans (Same.but s7)).trans b8
 exact k l kd H8 (b14.free h4 nl) (b16.free h6 nk) b18 ⟨h8,b8 _ _ nlt hl7,.nil,.nil,.nil,b8 _ _ nkt hk7,by simp⟩
end
section
variable {C_Talk C_Table:Addr}
def spBoth2 (C_Talk:Addr):Sp:=fun vs H Q _=>∃ (ad:Addr×Addr) (x:Tk),vs=[.ref ad.1]∧TkAt C_Talk H ad x∧Q (.bl (decide (x.lab∈x.fw) && decide (x.back∈x.fw))) H
theorem ok_Talk_both (F:Fun K "has_both_farewells" "Talk.has_both_farewells" s_Talk_has_both_farewells f fd)(T:TxT K C_Talk C_Table):FnOk P w K mg base CX0 1 f fd ["self"] (spBoth2 C_Talk):=by
 refine F.ok sc_Talk_has_both_farewells (fun vs H Q E h=>?_) (fun cdv A outer s H vs Q E hr h=>?_)
 ·obtain ⟨_,_,rfl,_⟩:=h
  rfl
 obtain ⟨⟨a,d⟩,x,rfl,⟨dx,p,q,r,ha,hp,hq,hr1,hd⟩,k⟩:=h
 refine ⟨_,(@qf _ _ _ (qq0 (pe_and (pe_cmp (pc_din (hu_of hr) (qx0 (pv 0) rfl) (qx0 (pv 0) rfl))) (pe_one (pe_cmp (pc_din (hu_of hr) (qx0 (pv 0) rfl) (qx0 (pv 0) rfl))))))),?_⟩
 rw [st_Talk_has_both_farewells]
 walk_at "sv"
 refine FldR.go ha T.talk T.n_onward tk_onward ?_
 walk_at "sv"
 refine FldR.go ha T.talk T.n_farewells tk_farewells ?_
 refine dinT_go hd hp ?_
 rw [if_neg Bool.false_ne_true,fw_val]
 by_cases h1:x.lab∈x.fw
 ·rw [decide_eq_true h1] at k ⊢
  walk_at "sv"
  refine FldR.go ha T.talk T.n_back tk_back ?_
  walk_at "sv"
  refine FldR.go ha T.talk T.n_farewells tk_farewells ?_
  refine dinT_go hd hr1 ?_
  rw [if_neg Bool.false_ne_true,fw_val]
  exact k
 ·rw [decide_eq_false h1] at k ⊢
  walk_at "sv"
  exact k
def spOut (C_Talk:Addr):Sp:=fun vs H Q _=>∃ (ad:Addr×Addr) (x:Tk) (p:Addr) (ns:List Int),vs=[.ref ad.1,.ref p]∧TkAt C_Talk H ad x∧IsPt H p ns∧x.lab.length=5∧∀ r H',Same H H'→IsPt H' r (if ns=x.back then flipL x.lab else x.sent)→Q (.ref r) H'
theorem ok_Talk_out (F:Fun K "outgoing" "Talk.outgoing" s_Talk_outgoing f fd)(g_flip:Fn P w K mg base "flip" 1 ["label"] spFlip)(T:TxT K C_Talk C_Table):FnOk P w K mg base CX0 2 f fd ["self","label"] (spOut C_Talk):=by
 refine F.ok sc_Talk_outgoing (fun vs H Q E h=>?_) (fun cdv A outer s H vs Q E hr h=>?_)
 ·obtain ⟨_,_,_,_,rfl,_⟩:=h
  rfl
 obtain ⟨⟨a,d⟩,x,p',ns,rfl,⟨dx,p,q,r,ha,hp,hq,hr1,hd⟩,hp',l5,k⟩:=h
 refine ⟨_,(@qf _ _ _ (qq0 (pe_ifExp (qv (op_eqD hr.units) (pv 1) (qx0 (pv 0) rfl) (qa1 _)) (qj1 g_flip hr (by decide) rfl (qa (qx0 (pv 0) rfl) qd0)) (qx0 (pv 0) rfl)))),?_⟩
 rw [st_Talk_outgoing]
 walk_at "sv"
 refine FldR.go ha T.talk T.n_back tk_back ?_
 refine ⟨_,_,hp'.dt,hr1.dt,qr0 _,qr0 _,?_⟩
 rw [if_neg Bool.false_ne_true,qp1 (qx1 ns x.back)]
 walk_at "sv"
 refine IfR.dec (fun e=>?_) fun e=>?_
 ·walk_at "sv"
  refine FldR.go ha T.talk T.n_onward tk_onward ?_
  walk_at "sv"
  refine spFlip.go hp l5 fun r' H1 _ s1 h1=>?_
  exact k r' H1 s1 (by rw [if_pos e]; exact h1)
 ·walk_at "sv"
  refine FldR.go ha T.talk T.n_sent tk_sent ?_
  exact k q H (Same.refl _) (by rw [if_neg e]; exact hq)
end
section
variable {C_Talk C_Table:Addr}
section
variable {l l' kd kd':Addr}{B:Tb}{m:Int}
theorem set_talks:putF "talks" (.ref l') (tabFs B l kd)=tabFs B l' kd:=by
 unfold tabFs
 rw [ql1 (by decide),ql1 (by decide),ql1 (by decide),ql1 (by decide),put_hit]
theorem set_by_key:putF "by_key" (.ref kd') (tabFs B l kd)=tabFs B l kd':=by
 unfold tabFs
 rw [ql1 (by decide),ql1 (by decide),ql1 (by decide),ql1 (by decide),ql1 (by decide),put_hit]
theorem set_time:putF "time" (.int m) (tabFs B l kd)=tabFs { B with time:=m } l kd:=by
 unfold tabFs
 rw [ql1 (by decide),ql1 (by decide),ql1 (by decide),put_hit]
end
theorem tk_ne {H:Hp}{t dx l kd:Addr}{ad:Addr×Addr}{x:Tk}{B:Tb}(ht:H t=some (.ins C_Table dx (tabFs B l kd)))(h:TkAt C_Talk H ad x):ad.1≠t∧ad.2≠t:=by
 obtain ⟨dx',p,q,r,ha,_,_,_,hd⟩:=h
 refine ⟨fun e=>?_,fun e=>?_⟩
 ·rw [e,ht] at ha
  injection ha with ha
  injection ha with _ _ hf
  have h1:=congrArg (fun l:List (Str×V)=>(l.map Prod.fst).head?) hf
  have h2:some ("short":Str)=some "onward":=h1
  exact absurd h2 (by decide)
 ·rw [e,ht] at hd
  cases hd
theorem TkAt.but {H H':Hp}{t dx l kd:Addr}{ad:Addr×Addr}{x:Tk}{B:Tb}(h:TkAt C_Talk H ad x)(ht:H t=some (.ins C_Table dx (tabFs B l kd)))(b:But t H H'):TkAt C_Talk H' ad x:=by
 obtain ⟨n1,n2⟩:=tk_ne ht h
 obtain ⟨dx',p,q,r,ha,hp,hq,hr,hd⟩:=h
 exact ⟨dx',p,q,r,b _ _ n1 ha,b.pt ht hp,b.pt ht hq,b.pt ht hr,b _ _ n2 hd⟩
theorem TkAt.same {H H':Hp}{ad:Addr×Addr}{x:Tk}(h:TkAt C_Talk H ad x)(s:Same H H'):TkAt C_Talk H' ad x:=by
 obtain ⟨dx',p,q,r,ha,hp,hq,hr,hd⟩:=h
 exact ⟨dx',p,q,r,s _ _ ha,hp.same s,hq.same s,hr.same s,s _ _ hd⟩
theorem key_fresh {xs:List Tk}(nd:(keysL xs).Nodup){i:Nat}{x:Tk}(e:xs[i]?=some x):x.lab∉keysL (xs.take i)∧x.back∉keysL (xs.take i)∧x.back≠x.lab:=by
 obtain ⟨hi,rfl⟩:=List.getElem?_eq_some_iff.mp e
 have sp:xs=xs.take i++xs[i]::xs.drop (i+1):=by
  rw [List.getElem_cons_drop,List.take_append_drop]
 generalize xs[i]=x at *
 rw [sp,keysL_app,keysL_cons] at nd
 obtain ⟨_,nd2,dj⟩:=List.nodup_append.mp nd
 refine ⟨fun h=>dj _ h _ List.mem_cons_self rfl,fun h=>dj _ h _ (List.mem_cons_of_mem _ List.mem_cons_self) rfl,fun h=>?_⟩
 exact (List.nodup_cons.mp nd2).1 (h▸List.mem_cons_self)
def spKeep (C_Talk C_Table:Addr):Sp:=fun vs H Q _=>∃ (t dx l l0 k0:Addr) (B:Tb) (ads:List (Addr×Addr)) (xs:List Tk),vs=[.ref t,.ref l]∧H t=some (.ins C_Table dx (tabFs B l0 k0))∧H l=some (.lst (ads.map fun ad:Addr×Addr=>V.ref ad.1))∧All2 (TkAt C_Talk H) ads xs∧TsOk xs ∧
 ∀ kd H',H kd=none→But t H H'→H' t=some (.ins C_Table dx (tabFs B l kd))→H' kd=some (.dT (keysD ads xs))→Q .non H'
theorem ok_Table_keep (F:Fun K "keep" "Table.keep" s_Table_keep f fd)(T:TxT K C_Talk C_Table):FnOk P w K mg base CX0 1 f fd ["self","talks"] (spKeep C_Talk C_Table):=by
 refine F.ok sc_Table_keep (fun vs H Q E h=>?_) (fun cdv A outer s H vs Q E hr h=>?_)
 ·obtain ⟨_,_,_,_,_,_,_,_,rfl,_⟩:=h
  rfl
 obtain ⟨t,dx,l,l0,k0,B,ads,xs,rfl,ht,hl,al,ok,k⟩:=h
 have len:=All2.len al
 have few:=ok.few
 refine ⟨_,(@qb _ _ _ _ _ (qa2 (pv 0) (pv 1) rfl) (@qb _ _ _ _ _ (qa2 (pv 0) pe_dnewT rfl) (@qf _ _ _ (@ps_for _ _ _ _ _ _ _ _ PassesOwn.never rfl (qd2 (pv 1)) (qn0 (i:=2) sc_Table_keep.nd rfl (Or.inl rfl)) (@qb _ _ _ _ _ (ps_dput (hu_of hr) (qx0 (pv 0) rfl) (qx0 (pv 2) rfl) (pv 2) rfl) (@qf _ _ _ (ps_dput (hu_of hr) (qx0 (pv 0) rfl) (qx0 (pv 2) rfl) (pv 2) rfl))) (by intro _; rfl))))),?_⟩
 rw [st_Table_keep]
 walk_at "sv"
 refine sfld_set ht T.table T.n_talks (by show 6<1000; decide) set_talks fun H1 b1 h1=>?_
 walk_at "sv"
 intro kd nk
 have s2:=qh nk (.dT [])
 have hk2:upd H1 kd (.dT []) kd=some (.dT []):=qe
 have h2:=s2 _ _ h1
 have nkt:kd≠t:=fun e=>by
  rw [e,h1] at nk
  cases nk
 generalize upd H1 kd (.dT [])=H2 at *
 walk_at "sv"
 refine sfld_set h2 T.table T.n_by_key (by show 6<1000; decide) set_by_key fun H3 b3 h3=>?_
 have b13:=(b1.trans (Same.but s2)).trans b3
 have nk0:H kd=none:=b1.free h1 nk
 have hk3:=b3 _ _ nkt hk2
 have nlt:l≠t:=fun e=>by
  rw [e,ht] at hl
  cases hl
 walk_at "sv"
 refine IlR.go (SqL.of (b13 _ _ nlt hl)) ?_
 refine ForR.items itl (fun i σ H'=>But t H H'∧H' t=some (.ins C_Table dx (tabFs B l kd))∧H' kd=some (.dT (keysD (ads.take i) (xs.take i)))∧∃ y,σ=[some (.ref t),some (.ref l),y]) ⟨b13,h3,hk3,_,rfl⟩ (fun i σ H' pv=>SqL.of (pv.1 _ _ nlt hl)) (fun i v σ H4 hv pv=>?_) (fun σ H4 pv=>?_)
 ·obtain ⟨b4,h4,hk4,y,rfl⟩:=pv
  rw [List.getElem?_map] at hv
  obtain ⟨ad,ea,rfl⟩:=Option.map_eq_some_iff.mp hv
  obtain ⟨x,ex,tk⟩:=All2.at al ea
  have tk4:=tk.but ht b4
  obtain ⟨f1,f2,f3⟩:=key_fresh ok.keys ex
  have lt:(ads.take i).length=(xs.take i).length:=by rw [List.length_take,List.length_take,len]
  have kk:=keysD_keys lt
  have kl:=keysD_len (ads.take i) (xs.take i)
  rw [List.length_take] at kl
  obtain ⟨dx',p,q,r,ha,hp,hq,hr1,hd⟩:=id tk4
  have e1:valV (keysD (ads.take i) (xs.take i)) (ky x.lab)=none:=valV_not (by
   rw [kk]
   intro m
   obtain ⟨z,hz,e⟩:=List.mem_map.mp m
   exact f1 (ky_inj e▸hz))
  have e2:valV (keysD (ads.take i) (xs.take i)++[(ky x.lab,V.ref ad.1)]) (ky x.back)=none:=valV_not (by
   rw [List.map_append,kk]
   intro m
   rcases List.mem_append.mp m with m | m
   ·obtain ⟨z,hz,e⟩:=List.mem_map.mp m
    exact f2 (ky_inj e▸hz)
   ·exact f3 (ky_inj (List.mem_singleton.mp m)))
  walk_at "sv"
  refine FldR.go h4 T.table T.n_by_key tb_by_key ?_
  walk_at "sv"
  refine FldR.go ha T.talk T.n_onward tk_onward ?_
  refine dputT_go hk4 hp (by omega) ?_
  rw [putK_new e1]
  have b5:But t H (upd H4 kd (.dT (keysD (ads.take i) (xs.take i)++[(ky x.lab,V.ref ad.1)]))):=b4.put nk0
  have h5:upd H4 kd (.dT (keysD (ads.take i) (xs.take i)++[(ky x.lab,V.ref ad.1)])) t=some (.ins C_Table dx (tabFs B l kd)):=by
   rw [qu0 (Ne.symm nkt)]
   exact h4
  have hk5:upd H4 kd (.dT (keysD (ads.take i) (xs.take i)++[(ky x.lab,V.ref ad.1)])) kd=some (.dT (keysD (ads.take i) (xs.take i)++[(ky x.lab,V.ref ad.1)])):=qe
  generalize upd H4 kd (.dT (keysD (ads.take i) (xs.take i)++[(ky x.lab,V.ref ad.1)]))=H5 at *
  obtain ⟨dx5,p5,q5,r5,ha5,hp5,hq5,hr5,hd5⟩:=tk.but ht b5
  walk_at "sv"
  refine FldR.go h5 T.table T.n_by_key tb_by_key ?_
  walk_at "sv"
  refine FldR.go ha5 T.talk T.n_back tk_back ?_
  refine dputT_go hk5 hr5 (by rw [List.length_append,List.length_singleton]; omega) ?_
  rw [putK_new e2]
  refine ⟨b5.put nk0,by rw [qu0 (Ne.symm nkt)]; exact h5,?_,_,rfl⟩
  rw [qe,List.take_add_one,List.take_add_one,ea,ex,Option.toList_some,Option.toList_some,keysD_snoc lt]
 ·obtain ⟨b4,h4,hk4,y,rfl⟩:=pv
  rw [List.length_map,List.take_length,len,List.take_length] at hk4
  walk_at "sv"
  exact k kd H4 nk0 b4 h4 hk4
theorem all2_ix {α β:Type}{R:α→β→Prop}:∀ {xs:List α} {ys:List β},xs.length=ys.length→(∀ (i:Nat) (x:α) (y:β),xs[i]?=some x→ys[i]?=some y→R x y)→All2 R xs ys
 | [],[],_,_=>.nil
 | x::xs,y::ys,l,h=>.cons (h 0 x y rfl rfl) (all2_ix (Nat.succ.inj l) fun i a b e1 e2=>h (i+1) a b e1 e2)
theorem nodup_ix {α:Type}{xs:List α}{x:α}:∀ {i j:Nat},xs.Nodup→xs[i]?=some x→xs[j]?=some x→i=j:=by
 intro i j nd e1 e2
 obtain ⟨h1,e1⟩:=List.getElem?_eq_some_iff.mp e1
 obtain ⟨h2,e2⟩:=List.getElem?_eq_some_iff.mp e2
 exact (List.getElem_inj nd).mp (e1.trans e2.symm)
end
section
variable {C_Talk C_Table:Addr}
def spTurn (C_Talk C_Table:Addr):Sp:=fun vs H Q _=>∃ (t p dx l kd:Addr) (B:Tb) (ads:List (Addr×Addr)) (ns:List Int),vs=[.ref t,.ref p]∧TabAt C_Talk C_Table H t B dx l kd ads∧IsPt H p ns∧Q (.int (qm1 B.ts ns)) H
theorem ok_Table_turn (F:Fun K "turn" "Table.turn" s_Table_turn f fd)(T:TxT K C_Talk C_Table):FnOk P w K mg base CX0 1 f fd ["self","label"] (spTurn C_Talk C_Table):=by
 refine F.ok sc_Table_turn (fun vs H Q E h=>?_) (fun cdv A outer s H vs Q E hr h=>?_)
 ·obtain ⟨_,_,_,_,_,_,_,_,rfl,_⟩:=h
  rfl
 obtain ⟨t,p,dx,l,kd,B,ads,ns,rfl,tb,hp,k⟩:=h
 have len:=All2.len tb.tks
 refine ⟨_,(@qb _ _ _ _ _ (@qo1 _ _ _ _ _ _ _ _ (pt_cmp (pc_dnotin (hu_of hr) (pv 1) (qx0 (pv 0) rfl))) (@qf _ _ _ (qq0 qc)) qw) (@qb _ _ _ _ _ (ql (i:=2) sc_Table_turn.nd rfl (Or.inl rfl) (pe_dget (hu_of hr) (qx0 (pv 0) rfl) (pv 1) (fun _ _=>rfl))) (@qb _ _ _ _ _ (@qo1 _ _ _ _ _ _ _ _ (qv (op_eqD hr.units) (pv 1) (qx0 (pv 2) rfl) (qa1 _)) (@qf _ _ _ (qq0 qc)) qw) (@qf _ _ _ (qq0 (pe_ifExp (pt_val (qx0 (pv 2) rfl)) qc qc)))))),?_⟩
 rw [st_Table_turn]
 walk_at "sv"
 refine FldR.go tb.tab T.table T.n_by_key tb_by_key ?_
 refine dinT_go tb.dic hp ?_
 rw [if_pos rfl]
 unfold qm1 at k
 rcases keys_val ns len with ⟨e,f⟩ | ⟨i,ad,x,ea,ex,hk,e,f⟩
 ·rw [e,Option.isSome_none]
  rw [f] at k
  walk_at "sv"
  exact k
 ·rw [e,Option.isSome_some]
  rw [f] at k
  have k:Q (.int (if ns=x.back then (3:Int) else if x.ans=true then 2 else 1)) H:=k
  walk_at "sv"
  refine FldR.go tb.tab T.table T.n_by_key tb_by_key ?_
  walk_at "sv"
  refine dgetT_go tb.dic hp e ?_
  walk_at "sv"
  obtain ⟨x',ex',tk⟩:=All2.at tb.tks ea
  rw [ex] at ex'
  cases ex'
  obtain ⟨dx',p1,q1,r1,ha,hp1,hq1,hr1,hd⟩:=id tk
  refine FldR.go ha T.talk T.n_back tk_back ?_
  refine ⟨_,_,hp.dt,hr1.dt,qr0 _,qr0 _,?_⟩
  rw [if_neg Bool.false_ne_true,qp1 (qx1 ns x.back)]
  walk_at "sv"
  refine BrS.dec (fun z=>?_) fun z=>?_
  ·walk_at "sv"
   rw [if_pos z] at k
   exact k
  ·rw [if_neg z] at k
   walk_at "sv"
   refine FldR.go ha T.talk T.n_answered tk_answered ?_
   cases ea:x.ans with
   | true =>
    rw [ea] at k
    walk_at "sv"
    exact k
   | false =>
    rw [ea] at k
    walk_at "sv"
    exact k
end
section
variable {C_Talk C_Table:Addr}
def spFree (C_Talk C_Table:Addr):Sp:=fun vs H Q _=>∃ (t p q dx l kd:Addr) (B:Tb) (ads:List (Addr×Addr)) (ns ms:List Int),vs=[.ref t,.ref p,.ref q]∧TabAt C_Talk C_Table H t B dx l kd ads∧IsPt H p ns∧IsPt H q ms∧ms.length=5∧∀ H',Same H H'→Q (.bl (qt1 B.ts ns ms)) H'
theorem ok_Table_free (F:Fun K "free" "Table.free" s_Table_free f fd)(g_flip:Fn P w K mg base "flip" 1 ["label"] spFlip)(T:TxT K C_Talk C_Table):FnOk P w K mg base CX0 2 f fd ["self","label","sent"] (spFree C_Talk C_Table):=by
 refine F.ok sc_Table_free (fun vs H Q E h=>?_) (fun cdv A outer s H vs Q E hr h=>?_)
 ·obtain ⟨_,_,_,_,_,_,_,_,_,_,rfl,_⟩:=h
  rfl
 obtain ⟨t,p,q,dx,l,kd,B,ads,ns,ms,rfl,tb,hp,hq,l5,k⟩:=h
 have len:=All2.len tb.tks
 refine ⟨_,(@qb _ _ _ _ _ (ql (i:=3) sc_Table_free.nd rfl (Or.inl rfl) (qj1 g_flip hr (by decide) rfl (qa (pv 2) qd0))) (@qf _ _ _ (qq0 (pe_and (pe_cmpR (op_neD hr.units) (pv 1) (pv 3) (qa1 _)) (pe_and (pe_cmp (pc_dnotin (hu_of hr) (pv 1) (qx0 (pv 0) rfl))) (pe_one (pe_cmp (pc_dnotin (hu_of hr) (pv 3) (qx0 (pv 0) rfl))))))))),?_⟩
 rw [st_Table_free]
 walk_at "sv"
 refine spFlip.go hq l5 fun r H1 nr s1 hr1=>?_
 have k1:=k H1 s1
 unfold qt1 isKey at k1
 have dic1:=s1 _ _ tb.dic
 have tab1:=s1 _ _ tb.tab
 have vis:∀ zs:List Int,(valV (keysD ads B.ts) (ky zs)).isSome=(B.ts.find? (qz0 zs)).isSome:=fun zs=>by
  rcases keys_val zs len with ⟨e,f⟩ | ⟨i,ad,x,ea,ex,hk,e,f⟩
  ·rw [e,f]
   rfl
  ·rw [e,f]
   rfl
 walk_at "sv"
 refine ⟨_,_,(hp.same s1).dt,hr1.dt,qr0 _,qr0 _,?_⟩
 rw [if_pos rfl,qp1 (qx1 ns (flipL ms))]
 by_cases e1:ns=flipL ms
 ·rw [decide_eq_true e1] at k1 ⊢
  walk_at "sv"
  exact k1
 ·rw [decide_eq_false e1] at k1 ⊢
  walk_at "sv"
  refine FldR.go tab1 T.table T.n_by_key tb_by_key ?_
  refine dinT_go dic1 (hp.same s1) ?_
  rw [if_pos rfl,vis]
  cases e2:(B.ts.find? (qz0 ns)).isSome with
  | true =>
   rw [e2] at k1
   walk_at "sv"
   exact k1
  | false =>
   rw [e2] at k1
   walk_at "sv"
   refine FldR.go tab1 T.table T.n_by_key tb_by_key ?_
   refine dinT_go dic1 hr1 ?_
   rw [if_pos rfl,vis]
   exact k1
def spFull (C_Talk C_Table:Addr):Sp:=fun vs H Q _=>∃ (t dx l kd:Addr) (B:Tb) (ads:List (Addr×Addr)),vs=[.ref t]∧TabAt C_Talk C_Table H t B dx l kd ads∧Q (.bl (decide (B.most≤B.ts.length))) H
theorem ok_Table_full (F:Fun K "is_full" "Table.is_full" s_Table_is_full f fd)(b_len:mg "len"=none)(T:TxT K C_Talk C_Table):FnOk P w K mg base CX0 1 f fd ["self"] (spFull C_Talk C_Table):=by
 refine F.ok sc_Table_is_full (fun vs H Q E h=>?_) (fun cdv A outer s H vs Q E hr h=>?_)
 ·obtain ⟨_,_,_,_,_,_,rfl,_⟩:=h
  rfl
 obtain ⟨t,dx,l,kd,B,ads,rfl,tb,k⟩:=h
 have len:=All2.len tb.tks
 refine ⟨_,(@qf _ _ _ (qq0 (pe_cmpR op_ge (qh1 call_lenR rfl b_len bo_len (qa (qx0 (pv 0) rfl) qd0)) (qx0 (pv 0) rfl) (qa1 _)))),?_⟩
 rw [st_Table_is_full]
 walk_at "sv"
 refine FldR.go tb.tab T.table T.n_talks tb_talks ?_
 walk_at "sv"
 refine LenR.lst (SqL.of tb.lst) ?_
 rw [List.length_map,len]
 walk_at "sv"
 refine FldR.go tb.tab T.table T.n_most tb_most ?_
 walk_at "sv"
 exact k
def RwAt (H:Hp)(v:V)(x:Tk):Prop:=∃ t p q,v=.ref t∧H t=some (.tup [.ref p,.ref q,.bl x.ans,.int x.til])∧IsPt H p x.lab∧IsPt H q x.sent
def spStand (C_Talk C_Table:Addr):Sp:=fun vs H Q _=>∃ (t dx l kd:Addr) (B:Tb) (ads:List (Addr×Addr)),vs=[.ref t]∧TabAt C_Talk C_Table H t B dx l kd ads∧B.ts.length≤200∧∀ D us H',H D=none→Same H H'→H' D=some (.lst us)→All2 (RwAt H') us B.ts→Q (.ref D) H'
theorem ok_Table_stand (F:Fun K "standing" "Table.standing" s_Table_standing f fd)(T:TxT K C_Talk C_Table):FnOk P w K mg base CX0 1 f fd ["self"] (spStand C_Talk C_Table):=by
 refine F.ok sc_Table_standing (fun vs H Q E h=>?_) (fun cdv A outer s H vs Q E hr h=>?_)
 ·obtain ⟨_,_,_,_,_,_,rfl,_⟩:=h
  rfl
 obtain ⟨t,dx,l,kd,B,ads,rfl,tb,few,k⟩:=h
 have len:=All2.len tb.tks
 refine ⟨_,(@qf _ _ _ (qq0 (pe_comp (T:=["talk"]) (cap:=[]) rfl (COk.of (out:=qg s_Table_standing) (N:=["self"]) rfl rfl (by decide +kernel)) (qd2 (qx0 (pv 0) rfl)) (fun _ _ _=>(qn0 (i:=0) (show List.Nodup (["talk"]:List Str) by decide +kernel) rfl (Or.inl rfl))) (fun _ _ _=>pifs_nil) (fun _ _ _=>(qo (qa (pe_fldK (K:=K) rfl (pv 0) rfl) (qa (pe_fldK (K:=K) rfl (pv 0) rfl) (qa (pe_fldK (K:=K) rfl (pv 0) rfl) (qa (pe_fldK (K:=K) rfl (pv 0) rfl) qd0))))))))),?_⟩
 rw [st_Table_standing]
 walk_at "sv"
 refine FldR.go tb.tab T.table T.n_talks tb_talks ?_
 refine IlR.go (SqL.of tb.lst) ?_
 refine CmpR.rel (fun D H' v u=>∃ ad x t p q,v=.ref ad.1∧TkAt C_Talk H ad x∧(ad,x)∈ads.zip B.ts∧u=.ref t∧t≠D∧H' t=some (.tup [.ref p,.ref q,.bl x.ans,.int x.til])∧IsPt H p x.lab∧IsPt H q x.sent) (fun D H' H'' x v kp r=>?_) itl (by rw [List.length_map]; omega) (fun H' s=>SqL.of (s _ _ tb.lst)) (fun D v H' ys Q' hv nD s1 hD kk=>?_) fun D H' us nD s1 hD al=>?_
 ·obtain ⟨ad,x,t,p,q,e1,tk,z,e2,n,h,hp,hq⟩:=r
  exact ⟨ad,x,t,p,q,e1,tk,z,e2,n,kp _ _ n h,hp,hq⟩
 ·obtain ⟨ad,ha,rfl⟩:=List.mem_map.mp hv
  obtain ⟨i,ea⟩:=List.getElem?_of_mem ha
  obtain ⟨x,ex,tk⟩:=All2.at tb.tks ea
  obtain ⟨dx',p,q,r,ha,hp,hq,hr1,hd⟩:=id tk
  have ha':=s1 _ _ ha
  walk_at "sv"
  refine FldR.go ha' T.talk T.n_onward tk_onward ?_
  walk_at "sv"
  refine FldR.go ha' T.talk T.n_sent tk_sent ?_
  walk_at "sv"
  refine FldR.go ha' T.talk T.n_answered tk_answered ?_
  walk_at "sv"
  refine FldR.go ha' T.talk T.n_until tk_until ?_
  walk_at "sv"
  refine TupR.go (by simp) fun u nu=>?_
  refine kk _ _ (qh nu _) ⟨ad,x,u,p,q,rfl,tk,List.mem_of_getElem? (i:=i) (by rw [List.getElem?_zip_eq_some]; exact ⟨ea,ex⟩),rfl,fun e=>?_,qe,hp,hq⟩
  rw [e,hD] at nu
  cases nu
 ·refine k D us H' nD s1 hD ?_
  have ul:=All2.len al
  rw [List.length_map] at ul
  refine all2_ix (by omega) fun i u x eu ex=>?_
  obtain ⟨v,ev,ad,x',t',p',q',e1,tk,z,e2,n,h,hp,hq⟩:=All2.ix al eu
  obtain ⟨j,hj⟩:=List.getElem?_of_mem z
  obtain ⟨ej,ejx⟩:=List.getElem?_zip_eq_some.mp hj
  rw [List.getElem?_map] at ev
  obtain ⟨ad0,ea0,rfl⟩:=Option.map_eq_some_iff.mp ev
  have ij:i=j:=nodup_ix tb.nd1 (by rw [List.getElem?_map,ea0]; rfl) (by rw [List.getElem?_map,ej]; exact congrArg some (V.ref.inj e1).symm)
  subst ij
  rw [ex] at ejx
  cases ejx
  exact ⟨t',p',q',e2,h,hp.same s1,hq.same s1⟩
end
section
variable {C_Talk C_Table:Addr}
def Tk.stands (m:Int)(x:Tk):Bool:=decide (m≤x.til)
def Tb.at (B:Tb)(m:Int):Tb:={ B with time:=m,ts:=B.ts.filter (Tk.stands m) }
structure Keeps (H H':Hp):Prop where
 tup:∀ a xs,H a=some (.tup xs)→H' a=some (.tup xs)
 lst:∀ a xs,H a=some (.lst xs)→H' a=some (.lst xs)
 free:∀ a,H' a=none→H a=none
 frz:∀ a o u,H a=some (.frz o u)→H' a=some (.frz o u)
theorem Same.keeps {H H':Hp}(s:Same H H'):Keeps H H':=⟨fun a xs h=>s _ _ h,fun a xs h=>s _ _ h,fun a h=>s.free h,fun a o u h=>s _ _ h⟩
theorem Keeps.trans {H H' H'':Hp}(h:Keeps H H')(k:Keeps H' H''):Keeps H H'':=⟨fun a xs e=>k.tup a xs (h.tup a xs e),fun a xs e=>k.lst a xs (h.lst a xs e),fun a e=>h.free a (k.free a e),fun a o u e=>k.frz a o u (h.frz a o u e)⟩
theorem But.keeps {b C dx:Addr}{fs:List (Str×V)}{o:HO}{H H':Hp}(h:But b H H')(hb:H b=some (.ins C dx fs))(hb':H' b=some o):Keeps H H':=⟨fun a xs e=>h a _ (fun z=>by rw [z,hb] at e; cases e) e,fun a xs e=>h a _ (fun z=>by rw [z,hb] at e; cases e) e,fun a e=>h.free hb' e,fun a o u e=>h a _ (fun z=>by rw [z,hb] at e; cases e) e⟩
def pickA (p:Tk→Bool)(ads:List (Addr×Addr))(xs:List Tk):List (Addr×Addr):=((ads.zip xs).filter fun z=>p z.2).map (·.1)
theorem pick_all {R:Addr×Addr→Tk→Prop}{p:Tk→Bool}{ads:List (Addr×Addr)}{xs:List Tk}(h:All2 R ads xs):All2 R (pickA p ads xs) (xs.filter p):=by
 induction h with
 | nil=>exact .nil
 | @cons ad x ads xs h _ ih =>
  unfold pickA
  rw [List.zip_cons_cons,List.filter_cons,List.filter_cons]
  by_cases e:p x=true
  ·rw [if_pos e,if_pos e]
   exact .cons h ih
  ·rw [if_neg e,if_neg e]
   exact ih
theorem pick_sub {p:Tk→Bool}:∀ {ads:List (Addr×Addr)} {xs:List Tk},(pickA p ads xs).Sublist ads
 | [],_=>by
  unfold pickA
  rw [List.zip_nil_left]
  exact .slnil
 | ad::ads,[]=>by
  unfold pickA
  rw [List.zip_nil_right]
  exact List.nil_sublist _
 | ad::ads,x::xs=>by
  unfold pickA
  rw [List.zip_cons_cons,List.filter_cons]
  split
  ·exact pick_sub.cons₂ _
  ·exact pick_sub.cons _
theorem pick_filter {p:Tk→Bool}{g:V→Bool}:∀ {ads:List (Addr×Addr)} {xs:List Tk},ads.length=xs.length→(∀ ad x,(ad,x)∈ads.zip xs→g (.ref ad.1)=p x)→(ads.map fun ad:Addr×Addr=>V.ref ad.1).filter g=(pickA p ads xs).map fun ad:Addr×Addr=>V.ref ad.1
 | [],[],_,_=>rfl
 | ad::ads,x::xs,l,h=>by
  have h0:=h ad x List.mem_cons_self
  have ih:=pick_filter (Nat.succ.inj l) fun ad' x' m=>h ad' x' (List.mem_cons_of_mem _ m)
  unfold pickA at ih ⊢
  rw [List.zip_cons_cons,List.filter_cons,List.map_cons,List.filter_cons,h0,ih]
  by_cases e:p x=true
  ·rw [if_pos e,if_pos e]
   rfl
  ·rw [if_neg e,if_neg e]
def atA (p:Tk→Bool)(ads:List (Addr×Addr))(xs:List Tk)(v:V):Bool:=match v with
 | .ref a=>((ads.zip xs).find? fun z=>decide (z.1.1=a)).elim false fun z=>p z.2
 | _=>false
theorem atA_at {p:Tk→Bool}:∀ {ads:List (Addr×Addr)} {xs:List Tk} {ad:Addr×Addr} {x:Tk},(ads.map (·.1)).Nodup→(ad,x)∈ads.zip xs→atA p ads xs (.ref ad.1)=p x
 | ad'::ads,x'::xs,ad,x,nd,m=>by
  show (List.find? (fun z:(Addr×Addr)×Tk=>decide (z.1.1=ad.1)) ((ad',x')::ads.zip xs)).elim false (fun z=>p z.2)=p x
  rw [List.find?_cons]
  rw [List.map_cons,List.nodup_cons] at nd
  rcases List.mem_cons.mp (show (ad,x)∈(ad',x')::ads.zip xs from m) with e | m
  ·cases e
   rw [decide_eq_true rfl]
   rfl
  ·have ne:¬ ad'.1=ad.1:=fun e=>nd.1 (e▸List.mem_map_of_mem (List.of_mem_zip m).1)
   rw [decide_eq_false ne]
   exact atA_at nd.2 m
theorem nodup_map_sub {f:Addr×Addr→Addr}{xs ys:List (Addr×Addr)}(h:xs.Sublist ys)(nd:(ys.map f).Nodup):(xs.map f).Nodup:=nd.sublist (h.map f)
theorem kept_tab {H H':Hp}{t dx l l0 k0 kd:Addr}{B:Tb}{ads:List (Addr×Addr)}{xs:List Tk}(ht:H t=some (.ins C_Table dx (tabFs B l0 k0)))(hl:H l=some (.lst (ads.map fun ad:Addr×Addr=>V.ref ad.1)))(al:All2 (TkAt C_Talk H) ads xs)(n1:(ads.map (·.1)).Nodup)(n2:(ads.map (·.2)).Nodup)
  (nk:H kd=none) (b:But t H H') (ht':H' t=some (.ins C_Table dx (tabFs B l kd))) (hk:H' kd=some (.dT (keysD ads xs))):TabAt C_Talk C_Table H' t { B with ts:=xs } dx l kd ads:=by
 have nlt:l≠t:=fun e=>by
  rw [e,ht] at hl
  cases hl
 refine ⟨ht',b _ _ nlt hl,All2.imp al fun _ _ r=>r.but ht b,n1,n2,hk,fun m=>?_⟩
 obtain ⟨ad,ha,e⟩:=List.mem_map.mp m
 obtain ⟨i,ea⟩:=List.getElem?_of_mem ha
 obtain ⟨x,ex,dx',p,q,r,_,_,_,_,hd⟩:=All2.at al ea
 rw [e,nk] at hd
 cases hd
end
section
variable {C_Talk C_Table:Addr}
def spAt (C_Talk C_Table:Addr):Sp:=fun vs H Q _=>∃ (t dx l kd:Addr) (B:Tb) (ads:List (Addr×Addr)) (m:Int),vs=[.ref t,.int m]∧TabAt C_Talk C_Table H t B dx l kd ads∧TsOk B.ts∧B.time≤m ∧
 ∀ l' kd' ads' H',Keeps H H'→TabAt C_Talk C_Table H' t (B.at m) dx l' kd' ads'→Q .non H'
theorem ok_Table_at (F:Fun K "at" "Table.at" s_Table_at f fd)(gm_Table_keep:FnM P w K mg base C_Table "keep" 1 ["self","talks"] (spKeep C_Talk C_Table))(T:TxT K C_Talk C_Table):FnOk P w K mg base CX0 2 f fd ["self","moment"] (spAt C_Talk C_Table):=by
 refine F.ok sc_Table_at (fun vs H Q E h=>?_) (fun cdv A outer s H vs Q E hr h=>?_)
 ·obtain ⟨_,_,_,_,_,_,_,rfl,_⟩:=h
  rfl
 obtain ⟨t,dx,l,kd,B,ads,m,rfl,tb,ok,le,k⟩:=h
 have len:=All2.len tb.tks
 have few:=ok.few
 refine ⟨_,(@qb _ _ _ _ _ (@qo1 _ _ _ _ _ _ _ _ (qv op_lt (pv 1) (qx0 (pv 0) rfl) (qa1 _)) (@qf _ _ _ ps_never) qw) (@qb _ _ _ _ _ (qa2 (pv 0) (pv 1) rfl) (@qf _ _ _ (qw1 (qq1 (pv 0) hr (qa (pe_comp (T:=["talk"]) (cap:=[1]) rfl (COk.of (out:=qg s_Table_at) (N:=["self","moment"]) rfl rfl (by decide +kernel)) (qd2 (qx0 (pv 0) rfl)) (fun _ _ _=>(qn0 (i:=0) (show List.Nodup (["talk","moment"]:List Str) by decide +kernel) rfl (Or.inl rfl))) (fun _ _ _=>(pifs_one (qv op_le (pv 1) (pe_fldK (K:=K) rfl (pv 0) rfl) (qa1 _)))) (fun _ _ _=>(pv 0))) qd0)))))),?_⟩
 rw [st_Table_at]
 walk_at "sv"
 refine FldR.go tb.tab T.table T.n_time tb_time ?_
 walk_at "sv"
 refine BrS.dec (fun z=>absurd z (by omega)) fun _=>?_
 walk_at "sv"
 refine sfld_set tb.tab T.table T.n_time (by show 6<1000; decide) set_time fun H1 b1 h1=>?_
 have nlt:l≠t:=fun e=>by
  have:=tb.lst
  rw [e,tb.tab] at this
  cases this
 have l1:=b1 _ _ nlt tb.lst
 have tk1:All2 (TkAt C_Talk H1) ads B.ts:=All2.imp tb.tks fun _ _ r=>r.but tb.tab b1
 walk_at "sv"
 refine MethR.go gm_Table_keep h1 T.table (tab_no (by decide)) (by decide) ?_
 walk_at "sv"
 refine FldR.go h1 T.table T.n_talks tb_talks ?_
 refine IlR.go (SqL.of l1) ?_
 refine CmpR.filt (atA (Tk.stands m) ads B.ts) id itl (by rw [List.length_map]; omega) (fun H' s=>SqL.of (s _ _ l1)) (fun v H' Q' hv s2 kk=>?_) (fun v H' Q' hv hp s2 kk=>?_) fun D H2 nD s2 hD=>?_
 ·obtain ⟨ad,ha,rfl⟩:=List.mem_map.mp hv
  obtain ⟨i,ea⟩:=List.getElem?_of_mem ha
  obtain ⟨x,ex,tk⟩:=All2.at tk1 ea
  obtain ⟨dx',p,q,r,ha',hp,hq,hr1,hd⟩:=id tk
  rw [atA_at tb.nd1 (x:=x) (List.mem_of_getElem? (i:=i) (by rw [List.getElem?_zip_eq_some]; exact ⟨ea,ex⟩))] at kk
  walk_at "sv"
  refine FldR.go (s2 _ _ ha') T.talk T.n_until tk_until ?_
  walk_at "sv"
  exact kk H' (Same.refl _)
 ·walk_at "sv"
  exact kk H' (Same.refl _)
 ·rw [List.map_id,pick_filter len fun ad x mm=>atA_at tb.nd1 mm] at hD
  have h2:=s2 _ _ h1
  have tk2:All2 (TkAt C_Talk H2) (pickA (Tk.stands m) ads B.ts) (B.ts.filter (Tk.stands m)):=All2.imp (pick_all tk1) fun _ _ r=>r.same s2
  refine ⟨t,dx,D,l,kd,{ B with time:=m },_,_,rfl,h2,hD,tk2,ok.filter _,fun kd' H3 nk b3 h3 hk3=>?_⟩
  walk_at "sv"
  exact k D kd' _ H3 (((b1.keeps tb.tab h1).trans (Same.keeps s2)).trans (b3.keeps h2 h3)) (kept_tab h2 hD tk2 (nodup_map_sub pick_sub tb.nd1) (nodup_map_sub pick_sub tb.nd2) nk b3 h3 hk3)
end
section
variable {C_Talk C_Table:Addr}
theorem BrOV.or {b c:Bool}{u:TE}{σ:L2.St}{H:Hp}{Q:VK}(h:∀ Q':VK,Q' (.bl c) H→u σ H Q')(q:Q (.bl (b || c)) H):BrOV b u σ H Q:=by
 cases b with
 | true=>exact q
 | false=>exact h Q q
theorem BrS.join {b:Bool}{f g:L2.St→Hp→Prop}{σ:L2.St}{H:Hp}(p:Bool→Hp→Prop)(h2:b=false→p false H)(rest:∀ c H',c=b→p c H'→g σ H')(h1:b=true→(∀ H',p true H'→g σ H')→f σ H):BrS b f g σ H:=by
 cases b with
 | true=>exact h1 rfl fun H' z=>rest true H' rfl z
 | false=>exact rest false H rfl (h2 rfl)
theorem IfR.pick {b:Bool}{ta tb:TE}{σ:L2.St}{H:Hp}{Q:VK}(v:Bool→V)(h1:∀ Q':VK,Q' (v true) H→ta σ H Q')(h2:∀ Q':VK,Q' (v false) H→tb σ H Q')(q:Q (v b) H):IfR b ta tb σ H Q:=by
 cases b with
 | true=>exact h1 Q q
 | false=>exact h2 Q q
theorem ok_snoc {ts:List Tk}{x:Tk}(ok:TsOk ts)(h:ts.length<200)(l5:x.lab.length=5)(m5:x.sent.length=5)(fr:qt1 ts x.lab x.sent=true):TsOk (ts++[x]):=by
 unfold qt1 at fr
 rw [Bool.and_eq_true,Bool.and_eq_true,Bool.not_eq_true',Bool.not_eq_true',Bool.not_eq_true',decide_eq_false_iff_not] at fr
 obtain ⟨⟨f1,f2⟩,f3⟩:=fr
 have g2:x.lab∉keysL ts:=fun m=>by
  rw [isKey_iff.mpr m] at f2
  cases f2
 have g3:x.back∉keysL ts:=fun m=>by
  rw [show isKey ts (flipL x.sent)=true from isKey_iff.mpr m] at f3
  cases f3
 refine ⟨fun y hy=>?_,?_,by rw [List.length_append,List.length_singleton]; omega⟩
 ·rcases List.mem_append.mp hy with hy | hy
  ·exact ok.five y hy
  ·obtain rfl:=List.mem_singleton.mp hy
   exact ⟨l5,m5⟩
 ·rw [keysL_app,List.nodup_append]
  refine ⟨ok.keys,?_,fun a ha b hb e=>?_⟩
  ·rw [show keysL [x]=[x.lab,x.back] from rfl,List.nodup_cons]
   exact ⟨fun m=>f1 (List.mem_singleton.mp m),by simp⟩
  ·subst e
   rcases List.mem_cons.mp (show a∈[x.lab,x.back] from hb) with rfl | hb
   ·exact g2 ha
   ·obtain rfl:=List.mem_singleton.mp hb
    exact g3 ha
def Tb.begin (B:Tb)(ns ms:List Int):Tb:={ B with ts:=B.ts++[⟨ns,ms,false,B.time+B.short,[]⟩] }
def spBegin (C_Talk C_Table:Addr):Sp:=fun vs H Q _=>∃ (t p q dx l kd:Addr) (B:Tb) (ads:List (Addr×Addr)) (ns ms:List Int),vs=[.ref t,.ref p,.ref q]∧TabAt C_Talk C_Table H t B dx l kd ads∧TsOk B.ts∧B.ts.length<200∧IsPt H p ns∧IsPt H q ms∧ns.length=5∧ms.length=5∧¬ B.most≤B.ts.length∧qt1 B.ts ns ms=true ∧
 ∀ l' kd' ads' H',Keeps H H'→TabAt C_Talk C_Table H' t (B.begin ns ms) dx l' kd' ads'→Q .non H'
theorem ok_Table_begin (F:Fun K "begin" "Table.begin" s_Table_begin f fd)(gm_Table_is_full:FnM P w K mg base C_Table "is_full" 1 ["self"] (spFull C_Talk C_Table))(gm_Table_free:FnM P w K mg base C_Table "free" 2 ["self","label","sent"] (spFree C_Talk C_Table))(gm_Table_keep:FnM P w K mg base C_Table "keep" 1 ["self","talks"] (spKeep C_Talk C_Table))
  (gi_Talk:FnI P w K mg base C_Talk 2 ["self","label","sent","until"] (spTalkI C_Talk)) (m_Talk:mg "Talk"=some (.ref C_Talk)) (T:TxT K C_Talk C_Table):FnOk P w K mg base CX0 4 f fd ["self","label","sent"] (spBegin C_Talk C_Table):=by
 refine F.ok sc_Table_begin (fun vs H Q E h=>?_) (fun cdv A outer s H vs Q E hr h=>?_)
 ·obtain ⟨_,_,_,_,_,_,_,_,_,_,rfl,_⟩:=h
  rfl
 obtain ⟨t,p,q,dx,l,kd,B,ads,ns,ms,rfl,tb,ok,few,hp,hq,l5,m5,nf,fr,k⟩:=h
 have len:=All2.len tb.tks
 refine ⟨_,(@qb _ _ _ _ _ (@qo1 _ _ _ _ _ _ _ _ (pt_val (pe_methA0 (pv 0) hr)) (@qf _ _ _ ps_never) qw) (@qb _ _ _ _ _ (@qo1 _ _ _ _ _ _ _ _ (pt_not (pt_val (qq1 (pv 0) hr (qa (pv 1) (qa (pv 2) qd0))))) (@qf _ _ _ ps_never) qw) (@qf _ _ _ (qw1 (qq1 (pv 0) hr (qa (qs0 op_catQ (qx0 (pv 0) rfl) (qi1 (qa (pe_new gi_Talk hr (by decide) rfl m_Talk (qa (pv 1) (qa (pv 2) (qa (qs0 qf2 (qx0 (pv 0) rfl) (qx0 (pv 0) rfl)) qd0)))) qd0))) qd0)))))),?_⟩
 rw [st_Table_begin]
 walk_at "sv"
 refine MethR.go gm_Table_is_full tb.tab T.table (tab_no (by decide)) (by decide) ?_
 walk_at "sv"
 refine ⟨t,dx,l,kd,B,ads,rfl,tb,?_⟩
 walk_at "sv"
 refine BrS.dec (fun z=>absurd z nf) fun _=>?_
 walk_at "sv"
 refine MethR.go gm_Table_free tb.tab T.table (tab_no (by decide)) (by decide) ?_
 walk_at "sv"
 refine ⟨t,p,q,dx,l,kd,B,ads,ns,ms,rfl,tb,hp,hq,m5,fun H1 s1=>?_⟩
 rw [fr]
 walk_at "sv"
 have tab1:=s1 _ _ tb.tab
 have lst1:=s1 _ _ tb.lst
 refine MethR.go gm_Table_keep tab1 T.table (tab_no (by decide)) (by decide) ?_
 walk_at "sv"
 refine FldR.go tab1 T.table T.n_talks tb_talks ?_
 walk_at "sv"
 refine FldR.go tab1 T.table T.n_time tb_time ?_
 walk_at "sv"
 refine FldR.go tab1 T.table T.n_short tb_short ?_
 walk_at "sv"
 refine fun a dxa na ndx ne=>?_
 have s2:Same H1 (upd (upd H1 dxa (.own a)) a (.ins C_Talk dxa [])):=(qh ndx (.own a)).trans (qh (by rw [qu0 (Ne.symm ne)]; exact na) _)
 have ha2:upd (upd H1 dxa (.own a)) a (.ins C_Talk dxa []) a=some (.ins C_Talk dxa []):=qe
 generalize upd (upd H1 dxa (.own a)) a (.ins C_Talk dxa [])=H2 at *
 have s12:=s1.trans s2
 refine ⟨a,dxa,p,q,B.time+B.short,ns,ms,rfl,ha2,hp.same s12,hq.same s12,m5,fun d H3 nd b3 tk3=>⟨rfl,?_⟩⟩
 have s3:Same H1 H3:=fun x o e=>b3 x o (qy0 e na) (s2 x o e)
 refine LstR.go (by simp) fun l1 nl1=>?_
 have s4:=qh nl1 (.lst [.ref a])
 have hl1:upd H3 l1 (.lst [.ref a]) l1=some (.lst [.ref a]):=qe
 generalize upd H3 l1 (.lst [.ref a])=H4 at *
 have s34:=s3.trans s4
 refine catQ_go (SqL.of (s34 _ _ lst1)) (SqL.of hl1) (by rw [List.length_map,List.length_singleton]; omega) fun l2 nl2=>?_
 have s5:=qh nl2 (.lst ((ads.map fun ad:Addr×Addr=>V.ref ad.1)++[.ref a]))
 have hl2:upd H4 l2 (.lst ((ads.map fun ad:Addr×Addr=>V.ref ad.1)++[.ref a])) l2=some (.lst ((ads++[(a,d)]).map fun ad:Addr×Addr=>V.ref ad.1)):=by
  rw [qe,List.map_append]
  rfl
 generalize upd H4 l2 (.lst ((ads.map fun ad:Addr×Addr=>V.ref ad.1)++[.ref a]))=H5 at *
 have s35:=s34.trans s5
 have s15:=s1.trans s35
 have tab5:=s35 _ _ tab1
 have tk5:All2 (TkAt C_Talk H5) (ads++[(a,d)]) (B.ts++[⟨ns,ms,false,B.time+B.short,[]⟩]):=(All2.imp tb.tks fun _ _ r=>r.same s15).snoc (tk3.same (s4.trans s5))
 walk_at "sv"
 refine ⟨t,dx,l2,l,kd,B,_,_,rfl,tab5,hl2,tk5,ok_snoc ok few l5 m5 fr,fun kd' H6 nk b6 h6 hk6=>?_⟩
 walk_at "sv"
 have fresh:∀ ad∈ads,ad.1≠a∧ad.2≠d:=fun ad had=>by
  obtain ⟨i,ea⟩:=List.getElem?_of_mem had
  obtain ⟨x,ex,dx',p',q',r',h1,_,_,_,h2⟩:=All2.at tb.tks ea
  refine ⟨fun e=>?_,fun e=>?_⟩
  ·have:=s1 _ _ h1
   rw [e,na] at this
   cases this
  ·have:=s12 _ _ h2
   rw [e,nd] at this
   cases this
 refine k l2 kd' _ H6 ((Same.keeps s15).trans (b6.keeps tab5 h6)) (kept_tab tab5 hl2 tk5 ?_ ?_ nk b6 h6 hk6)
 ·rw [List.map_append,List.nodup_append]
  refine ⟨tb.nd1,by simp,fun u hu v hv e=>?_⟩
  obtain ⟨ad,had,rfl⟩:=List.mem_map.mp hu
  obtain rfl:=List.mem_singleton.mp hv
  exact (fresh ad had).1 e
 ·rw [List.map_append,List.nodup_append]
  refine ⟨tb.nd2,by simp,fun u hu v hv e=>?_⟩
  obtain ⟨ad,had,rfl⟩:=List.mem_map.mp hu
  obtain rfl:=List.mem_singleton.mp hv
  exact (fresh ad had).2 e
theorem TabAt.same {H H':Hp}{t dx l kd:Addr}{B:Tb}{ads:List (Addr×Addr)}(h:TabAt C_Talk C_Table H t B dx l kd ads)(s:Same H H'):TabAt C_Talk C_Table H' t B dx l kd ads :=
 ⟨s _ _ h.tab,s _ _ h.lst,All2.imp h.tks fun _ _ r=>r.same s,h.nd1,h.nd2,s _ _ h.dic,h.ndk⟩
end
section
variable {C_Talk C_Table:Addr}
section
variable {p q r d:Addr}{x:Tk}{b:Bool}{u:Int}
theorem set_answered:putF "answered" (.bl b) (talkFs p q r d x)=talkFs p q r d { x with ans:=b }:=by
 unfold talkFs
 rw [ql1 (by decide),ql1 (by decide),ql1 (by decide),put_hit]
theorem set_until:putF "until" (.int u) (talkFs p q r d x)=talkFs p q r d { x with til:=u }:=by
 unfold talkFs
 rw [ql1 (by decide),ql1 (by decide),ql1 (by decide),ql1 (by decide),put_hit]
end
def Tk.go (x:Tk)(B:Tb)(ns:List Int)(last:Bool):Tk :=
 ⟨x.lab,x.sent,x.ans || decide (ns=x.back),B.time+(if (x.ans || decide (ns=x.back))=true then B.long else B.short),if last=true then addK x.fw ns else x.fw⟩
def Tk.over (x:Tk):Bool:=decide (x.lab∈x.fw) && decide (x.back∈x.fw)
def Tk.not (x y:Tk):Bool:=!decide (y.lab=x.lab)
theorem lab_inj:∀ {ts:List Tk} {x z:Tk},(keysL ts).Nodup→z∈ts→x∈ts→z.lab=x.lab→z=x
 | y::ts,x,z,nd,hz,hx,e=>by
  rw [keysL_cons,List.nodup_cons,List.nodup_cons] at nd
  have out:∀ u∈ts,u.lab≠y.lab:=fun u hu c=>nd.1 (List.mem_cons_of_mem _ (c▸List.mem_flatMap.mpr ⟨u,hu,List.mem_cons_self⟩))
  rcases List.mem_cons.mp hz with hz' | hz'
  ·rcases List.mem_cons.mp hx with hx' | hx'
   ·exact hz'.trans hx'.symm
   ·exact absurd (e.symm.trans (congrArg Tk.lab hz')) (out x hx')
  ·rcases List.mem_cons.mp hx with hx' | hx'
   ·exact absurd (e.trans (congrArg Tk.lab hx')) (out z hz')
   ·exact lab_inj nd.2.2 hz' hx' e
theorem keys_of_pairs (ts:List Tk):keysL ts=(ts.map fun z=>(z.lab,z.sent)).flatMap fun p=>[p.1,flipL p.2]:=by
 unfold keysL
 rw [List.flatMap_map]
 rfl
def putT (ts:List Tk)(x:Tk):List Tk:=ts.map fun z=>if z.lab=x.lab then x else z
def Tb.go (B:Tb)(ns:List Int)(last:Bool)(x:Tk):Tb:={ B with ts:=if (x.go B ns last).over=true then (putT B.ts (x.go B ns last)).filter (x.go B ns last).not else putT B.ts (x.go B ns last) }
theorem putT_keys {ts:List Tk}{x y:Tk}(hx:x∈ts)(nd:(keysL ts).Nodup)(e1:y.lab=x.lab)(e2:y.sent=x.sent):(putT ts y).map (fun z=>(z.lab,z.sent))=ts.map fun z=>(z.lab,z.sent):=by
 unfold putT
 rw [List.map_map]
 refine List.map_congr_left fun z hz=>?_
 show (fun z:Tk=>(z.lab,z.sent)) (if z.lab=y.lab then y else z)=_
 by_cases e:z.lab=y.lab
 ·have:z=x:=lab_inj nd hz hx (e.trans e1)
  rw [if_pos e,this]
  show (y.lab,y.sent)=(x.lab,x.sent)
  rw [e1,e2]
 ·rw [if_neg e]
theorem putT_ok {ts:List Tk}{x y:Tk}(ok:TsOk ts)(hx:x∈ts)(e1:y.lab=x.lab)(e2:y.sent=x.sent):TsOk (putT ts y)∧keysL (putT ts y)=keysL ts:=by
 have kk:keysL (putT ts y)=keysL ts:=by rw [keys_of_pairs,keys_of_pairs,putT_keys hx ok.keys e1 e2]
 refine ⟨⟨fun z hz=>?_,by rw [kk]; exact ok.keys,by unfold putT; rw [List.length_map]; exact ok.few⟩,kk⟩
 unfold putT at hz
 obtain ⟨u,hu,rfl⟩:=List.mem_map.mp hz
 by_cases e:u.lab=y.lab
 ·rw [if_pos e,e1,e2]
  exact ok.five x hx
 ·rw [if_neg e]
  exact ok.five u hu
theorem keysD_same:∀ {ads:List (Addr×Addr)} {xs ys:List Tk},xs.map (fun z=>(z.lab,z.sent))=ys.map (fun z=>(z.lab,z.sent))→keysD ads xs=keysD ads ys
 | [],_,_,_=>by cases ‹List Tk› <;> cases ‹List Tk› <;> rfl
 | ad::ads,[],[],_=>rfl
 | ad::ads,x::xs,y::ys,h=>by
  rw [List.map_cons,List.map_cons] at h
  injection h with h1 h2
  have e1:x.lab=y.lab:=congrArg Prod.fst h1
  have e2:x.sent=y.sent:=congrArg Prod.snd h1
  show (ky x.lab,V.ref ad.1)::(ky (flipL x.sent),V.ref ad.1)::keysD ads xs=(ky y.lab,V.ref ad.1)::(ky (flipL y.sent),V.ref ad.1)::keysD ads ys
  rw [e1,e2,keysD_same h2]
 | ad::ads,[],y::ys,h=>by cases h
 | ad::ads,x::xs,[],h=>by cases h
def spGo (C_Talk C_Table:Addr):Sp:=fun vs H Q _=>∃ (t p dx l kd:Addr) (B:Tb) (ads:List (Addr×Addr)) (ns:List Int) (last:Bool) (x:Tk),vs=[.ref t,.ref p,.bl last]∧TabAt C_Talk C_Table H t B dx l kd ads∧TsOk B.ts∧IsPt H p ns∧B.ts.find? (qz0 ns)=some x∧x.fw.length≤300 ∧
 ∀ r l' kd' ads' H',(l'=l∨H l'=none)→Keeps H H'→TabAt C_Talk C_Table H' t (B.go ns last x) dx l' kd' ads'→IsPt H' r (if ns=x.back then flipL x.lab else x.sent)→Q (.ref r) H'
theorem labs_sub:∀ ts:List Tk,(ts.map (·.lab)).Sublist (keysL ts)
 | []=>.slnil
 | x::ts=>by
  rw [keysL_cons,List.map_cons]
  exact ((labs_sub ts).cons _).cons₂ _
theorem gone_tab {H H':Hp}{t dx l kd a d:Addr}{B:Tb}{ads:List (Addr×Addr)}{i:Nat}{x y:Tk}(tb:TabAt C_Talk C_Table H t B dx l kd ads)(ok:TsOk B.ts)(ea:ads[i]?=some (a,d))(ex:B.ts[i]?=some x)(e1:y.lab=x.lab)(e2:y.sent=x.sent)
  (fr:∀ b o,b≠a→b≠d→H b=some o→H' b=some o) (tk:TkAt C_Talk H' (a,d) y):TabAt C_Talk C_Table H' t { B with ts:=putT B.ts y } dx l kd ads:=by
 obtain ⟨x',ex',tk0⟩:=All2.at tb.tks ea
 rw [ex] at ex'
 cases ex'
 obtain ⟨n1,n2⟩:=tk_ne tb.tab tk0
 obtain ⟨dxa,p1,q1,r1,ha,hp1,hq1,hr1,hd⟩:=id tk0
 have ne:∀ b o,H b=some o→(∀ C dx fs,o≠.ins C dx fs)→(∀ kvs,o≠.dT kvs)→H' b=some o:=fun b o hb m1 m2=>by
  refine fr b o (fun e=>?_) (fun e=>?_) hb
  ·subst e
   rw [show H b=_ from ha] at hb
   cases hb
   exact m1 _ _ _ rfl
  ·subst e
   rw [show H b=_ from hd] at hb
   cases hb
   exact m2 _ rfl
 have mem:=List.mem_of_getElem? ex
 refine ⟨fr _ _ (Ne.symm n1) (Ne.symm n2) tb.tab,ne _ _ tb.lst (fun _ _ _ h=>by cases h) (fun _ h=>by cases h),all2_ix (by unfold putT; rw [List.length_map]; exact All2.len tb.tks) fun j adj z ej ez=>?_,tb.nd1,tb.nd2,?_,tb.ndk⟩
 ·unfold putT at ez
  rw [List.getElem?_map] at ez
  obtain ⟨u,eu,rfl⟩:=Option.map_eq_some_iff.mp ez
  by_cases e:u.lab=y.lab
  ·have ij:j=i:=nodup_ix (ok.keys.sublist (labs_sub _)) (by rw [List.getElem?_map,eu]; rfl) (by rw [List.getElem?_map,ex]; show some x.lab=some u.lab; rw [e,e1])
   subst ij
   rw [ea] at ej
   cases ej
   rw [if_pos e]
   exact tk
  ·rw [if_neg e]
   have ij:j≠i:=fun h=>by
    subst h
    rw [ex] at eu
    cases eu
    exact e e1.symm
   obtain ⟨u',eu',dxu,pu,qu,ru,hu,hpu,hqu,hru,hdu⟩:=All2.at tb.tks ej
   rw [eu] at eu'
   cases eu'
   have m1:adj.1≠a:=fun h=>ij (nodup_ix tb.nd1 (by rw [List.getElem?_map,ej]; rfl) (by rw [List.getElem?_map,ea]; exact congrArg some h.symm))
   have m2:adj.2≠d:=fun h=>ij (nodup_ix tb.nd2 (by rw [List.getElem?_map,ej]; rfl) (by rw [List.getElem?_map,ea]; exact congrArg some h.symm))
   refine ⟨dxu,pu,qu,ru,fr _ _ m1 (fun h=>?_) hu,ne _ _ hpu (fun _ _ _ h=>by cases h) (fun _ h=>by cases h),ne _ _ hqu (fun _ _ _ h=>by cases h) (fun _ h=>by cases h),ne _ _ hru (fun _ _ _ h=>by cases h) (fun _ h=>by cases h),fr _ _ (fun h=>?_) m2 hdu⟩
   ·rw [h,show H d=_ from hd] at hu
    cases hu
   ·rw [h,show H a=_ from ha] at hdu
    cases hdu
 ·rw [show keysD ads (putT B.ts y)=keysD ads B.ts from keysD_same (putT_keys mem ok.keys e1 e2)]
  refine fr _ _ (fun h=>?_) (fun h=>?_) tb.dic
  ·have:=tb.dic
   rw [h,show H a=_ from ha] at this
   cases this
  ·exact tb.ndk (h▸List.mem_map_of_mem (f:=Prod.snd) (List.mem_of_getElem? ea))
theorem ok_Table_go_on (F:Fun K "go_on" "Table.go_on" s_Table_go_on f fd)(gm_Talk_has_both_farewells:FnM P w K mg base C_Talk "has_both_farewells" 1 ["self"] (spBoth2 C_Talk))(gm_Talk_outgoing:FnM P w K mg base C_Talk "outgoing" 2 ["self","label"] (spOut C_Talk))(gm_Table_keep:FnM P w K mg base C_Table "keep" 1 ["self","talks"] (spKeep C_Talk C_Table))(T:TxT K C_Talk C_Table):FnOk P w K mg base CX0 3 f fd ["self","label","last"] (spGo C_Talk C_Table):=by
 refine F.ok sc_Table_go_on (fun vs H Q E h=>?_) (fun cdv A outer s H vs Q E hr h=>?_)
 ·obtain ⟨_,_,_,_,_,_,_,_,_,_,rfl,_⟩:=h
  rfl
 obtain ⟨t,p,dx,l,kd,B,ads,ns,last,x,rfl,tb,ok,hp,fx,fw100,k⟩:=h
 have len:=All2.len tb.tks
 rcases keys_val ns len with ⟨e,f0⟩ | ⟨i,ad,x',ea,ex,hk,e,f0⟩
 ·rw [fx] at f0
  cases f0
 rw [fx] at f0
 cases f0
 obtain ⟨x',ex',tk⟩:=All2.at tb.tks ea
 rw [ex] at ex'
 cases ex'
 obtain ⟨a,d⟩:=ad
 obtain ⟨n1,n2⟩:=tk_ne tb.tab tk
 obtain ⟨dxa,p1,q1,r1,ha,hp1,hq1,hr1,hd⟩:=id tk
 have ha:H a=some (.ins C_Talk dxa (talkFs p1 q1 r1 d x)):=ha
 have hd:H d=some (.dT (fwD x.fw)):=hd
 have mem:=List.mem_of_getElem? ex
 have l5:=(ok.five x mem).1
 have nda:d≠a:=fun h=>by
  rw [h,ha] at hd
  cases hd
 refine ⟨_,(@qb _ _ _ _ _ (@qo1 _ _ _ _ _ _ _ _ (pt_cmp (pc_dnotin (hu_of hr) (pv 1) (qx0 (pv 0) rfl))) (@qf _ _ _ ps_never) qw) (@qb _ _ _ _ _ (ql (i:=3) sc_Table_go_on.nd rfl (Or.inr rfl) (pe_dget (hu_of hr) (qx0 (pv 0) rfl) (pv 1) (fun _ _=>rfl))) (@qb _ _ _ _ _ (qa2 (pv 3) (pe_or (qx0 (pv 3) rfl) (pe_one (pe_cmpR (op_eqD hr.units) (pv 1) (qx0 (pv 3) rfl) (qa1 _)))) rfl) (@qb _ _ _ _ _ (qa2 (pv 3) (qs0 qf2 (qx0 (pv 0) rfl) (pe_ifExp (pt_val (qx0 (pv 3) rfl)) (qx0 (pv 0) rfl) (qx0 (pv 0) rfl))) rfl) (@qb _ _ _ _ _ (@qo1 _ _ _ _ _ _ _ _ (pt_val (pv 2)) (@qf _ _ _ (ps_dput (hu_of hr) (qx0 (pv 3) rfl) (pv 1) pe_bl rfl)) qw) (@qb _ _ _ _ _ (@qo1 _ _ _ _ _ _ _ _ (pt_val (pe_methA0 (pv 3) hr)) (@qf _ _ _ (qw1 (qq1 (pv 0) hr (qa (pe_comp (T:=["other"]) (cap:=[3]) rfl (COk.of (out:=qg s_Table_go_on) (N:=["self","label","last","talk"]) rfl rfl (by decide +kernel)) (qd2 (qx0 (pv 0) rfl)) (fun _ _ _=>(qn0 (i:=0) (show List.Nodup (["other","talk"]:List Str) by decide +kernel) rfl (Or.inl rfl))) (fun _ _ _=>(pifs_one (qv (op_neD hr.units) (pe_fldK (K:=K) rfl (pv 0) rfl) (pe_fldK (K:=K) rfl (pv 1) rfl) (qa1 _)))) (fun _ _ _=>(pv 0))) qd0)))) qw) (@qf _ _ _ (qq0 (qq1 (pv 3) hr (qa (pv 1) qd0)))))))))),?_⟩
 rw [st_Table_go_on]
 walk_at "sv"
 refine FldR.go tb.tab T.table T.n_by_key tb_by_key ?_
 refine dinT_go tb.dic hp ?_
 rw [if_pos rfl,e,Option.isSome_some]
 walk_at "sv"
 refine FldR.go tb.tab T.table T.n_by_key tb_by_key ?_
 walk_at "sv"
 refine dgetT_go tb.dic hp e ?_
 walk_at "sv"
 refine FldR.go ha T.talk T.n_answered tk_answered ?_
 walk_at "sv"
 refine BrOV.or (c:=decide (ns=x.back)) (fun Q' q'=>?_) ?_
 ·walk_at "sv"
  refine FldR.go ha T.talk T.n_back tk_back ?_
  refine ⟨_,_,hp.dt,hr1.dt,qr0 _,qr0 _,?_⟩
  rw [if_neg Bool.false_ne_true,qp1 (qx1 ns x.back)]
  exact q'
 walk_at "sv"
 refine sfld_set ha T.talk T.n_answered (by show 6<1000; decide) set_answered fun H1 b1 h1=>?_
 have tab1:=b1 _ _ (Ne.symm n1) tb.tab
 walk_at "sv"
 refine FldR.go tab1 T.table T.n_time tb_time ?_
 walk_at "sv"
 refine FldR.go h1 T.talk T.n_answered tk_answered ?_
 walk_at "sv"
 refine IfR.pick (fun b=>.int (if b=true then B.long else B.short)) (fun Q' q'=>?_) (fun Q' q'=>?_) ?_
 ·walk_at "sv"
  exact FldR.go tab1 T.table T.n_long tb_long q'
 ·walk_at "sv"
  exact FldR.go tab1 T.table T.n_short tb_short q'
 walk_at "sv"
 refine sfld_set h1 T.talk T.n_until (by show 6<1000; decide) set_until fun H2 b2 h2=>?_
 have b12:=b1.trans b2
 have hd2:=b12 _ _ nda hd
 have hp2:=b12.pt ha hp
 walk_at "sv"
 have fr2:∀ b o,b≠a→b≠d→H b=some o→H2 b=some o:=fun b o m1 _ hb=>b12 b o m1 hb
 refine BrS.join (fun c H3=>H3 a=some (.ins C_Talk dxa (talkFs p1 q1 r1 d (x.go B ns c)))∧H3 d=some (.dT (fwD (x.go B ns c).fw))∧∀ b o,b≠a→b≠d→H b=some o→H3 b=some o) (fun _=>⟨h2,hd2,fr2⟩) (fun c H3 ec facts=>?_) fun el rest=>?_
 rotate_left
 ·walk_at "sv"
  refine FldR.go h2 T.talk T.n_farewells tk_farewells ?_
  walk_at "sv"
  refine dputT_go hd2 hp2 (by unfold fwD; rw [List.length_map]; omega) ?_
  rw [fw_put]
  refine rest _ ⟨by rw [qu0 (Ne.symm nda)]; exact h2,qe,fun b o m1 m2 hb=>?_⟩
  rw [qu0 m2]
  exact fr2 b o m1 m2 hb
 obtain ⟨h3,hd3,fr3⟩:=facts
 have hl:(x.go B ns c).lab=x.lab:=rfl
 have hs:(x.go B ns c).sent=x.sent:=rfl
 have hb:(x.go B ns c).back=x.back:=rfl
 unfold Tb.go at k
 rw [← ec,← hb,← hl,← hs] at k
 generalize x.go B ns c=y at *
 have pts:∀ b zs,H b=some (.tup zs)→H3 b=some (.tup zs):=fun b zs hz=>fr3 b _ (fun h=>by rw [h,ha] at hz; cases hz) (fun h=>by rw [h,hd] at hz; cases hz) hz
 have lsts:∀ b zs,H b=some (.lst zs)→H3 b=some (.lst zs):=fun b zs hz=>fr3 b _ (fun h=>by rw [h,ha] at hz; cases hz) (fun h=>by rw [h,hd] at hz; cases hz) hz
 have free3:∀ b,H3 b=none→H b=none:=fun b n=>by
  cases eb:H b with
  | none=>rfl
  | some o =>
   by_cases m1:b=a
   ·rw [m1,h3] at n
    cases n
   ·by_cases m2:b=d
    ·rw [m2,hd3] at n
     cases n
    ·rw [fr3 b o m1 m2 eb] at n
     cases n
 have kp3:Keeps H H3:=⟨pts,lsts,free3,fun b o u hz=>fr3 b _ (fun h=>by rw [h,ha] at hz; cases hz) (fun h=>by rw [h,hd] at hz; cases hz) hz⟩
 have tk3:TkAt C_Talk H3 (a,d) y:=⟨dxa,p1,q1,r1,h3,by rw [hl]; exact pts _ _ hp1,by rw [hs]; exact pts _ _ hq1,by rw [hb]; exact pts _ _ hr1,hd3⟩
 have tb3:=gone_tab tb ok ea ex hl hs fr3 tk3
 have ok3:=(putT_ok ok mem hl hs).1
 have hp3:IsPt H3 p ns:=pts _ _ hp
 have yl5:y.lab.length=5:=by rw [hl]; exact l5
 walk_at "sv"
 refine MethR.go gm_Talk_has_both_farewells h3 T.talk (talk_no (by decide)) (by decide) ?_
 walk_at "sv"
 refine ⟨(a,d),y,rfl,tk3,?_⟩
 walk_at "sv"
 change BrS y.over _ _ _ _
 cases ov:y.over with
 | false =>
  rw [ov,if_neg Bool.false_ne_true] at k
  walk_at "sv"
  refine MethR.go gm_Talk_outgoing h3 T.talk (talk_no (by decide)) (by decide) ?_
  walk_at "sv"
  refine ⟨(a,d),y,p,ns,rfl,tk3,hp3,yl5,fun r H4 s4 hr4=>?_⟩
  exact k r l kd ads H4 (.inl rfl) (kp3.trans (Same.keeps s4)) (tb3.same s4) hr4
 | true =>
  rw [ov,if_pos rfl] at k
  walk_at "sv"
  refine MethR.go gm_Table_keep tb3.tab T.table (tab_no (by decide)) (by decide) ?_
  walk_at "sv"
  refine FldR.go tb3.tab T.table T.n_talks tb_talks ?_
  have len3:=All2.len tb3.tks
  have few3:=ok3.few
  have lst3:=tb3.lst
  have nd3:=tb3.nd1
  have few3:(putT B.ts y).length≤200:=few3
  have len3:ads.length=(putT B.ts y).length:=len3
  refine IlR.go (SqL.of lst3) ?_
  refine CmpR.filt (atA y.not ads (putT B.ts y)) id itl (by rw [List.length_map]; omega) (fun H' s=>SqL.of (s _ _ lst3)) (fun v H' Q' hv s4 kk=>?_) (fun v H' Q' hv hp' s4 kk=>?_) fun D H4 nD s4 hD=>?_
  ·obtain ⟨ad',ha',rfl⟩:=List.mem_map.mp hv
   obtain ⟨j,ej⟩:=List.getElem?_of_mem ha'
   obtain ⟨z,ez,tkz⟩:=All2.at tb3.tks ej
   obtain ⟨dxz,pz,qz,rz,hz,hpz,hqz,hrz,hdz⟩:=id tkz
   rw [atA_at nd3 (x:=z) (List.mem_of_getElem? (i:=j) (by rw [List.getElem?_zip_eq_some]; exact ⟨ej,ez⟩))] at kk
   obtain ⟨dxy,py,qy,ry,hy,hpy,hqy,hry,hdy⟩:=id tk3
   walk_at "sv"
   refine FldR.go (s4 _ _ hz) T.talk T.n_onward tk_onward ?_
   walk_at "sv"
   refine FldR.go (s4 _ _ hy) T.talk T.n_onward tk_onward ?_
   refine ⟨_,_,(hpz.same s4).dt,(hpy.same s4).dt,qr0 _,qr0 _,?_⟩
   rw [if_pos rfl,qp1 (qx1 z.lab y.lab)]
   walk_at "sv"
   exact kk H' (Same.refl _)
  ·walk_at "sv"
   exact kk H' (Same.refl _)
  ·rw [List.map_id,pick_filter len3 fun ad x mm=>atA_at nd3 mm] at hD
   have tab4:=s4 _ _ tb3.tab
   have tk4:All2 (TkAt C_Talk H4) (pickA y.not ads (putT B.ts y)) ((putT B.ts y).filter y.not):=All2.imp (pick_all tb3.tks) fun _ _ r=>r.same s4
   refine ⟨t,dx,D,l,kd,{ B with ts:=putT B.ts y },_,_,rfl,tab4,hD,tk4,ok3.filter _,fun kd' H5 nk b5 h5 hk5=>?_⟩
   have tb5:=kept_tab tab4 hD tk4 (nodup_map_sub pick_sub tb3.nd1) (nodup_map_sub pick_sub tb3.nd2) nk b5 h5 hk5
   have tk5:=(tk3.same s4).but tab4 b5
   have kp5:=(kp3.trans (Same.keeps s4)).trans (b5.keeps tab4 h5)
   walk_at "sv"
   obtain ⟨dx5,p5,q5,r5,ha5,_⟩:=id tk5
   refine MethR.go gm_Talk_outgoing ha5 T.talk (talk_no (by decide)) (by decide) ?_
   walk_at "sv"
   refine ⟨(a,d),y,p,ns,rfl,tk5,kp5.tup _ _ hp,yl5,fun r H6 s6 hr6=>?_⟩
   exact k r D kd' _ H6 (.inr (free3 _ nD)) (kp5.trans (Same.keeps s6)) (tb5.same s6) hr6
end
--CUT--
structure Chg where
 side:Str
 bs:List (Int×Int)
 ad:Int
 lo:Int
 hi:Int
def chgL (side:Str)(ns:List Int)(a d:Int):List Int:=match ns with
 | [k,s,n,r,f]=>if side="from" then [k,a,d,r,f] else [k,s,n,a,d]
 | ns=>ns
theorem chg_len {side:Str}{ns:List Int}{a d:Int}(h:ns.length=5):(chgL side ns a d).length=5:=by
 obtain ⟨k,s,n,r,f,rfl⟩:=five h
 show (if side="from" then [k,a,d,r,f] else [k,s,n,a,d]).length=5
 by_cases c:side="from"
 ·rw [if_pos c]
  rfl
 ·rw [if_neg c]
  rfl
def ChgAt (H:Hp)(v:V)(c:Chg):Prop:=∃ t p d,v=.ref t∧H t=some (.tup [.str c.side,.ref p,.int c.ad,.ref d])∧IsBox H p c.bs∧c.bs.length=5∧Fair c.bs∧H d=some (.tup [.int c.lo,.int c.hi])∧0≤c.lo∧c.lo≤c.hi∧c.hi<65536
theorem ChgAt.same {H H':Hp}{v:V}{c:Chg}(h:ChgAt H v c)(s:Same H H'):ChgAt H' v c:=by
 obtain ⟨t,p,d,e,h1,h2,h3,h4,h5,h6⟩:=h
 exact ⟨t,p,d,e,s _ _ h1,h2.same s,h3,h4,s _ _ h5,h6⟩
def LabV (H:Hp)(v:V):Option (List Int)→Prop
 | none=>v=.non
 | some ms=>∃ q,v=.ref q∧IsPt H q ms
theorem spChanged.go {H:Hp}{Q:VK}{E:XK}{p:Addr}{ns:List Int}{a d:Int}{sd:Str}(h:IsPt H p ns)(l:ns.length=5)(q:∀ r H',H r=none→Same H H'→IsPt H' r (chgL sd ns a d)→Q (.ref r) H'):spChanged [.ref p,.str sd,.int a,.int d] H Q E:=by
 obtain ⟨k,s,n,r,f,rfl⟩:=five l
 refine ⟨p,k,s,n,r,f,a,d,sd,rfl,h,fun r' H' nr s' hr=>q r' H' nr s' ?_⟩
 unfold chgL
 show IsPt H' r' (if sd="from" then _ else _)
 split
 ·rename_i e
  rw [if_pos e] at hr
  exact hr
 ·rename_i e
  rw [if_neg e] at hr
  exact hr
section
variable {C_Talk C_Table:Addr}
def spFon (C_Talk C_Table:Addr):Sp:=fun vs H Q _=>∃ (t p q dx l kd:Addr) (B:Tb) (ads:List (Addr×Addr)) (ns ms:List Int),vs=[.ref p,.ref q,.ref t]∧TabAt C_Talk C_Table H t B dx l kd ads∧IsPt H p ns∧IsPt H q ms∧ms.length=5∧∀ H',Same H H'→Q (if qt1 B.ts ns ms=true then .ref q else .non) H'
theorem ok_fon (F:Fun K "free_or_none" "free_or_none" s_free_or_none f fd)(gm_Table_free:FnM P w K mg base C_Table "free" 2 ["self","label","sent"] (spFree C_Talk C_Table))(T:TxT K C_Talk C_Table):FnOk P w K mg base CX0 3 f fd ["label","sent","table"] (spFon C_Talk C_Table):=by
 refine F.ok sc_free_or_none (fun vs H Q E h=>?_) (fun cdv A outer s H vs Q E hr h=>?_)
 ·obtain ⟨_,_,_,_,_,_,_,_,_,_,rfl,_⟩:=h
  rfl
 obtain ⟨t,p,q,dx,l,kd,B,ads,ns,ms,rfl,tb,hp,hq,m5,k⟩:=h
 refine ⟨_,(@qf _ _ _ (qq0 (pe_ifExp (pt_val (qq1 (pv 2) hr (qa (pv 0) (qa (pv 1) qd0)))) (pv 1) pe_non))),?_⟩
 rw [st_free_or_none]
 walk_at "sv"
 refine MethR.go gm_Table_free tb.tab T.table (tab_no (by decide)) (by decide) ?_
 walk_at "sv"
 refine ⟨t,p,q,dx,l,kd,B,ads,ns,ms,rfl,tb,hp,hq,m5,fun H' s'=>?_⟩
 have k1:=k H' s'
 walk_at "sv"
 cases e:qt1 B.ts ns ms with
 | true =>
  rw [e,if_pos rfl] at k1
  walk_at "sv"
  exact k1
 | false =>
  rw [e,if_neg (by decide)] at k1
  walk_at "sv"
  exact k1
def choiceBy (ts:List Tk)(ns:List Int)(c:Chg):Option (List Int):=((List.range (c.hi+1 - c.lo).toNat).map fun (i:Nat)=>chgL c.side ns c.ad (c.lo+(i:Int))).find? (qt1 ts ns)
def choiceOf (ts:List Tk)(ns:List Int)(cs:List Chg):Option (List Int):=if qm1 ts ns≠0 then none else match cs.find? (fun c=>inBox c.bs ns) with
 | some c=>choiceBy ts ns c
 | none=>if qt1 ts ns ns=true then some ns else none
theorem by_none {ts:List Tk}{ns:List Int}{c:Chg}(no:∀ j,j<(c.hi+1 - c.lo).toNat→qt1 ts ns (chgL c.side ns c.ad (c.lo+(j:Int)))=false):choiceBy ts ns c=none:=by
 unfold choiceBy
 rw [List.find?_eq_none]
 intro x hx
 obtain ⟨j,hj,rfl⟩:=List.mem_map.mp hx
 rw [no j (List.mem_range.mp hj)]
 decide
theorem by_some {ts:List Tk}{ns:List Int}{c:Chg}{i:Nat}(hi:i<(c.hi+1 - c.lo).toNat)(no:∀ j,j<i→qt1 ts ns (chgL c.side ns c.ad (c.lo+(j:Int)))=false)(e:qt1 ts ns (chgL c.side ns c.ad (c.lo+(i:Int)))=true):choiceBy ts ns c=some (chgL c.side ns c.ad (c.lo+(i:Int))):=by
 unfold choiceBy
 generalize (c.hi+1 - c.lo).toNat=n at hi
 rw [show n=i+((n - i - 1)+1) by omega,List.range_add,List.map_append,List.find?_append,List.find?_eq_none.mpr (fun x hx=>by
  obtain ⟨j,hj,rfl⟩:=List.mem_map.mp hx
  rw [no j (List.mem_range.mp hj)]
  decide),List.range_succ_eq_map]
 show Option.or none (List.find? _ (_::_))=_
 rw [List.find?_cons]
 show Option.or none (match qt1 ts ns (chgL c.side ns c.ad (c.lo+(((i+0:Nat)):Int))) with | true=>_ | false=>_)=_
 rw [Nat.add_zero,e]
 rfl
def spBy (C_Talk C_Table:Addr):Sp:=fun vs H Q _=>∃ (t p dx l kd:Addr) (v:V) (c:Chg) (B:Tb) (ads:List (Addr×Addr)) (ns:List Int),vs=[v,.ref p,.ref t]∧ChgAt H v c∧TabAt C_Talk C_Table H t B dx l kd ads∧IsPt H p ns∧ns.length=5∧∀ u H',Same H H'→LabV H' u (choiceBy B.ts ns c)→Q u H'
theorem ok_by (F:Fun K "choice_by" "choice_by" s_choice_by f fd)(g_changed:Fn P w K mg base "changed" 1 ["label","side","address","door"] spChanged)(g_free_or_none:Fn P w K mg base "free_or_none" 3 ["label","sent","table"] (spFon C_Talk C_Table))(b_range:mg "range"=none):FnOk P w K mg base CX0 4 f fd ["change","label","table"] (spBy C_Talk C_Table):=by
 refine F.ok sc_choice_by (fun vs H Q E h=>?_) (fun cdv A outer s H vs Q E hr h=>?_)
 ·obtain ⟨_,_,_,_,_,_,_,_,_,_,rfl,_⟩:=h
  rfl
 obtain ⟨t,p,dx,l,kd,v,c,B,ads,ns,rfl,hc,tb,hp,n5,k⟩:=h
 obtain ⟨tc,pb,d,rfl,htc,hb,b5,fb,hd,lo0,lohi,hi1⟩:=id hc
 refine ⟨_,(@qb _ _ _ _ _ (@ps_for _ _ _ _ _ _ _ _ PassesOwn.never rfl (pi_range2 rfl b_range (qa (qi qm (qi qm (pv 0) qc (fun _ _=>rfl)) qc (fun _ _=>rfl)) (qa (qs0 qf2 (qi qm (qi qm (pv 0) qc (fun _ _=>rfl)) qc (fun _ _=>rfl)) qc) qd0))) (qn0 (i:=3) sc_choice_by.nd rfl (Or.inl rfl)) (@qb _ _ _ _ _ (ql (i:=4) sc_choice_by.nd rfl (Or.inl rfl) (qj1 g_free_or_none hr (by decide) rfl (qa (pv 1) (qa (qj1 g_changed hr (by decide) rfl (qa (pv 1) (qa (qi qm (pv 0) qc (fun _ _=>rfl)) (qa (qi qm (pv 0) qc (fun _ _=>rfl)) (qa (pv 3) qd0))))) (qa (pv 2) qd0))))) (@qf _ _ _ (@qo1 _ _ _ _ _ _ _ _ (qv op_notN (pv 4) pe_non (qa1 _)) (@qf _ _ _ (qq0 (pv 4))) qw))) (by intro _; rfl)) (@qf _ _ _ (qq0 pe_non))),?_⟩
 rw [st_choice_by]
 walk_at "sv"
 refine ixT_go (i:=3) (SqT.of htc) rfl ?_
 refine ixT_go (i:=0) (SqT.of hd) rfl ?_
 refine ixT_go (i:=3) (SqT.of htc) rfl ?_
 refine ixT_go (i:=1) (SqT.of hd) rfl ?_
 walk_at "sv"
 refine Rng2R.go ⟨by omega,by omega,by omega,by omega⟩ ?_
 refine ForR.range (fun i σ H'=>Same H H'∧(∀ j,j<i→qt1 B.ts ns (chgL c.side ns c.ad (c.lo+(j:Int)))=false)∧∃ y3 y4,σ=[some (.ref tc),some (.ref p),some (.ref t),y3,y4]) ⟨Same.refl _,(fun j hj=>by omega),none,none,rfl⟩ (fun i σ H1 hi pv=>?_) (fun σ H1 pv=>?_)
 ·obtain ⟨s1,no,y3,y4,rfl⟩:=pv
  walk_at "sv"
  refine ixT_go (i:=0) (SqT.of (s1 _ _ htc)) rfl ?_
  walk_at "sv"
  refine ixT_go (i:=2) (SqT.of (s1 _ _ htc)) rfl ?_
  walk_at "sv"
  refine spChanged.go (hp.same s1) n5 fun r H2 nr s2 hr2=>?_
  walk_at "sv"
  have s12:=s1.trans s2
  refine ⟨t,p,r,dx,l,kd,B,ads,ns,_,rfl,tb.same s12,hp.same s12,hr2,chg_len n5,fun H3 s3=>?_⟩
  have s13:=s12.trans s3
  cases e:qt1 B.ts ns (chgL c.side ns c.ad (c.lo+(i:Int))) with
  | true =>
   rw [if_pos rfl]
   walk_at "sv"
   have nn:decide (V.ref r=V.non)=false:=decide_eq_false (by intro c; cases c)
   rw [nn]
   walk_at "sv"
   refine k _ H3 s13 ?_
   rw [by_some (show i<(c.hi+1 - c.lo).toNat from hi) no e]
   exact ⟨r,rfl,hr2.same s3⟩
  | false =>
   rw [if_neg (by decide)]
   walk_at "sv"
   refine ⟨s13,fun j hj=>?_,_,_,rfl⟩
   rcases Nat.lt_or_ge j i with h | h
   ·exact no j h
   ·obtain rfl:j=i:=by omega
    exact e
 ·obtain ⟨s1,no,y3,y4,rfl⟩:=pv
  walk_at "sv"
  refine k _ H1 s1 ?_
  rw [by_none no]
  exact rfl
def spChoice (C_Talk C_Table:Addr):Sp:=fun vs H Q _=>∃ (t p dx l kd cl:Addr) (vs':List V) (cs:List Chg) (B:Tb) (ads:List (Addr×Addr)) (ns:List Int),vs=[.ref cl,.ref p,.ref t]∧H cl=some (.lst vs')∧All2 (ChgAt H) vs' cs∧TabAt C_Talk C_Table H t B dx l kd ads∧IsPt H p ns∧ns.length=5∧∀ u H',Same H H'→LabV H' u (choiceOf B.ts ns cs)→Q u H'
theorem ok_choice (F:Fun K "choice" "choice" s_choice f fd)(gm_Table_turn:FnM P w K mg base C_Table "turn" 1 ["self","label"] (spTurn C_Talk C_Table))(g_has:Fn P w K mg base "has" 2 ["box","point"] spHas)(g_choice_by:Fn P w K mg base "choice_by" 4 ["change","label","table"] (spBy C_Talk C_Table))(g_free_or_none:Fn P w K mg base "free_or_none" 3 ["label","sent","table"] (spFon C_Talk C_Table))(T:TxT K C_Talk C_Table):FnOk P w K mg base CX0 5 f fd ["changes","label","table"] (spChoice C_Talk C_Table):=by
 refine F.ok sc_choice (fun vs H Q E h=>?_) (fun cdv A outer s H vs Q E hr h=>?_)
 ·obtain ⟨_,_,_,_,_,_,_,_,_,_,_,rfl,_⟩:=h
  rfl
 obtain ⟨t,p,dx,l,kd,cl,vs',cs,B,ads,ns,rfl,hcl,cal,tb,hp,n5,k⟩:=h
 refine ⟨_,(@qb _ _ _ _ _ (@qo1 _ _ _ _ _ _ _ _ (qv op_ne (qq1 (pv 2) hr (qa (pv 1) qd0)) qc (qa1 _)) (@qf _ _ _ (qq0 pe_non)) qw) (@qb _ _ _ _ _ (@ps_for _ _ _ _ _ _ _ _ PassesOwn.never rfl (qd2 (pv 0)) (qn0 (i:=3) sc_choice.nd rfl (Or.inl rfl)) (@qf _ _ _ (@qo1 _ _ _ _ _ _ _ _ (pt_val (qj1 g_has hr (by decide) rfl (qa (qi qm (pv 3) qc (fun _ _=>rfl)) (qa (pv 1) qd0)))) (@qf _ _ _ (qq0 (qj1 g_choice_by hr (by decide) rfl (qa (pv 3) (qa (pv 1) (qa (pv 2) qd0)))))) qw)) (by intro _; rfl)) (@qf _ _ _ (qq0 (qj1 g_free_or_none hr (by decide) rfl (qa (pv 1) (qa (pv 1) (qa (pv 2) qd0)))))))),?_⟩
 rw [st_choice]
 walk_at "sv"
 refine MethR.go gm_Table_turn tb.tab T.table (tab_no (by decide)) (by decide) ?_
 walk_at "sv"
 refine ⟨t,p,dx,l,kd,B,ads,ns,rfl,tb,hp,?_⟩
 walk_at "sv"
 refine BrS.ndec (fun c1=>?_) (fun c1=>?_)
 ·walk_at "sv"
  refine k _ H (Same.refl _) ?_
  unfold choiceOf
  rw [if_pos c1]
  exact rfl
 unfold choiceOf at k
 rw [if_neg (fun h=>h c1)] at k
 walk_at "sv"
 refine IlR.go (SqL.of hcl) ?_
 refine ForR.items itl (fun i σ H'=>Same H H'∧(∀ u∈cs.take i,inBox u.bs ns=false)∧∃ y,σ=[some (.ref cl),some (.ref p),some (.ref t),y]) ⟨Same.refl _,(fun u hu=>by cases hu),none,rfl⟩ (fun i σ H' pv=>SqL.of (pv.1 _ _ hcl)) (fun i x σ H1 hx pv=>?_) (fun σ H1 pv=>?_)
 ·obtain ⟨s1,no,y,rfl⟩:=pv
  obtain ⟨u,eu,hu⟩:=cal.at hx
  obtain ⟨tc,pb,d,rfl,htc,hb,b5,fb,hd,lo0,lohi,hi1⟩:=id hu
  have sp:cs=cs.take i++(u::cs.drop (i+1)):=by
   obtain ⟨lt,e⟩:=List.getElem?_eq_some_iff.mp eu
   rw [← e,← List.drop_eq_getElem_cons lt,List.take_append_drop]
  walk_at "sv"
  refine ixT_go (i:=1) (SqT.of (s1 _ _ htc)) rfl ?_
  walk_at "sv"
  refine ⟨pb,p,u.bs,ns,rfl,hb.same s1,hp.same s1,n5.trans b5.symm,fb,fun H2 s2=>?_⟩
  have s12:=s1.trans s2
  cases eb:inBox u.bs ns with
  | true =>
   walk_at "sv"
   refine ⟨t,p,dx,l,kd,_,u,B,ads,ns,rfl,hu.same s12,tb.same s12,hp.same s12,n5,fun v H3 s3 hv=>?_⟩
   refine k v H3 (s12.trans s3) ?_
   rw [sp,List.find?_append,List.find?_eq_none.mpr (fun x hx=>by rw [no x hx]; decide),List.find?_cons,eb]
   exact hv
  | false =>
   walk_at "sv"
   refine ⟨s12,fun v hv=>?_,_,rfl⟩
   rw [List.take_add_one,eu] at hv
   rcases List.mem_append.mp hv with hv | hv
   ·exact no v hv
   ·obtain rfl:=List.mem_singleton.mp hv
    exact eb
 ·obtain ⟨s1,no,y,rfl⟩:=pv
  have cl':cs.take vs'.length=cs:=by rw [cal.len,List.take_length]
  rw [cl'] at no
  walk_at "sv"
  refine ⟨t,p,p,dx,l,kd,B,ads,ns,ns,rfl,tb.same s1,hp.same s1,hp.same s1,n5,fun H2 s2=>?_⟩
  refine k _ H2 (s1.trans s2) ?_
  rw [List.find?_eq_none.mpr (fun x hx=>by rw [no x hx]; decide)]
  show LabV H2 _ (if qt1 B.ts ns ns=true then some ns else none)
  cases e:qt1 B.ts ns ns with
  | true=>exact ⟨p,rfl,(hp.same s1).same s2⟩
  | false=>exact rfl
end
--CUT--
section
variable {cRu cWo cBa cCa:Addr}
theorem Txt.cls_Word (T:Txt K cRu cWo cBa cCa):Cls K cWo:=⟨T.pg_Word,T.hd_Word,T.po_Word,T.sa_Word⟩
theorem Txt.cls_Back (T:Txt K cRu cWo cBa cCa):Cls K cBa:=⟨T.pg_Back,T.hd_Back,T.po_Back,T.sa_Back⟩
theorem Txt.cls_Call (T:Txt K cRu cWo cBa cCa):Cls K cCa:=⟨T.pg_Call,T.hd_Call,T.po_Call,T.sa_Call⟩
end
inductive Rl where
 | word (w:Str)
 | back
 | call (n:Str)
def Rl.fs (p:Addr):Rl→List (Str×V)
 | .word w=>[("box",.ref p),("word",.str w)]
 | .back=>[("box",.ref p)]
 | .call n=>[("box",.ref p),("name",.str n)]
def Rl.told (p:Addr):Rl→List V
 | .word w=>[.str w,.ref p]
 | .back=>[.str "back",.ref p]
 | .call n=>[.str "call",.ref p,.str n]
def Rl.cls (cWo cBa cCa:Addr):Rl→Addr
 | .word _=>cWo
 | .back=>cBa
 | .call _=>cCa
def Rl.ok:Rl→Prop
 | .word w=>w≠"back"∧w≠"call"∧w.length≤1000∧PyData.strOk w=true
 | .back=>True
 | .call n=>n.length≤1000∧PyData.strOk n=true
theorem s_box_word:("box":Str)≠"word":=by decide
theorem s_box_name:("box":Str)≠"name":=by decide
theorem put_new (f:Str)(v:V):putF f v []=[(f,v)]:=rfl
theorem put_two {f g:Str}(h:g≠f)(v x:V):putF f v [(g,x)]=[(g,x),(f,v)]:=by
 simp only [putF,if_neg h]
theorem look_one (f:Str)(v:V)(r:List (Str×V)):((f,v)::r).lookup f=some v:=by
 rw [List.lookup_cons,beq_self_eq_true]
theorem look_two {f g:Str}(h:f≠g)(v x:V):[(g,x),(f,v)].lookup f=some v:=by
 rw [List.lookup_cons,beq_eq_false_iff_ne.mpr h]
 exact look_one f v []
theorem Rl.box (p:Addr):∀ r:Rl,(r.fs p).lookup ("box":Str)=some (.ref p)
 | .word _=>look_one _ _ _
 | .back=>look_one _ _ _
 | .call _=>look_one _ _ _
theorem Rl.none {m:Str}(h1:m≠"box")(h2:m≠"word")(h3:m≠"name")(p:Addr):∀ r:Rl,(r.fs p).lookup m=none:=fun r=>by
 have e:∀ (g:Str) (v:V) (l:List (Str×V)),m≠g→((g,v)::l).lookup m=l.lookup m:=fun g v l h=>by rw [List.lookup_cons,beq_eq_false_iff_ne.mpr h]
 cases r with
 | word w=>rw [Rl.fs,e _ _ _ h1,e _ _ _ h2]; rfl
 | back=>rw [Rl.fs,e _ _ _ h1]; rfl
 | call n=>rw [Rl.fs,e _ _ _ h1,e _ _ _ h3]; rfl
def IsRule (cWo cBa cCa:Addr)(H:Hp)(a:Addr)(r:Rl)(p:Addr):Prop:=∃ dx,H a=some (.ins (r.cls cWo cBa cCa) dx (r.fs p))
theorem IsRule.same {cWo cBa cCa a p:Addr}{r:Rl}{H H':Hp}(h:IsRule cWo cBa cCa H a r p)(s:Same H H'):IsRule cWo cBa cCa H' a r p:=by
 obtain ⟨dx,h⟩:=h
 exact ⟨dx,s _ _ h⟩
def spInit (K:PySem.W.Frag):Sp:=fun vs H Q _=>∃ (a p C dx:Addr),vs=[.ref a,.ref p]∧H a=some (.ins C dx [])∧Cls K C∧NoAttr K C "box"∧Q .non (upd H a (.ins C dx [("box",.ref p)]))
theorem ok_Rule_init (F:Fun K "__init__" "Rule.__init__" s_Rule___init__ f fd):FnOk P w K mg base CX0 1 f fd ["self","box"] (spInit K):=by
 refine F.ok sc_Rule___init__ (fun vs H Q E h=>?_) (fun cdv A outer s H vs Q E hr h=>?_)
 ·obtain ⟨_,_,_,_,rfl,_⟩:=h
  rfl
 obtain ⟨a,p,C,dx,rfl,ha,cl,na,q⟩:=h
 refine ⟨_,(@qf _ _ _ (qa2 (pv 0) (pv 1) rfl)),?_⟩
 rw [st_Rule___init__]
 walk_at "sv"
 exact SFldR.go ha cl na (by simp) q
def spInitW (K:PySem.W.Frag)(C:Addr)(f:Str):Sp:=fun vs H Q _=>∃ (a p dx:Addr) (w:Str),vs=[.ref a,.ref p,.str w]∧H a=some (.ins C dx [])∧Q .non (upd H a (.ins C dx [("box",.ref p),(f,.str w)]))
section
variable {cRu cWo cBa cCa:Addr}
theorem ok_Word_init (F:Fun K "__init__" "Word.__init__" s_Word___init__ f fd)(gc_Rule___init__:FnC P w K mg base cRu "__init__" 1 ["self","box"] (spInit K))(m_Rule:mg "Rule"=some (.ref cRu))(T:Txt K cRu cWo cBa cCa):FnOk P w K mg base CX0 2 f fd ["self","box","word"] (spInitW K cWo "word"):=by
 refine F.ok sc_Word___init__ (fun vs H Q E h=>?_) (fun cdv A outer s H vs Q E hr h=>?_)
 ·obtain ⟨_,_,_,_,rfl,_⟩:=h
  rfl
 obtain ⟨a,p,dx,w,rfl,ha,q⟩:=h
 refine ⟨_,(@qb _ _ _ _ _ (qw1 (pe_cm (pe_glob (v:=.ref cRu) rfl m_Rule rfl) gc_Rule___init__ hr (by decide) (qa (pv 0) (qa (pv 1) qd0)))) (@qf _ _ _ (qa2 (pv 0) (pv 2) rfl))),?_⟩
 rw [st_Word___init__]
 walk_at "sv"
 refine ⟨a,p,cWo,dx,rfl,ha,T.cls_Word,T.nb_Word,?_⟩
 walk_at "sv"
 refine SFldR.go qe T.cls_Word T.nw (by simp) ?_
 rw [upd_upd,put_two s_box_word]
 exact q
theorem ok_Call_init (F:Fun K "__init__" "Call.__init__" s_Call___init__ f fd)(gc_Rule___init__:FnC P w K mg base cRu "__init__" 1 ["self","box"] (spInit K))(m_Rule:mg "Rule"=some (.ref cRu))(T:Txt K cRu cWo cBa cCa):FnOk P w K mg base CX0 2 f fd ["self","box","name"] (spInitW K cCa "name"):=by
 refine F.ok sc_Call___init__ (fun vs H Q E h=>?_) (fun cdv A outer s H vs Q E hr h=>?_)
 ·obtain ⟨_,_,_,_,rfl,_⟩:=h
  rfl
 obtain ⟨a,p,dx,w,rfl,ha,q⟩:=h
 refine ⟨_,(@qb _ _ _ _ _ (qw1 (pe_cm (pe_glob (v:=.ref cRu) rfl m_Rule rfl) gc_Rule___init__ hr (by decide) (qa (pv 0) (qa (pv 1) qd0)))) (@qf _ _ _ (qa2 (pv 0) (pv 2) rfl))),?_⟩
 rw [st_Call___init__]
 walk_at "sv"
 refine ⟨a,p,cCa,dx,rfl,ha,T.cls_Call,T.nb_Call,?_⟩
 walk_at "sv"
 refine SFldR.go qe T.cls_Call T.nn (by simp) ?_
 rw [upd_upd,put_two s_box_name]
 exact q
def spTold (C:Addr)(ok:Rl→Prop):Sp:=fun vs H Q _=>∃ (a p dx:Addr) (r:Rl),vs=[.ref a]∧H a=some (.ins C dx (r.fs p))∧ok r∧∀ t H',H t=none→Same H H'→H' t=some (.tup (r.told p))→Q (.ref t) H'
def isWord (r:Rl):Prop:=∃ w,r=.word w
def isBack (r:Rl):Prop:=r=.back
def isCall (r:Rl):Prop:=∃ n,r=.call n
theorem ok_Word_told (F:Fun K "told" "Word.told" s_Word_told f fd)(T:Txt K cRu cWo cBa cCa):FnOk P w K mg base CX0 1 f fd ["self"] (spTold cWo isWord):=by
 refine F.ok sc_Word_told (fun vs H Q E h=>?_) (fun cdv A outer s H vs Q E hr h=>?_)
 ·obtain ⟨_,_,_,_,rfl,_⟩:=h
  rfl
 obtain ⟨a,p,dx,r,rfl,ha,⟨w,rfl⟩,q⟩:=h
 refine ⟨_,(@qf _ _ _ (qq0 (qo (qa (qx0 (pv 0) rfl) (qa (qx0 (pv 0) rfl) qd0))))),?_⟩
 rw [st_Word_told]
 walk_at "sv"
 refine FldR.go ha T.cls_Word T.nw (look_two s_box_word.symm _ _) ?_
 walk_at "sv"
 refine FldR.go ha T.cls_Word T.nb_Word (look_one _ _ _) ?_
 exact TupR.go (by simp) fun t ht=>q t _ ht (qh ht _) qe
theorem ok_Back_told (F:Fun K "told" "Back.told" s_Back_told f fd)(T:Txt K cRu cWo cBa cCa):FnOk P w K mg base CX0 1 f fd ["self"] (spTold cBa isBack):=by
 refine F.ok sc_Back_told (fun vs H Q E h=>?_) (fun cdv A outer s H vs Q E hr h=>?_)
 ·obtain ⟨_,_,_,_,rfl,_⟩:=h
  rfl
 obtain ⟨a,p,dx,r,rfl,ha,rfl,q⟩:=h
 refine ⟨_,(@qf _ _ _ (qq0 (qo (qa qr1 (qa (qx0 (pv 0) rfl) qd0))))),?_⟩
 rw [st_Back_told]
 walk_at "sv"
 refine FldR.go ha T.cls_Back T.nb_Back (look_one _ _ _) ?_
 exact TupR.go (by simp) fun t ht=>q t _ ht (qh ht _) qe
theorem ok_Call_told (F:Fun K "told" "Call.told" s_Call_told f fd)(T:Txt K cRu cWo cBa cCa):FnOk P w K mg base CX0 1 f fd ["self"] (spTold cCa isCall):=by
 refine F.ok sc_Call_told (fun vs H Q E h=>?_) (fun cdv A outer s H vs Q E hr h=>?_)
 ·obtain ⟨_,_,_,_,rfl,_⟩:=h
  rfl
 obtain ⟨a,p,dx,r,rfl,ha,⟨n,rfl⟩,q⟩:=h
 refine ⟨_,(@qf _ _ _ (qq0 (qo (qa qr1 (qa (qx0 (pv 0) rfl) (qa (qx0 (pv 0) rfl) qd0)))))),?_⟩
 rw [st_Call_told]
 walk_at "sv"
 refine FldR.go ha T.cls_Call T.nb_Call (look_one _ _ _) ?_
 walk_at "sv"
 refine FldR.go ha T.cls_Call T.nn (look_two s_box_name.symm _ _) ?_
 exact TupR.go (by simp) fun t ht=>q t _ ht (qh ht _) qe
theorem same_ins {H:Hp}{x dx:Addr}{o o':HO}(nx:H x=none)(nd:H dx=none)(ne:dx≠x):Same H (upd (upd H dx o) x o'):=(qh nd o).trans (qh (by rw [qu0 ne.symm]; exact nx) o')
def spRuleOf (cWo cBa cCa:Addr):Sp:=fun vs H Q _=>∃ (t p:Addr) (r:Rl),vs=[.ref t]∧H t=some (.tup (r.told p))∧r.ok∧∀ a H',H a=none→Same H H'→IsRule cWo cBa cCa H' a r p→Q (.ref a) H'
theorem ok_rule_of (F:Fun K "rule_of" "rule_of" s_rule_of f fd)(gi_Back:FnI P w K mg base cBa 1 ["self","box"] (spInit K))(gi_Word:FnI P w K mg base cWo 2 ["self","box","word"] (spInitW K cWo "word"))(gi_Call:FnI P w K mg base cCa 2 ["self","box","name"] (spInitW K cCa "name"))
  (m_Back:mg "Back"=some (.ref cBa)) (m_Word:mg "Word"=some (.ref cWo)) (m_Call:mg "Call"=some (.ref cCa)) (T:Txt K cRu cWo cBa cCa):FnOk P w K mg base CX0 4 f fd ["told"] (spRuleOf cWo cBa cCa):=by
 refine F.ok sc_rule_of (fun vs H Q E h=>?_) (fun cdv A outer s H vs Q E hr h=>?_)
 ·obtain ⟨_,_,_,rfl,_⟩:=h
  rfl
 obtain ⟨t,p,r,rfl,ht,ok,q⟩:=h
 refine ⟨_,(@qb _ _ _ _ _ (@qo1 _ _ _ _ _ _ _ _ (qv op_eq (qi qm (pv 0) qc (fun _ _=>rfl)) qr1 (qa1 _)) (@qf _ _ _ (qq0 (pe_new gi_Back hr (by decide) rfl m_Back (qa (qi qm (pv 0) qc (fun _ _=>rfl)) qd0)))) qw) (@qb _ _ _ _ _ (@qo1 _ _ _ _ _ _ _ _ (qv op_eq (qi qm (pv 0) qc (fun _ _=>rfl)) qr1 (qa1 _)) (@qf _ _ _ (qq0 (pe_new gi_Call hr (by decide) rfl m_Call (qa (qi qm (pv 0) qc (fun _ _=>rfl)) (qa (qi qm (pv 0) qc (fun _ _=>rfl)) qd0))))) qw) (@qf _ _ _ (qq0 (pe_new gi_Word hr (by decide) rfl m_Word (qa (qi qm (pv 0) qc (fun _ _=>rfl)) (qa (qi qm (pv 0) qc (fun _ _=>rfl)) qd0))))))),?_⟩
 rw [st_rule_of]
 cases r with
 | word w =>
  obtain ⟨n1,n2,_⟩:=ok
  simp only [Rl.told] at ht
  walk_at "ix"
  rw [decide_eq_false n1]
  walk_at "ix"
  rw [decide_eq_false n2]
  walk_at "ix"
  intro x dx nx nd ne
  refine ⟨x,p,dx,w,rfl,qe,rfl,?_⟩
  rw [upd_upd]
  exact q x _ nx (same_ins nx nd ne) ⟨dx,qe⟩
 | back =>
  simp only [Rl.told] at ht
  walk_at "ix"
  intro x dx nx nd ne
  refine ⟨x,p,cBa,dx,rfl,qe,T.cls_Back,T.nb_Back,rfl,?_⟩
  rw [upd_upd]
  exact q x _ nx (same_ins nx nd ne) ⟨dx,qe⟩
 | call n =>
  simp only [Rl.told] at ht
  walk_at "ix"
  rw [decide_eq_false (show ¬ ("call":Str)="back" by decide)]
  walk_at "ix"
  refine ixT_go (i:=2) (SqT.of ht) rfl ?_
  intro x dx nx nd ne
  refine ⟨x,p,dx,n,rfl,qe,rfl,?_⟩
  rw [upd_upd]
  exact q x _ nx (same_ins nx nd ne) ⟨dx,qe⟩
end
def spFits (K:PySem.W.Frag):Sp:=fun vs H Q _=>∃ (a q p C dx:Addr) (fs:List (Str×V)) (bs:List (Int×Int)) (ns:List Int),vs=[.ref a,.ref q]∧H a=some (.ins C dx fs)∧Cls K C∧NoAttr K C "box"∧fs.lookup ("box":Str)=some (.ref p)∧IsBox H p bs∧IsPt H q ns∧ns.length=bs.length∧Fair bs ∧
 ∀ H',Same H H'→Q (.bl (inBox bs ns)) H'
theorem ok_fits (F:Fun K "fits" "Rule.fits" s_Rule_fits f fd)(g_has:Fn P w K mg base "has" 2 ["box","point"] spHas):FnOk P w K mg base CX0 3 f fd ["self","parcel"] (spFits K):=by
 refine F.ok sc_Rule_fits (fun vs H Q E h=>?_) (fun cdv A outer s H vs Q E hr h=>?_)
 ·obtain ⟨_,_,_,_,_,_,_,_,rfl,_⟩:=h
  rfl
 obtain ⟨a,q,p,C,dx,fs,bs,ns,rfl,ha,cl,na,lb,hp,hq,hl,fair,qq⟩:=h
 refine ⟨_,(@qf _ _ _ (qq0 (qj1 g_has hr (by decide) rfl (qa (qx0 (pv 0) rfl) (qa (pv 1) qd0))))),?_⟩
 rw [st_Rule_fits]
 walk_at "sv"
 refine FldR.go ha cl na lb ?_
 exact ⟨p,q,bs,ns,rfl,hp,hq,hl,fair,qq⟩
abbrev Ru:=Rl×Addr
def callOf:Ru→Option Str
 | (.call n,_)=>some n
 | _=>none
def qg1 (us:List Ru):List Str:=us.filterMap callOf
section
variable {cRu cWo cBa cCa:Addr}
def RuAt (cWo cBa cCa:Addr)(H:Hp)(v:V)(u:Ru):Prop:=∃ a,v=.ref a∧IsRule cWo cBa cCa H a u.1 u.2
theorem RuAt.same {H H':Hp}{v:V}{u:Ru}(h:RuAt cWo cBa cCa H v u)(s:Same H H'):RuAt cWo cBa cCa H' v u:=by
 obtain ⟨a,e,h⟩:=h
 exact ⟨a,e,h.same s⟩
def RusAt (cWo cBa cCa:Addr)(H:Hp)(vs:List V)(us:List Ru):Prop:=All2 (RuAt cWo cBa cCa H) vs us
theorem RusAt.same {H H':Hp}{vs:List V}{us:List Ru}(h:RusAt cWo cBa cCa H vs us)(s:Same H H'):RusAt cWo cBa cCa H' vs us:=All2.imp h fun _ _ r=>r.same s
def nameV (H:Hp):V→Option V
 | .ref a=>match H a with
  | some (.ins _ _ fs)=>fs.lookup ("name":Str)
  | _=>none
 | _=>none
theorem nameV_at {H:Hp}{v:V}{u:Ru}(h:RuAt cWo cBa cCa H v u):nameV H v=(callOf u).map V.str:=by
 obtain ⟨a,rfl,dx,h⟩:=h
 obtain ⟨r,p⟩:=u
 simp only [nameV,h]
 cases r with
 | word w=>rfl
 | back=>rfl
 | call n=>exact look_two s_box_name.symm _ _
theorem names_calls {H:Hp}{vs:List V}{us:List Ru}(h:RusAt cWo cBa cCa H vs us):(vs.filter fun v=>(nameV H v).isSome).map (fun v=>(nameV H v).getD .non)=(qg1 us).map V.str:=by
 induction h with
 | nil=>rfl
 | @cons v u vs us h _ ih =>
  have e:=nameV_at h
  unfold qg1 at ih ⊢
  rw [List.filter_cons,List.filterMap_cons]
  cases c:callOf u with
  | none =>
   rw [c] at e
   rw [e]
   exact ih
  | some n =>
   rw [c] at e
   rw [e]
   show (nameV H v).getD .non::_=V.str n::_
   rw [e,ih]
   rfl
theorem Txt.tyOf (T:Txt K cRu cWo cBa cCa){H:Hp}{a p:Addr}{r:Rl}(h:IsRule cWo cBa cCa H a r p):∃ t,TyOf K H (.ref a) t∧PySem.W.kitOne K t (.ref cCa)=some (callOf (r,p)).isSome:=by
 obtain ⟨dx,h⟩:=h
 cases r with
 | word w=>exact ⟨_,.ins h T.cls_Word T.cl_Word T.gs T.tk T.ob_Word,T.i_Word_Call⟩
 | back=>exact ⟨_,.ins h T.cls_Back T.cl_Back T.gs T.tk T.ob_Back,T.i_Back_Call⟩
 | call n=>exact ⟨_,.ins h T.cls_Call T.cl_Call T.gs T.tk T.ob_Call,T.i_Call_Call⟩
def spCalled (cWo cBa cCa:Addr):Sp:=fun vs H Q _=>∃ (l:Addr) (rs:List V) (us:List Ru),vs=[.ref l]∧H l=some (.lst rs)∧RusAt cWo cBa cCa H rs us∧us.length≤1000∧∀ D H',H D=none→Same H H'→H' D=some (.lst ((qg1 us).map V.str))→Q (.ref D) H'
theorem ok_called_names (F:Fun K "called_names" "called_names" s_called_names f fd)(b_isinstance:mg "isinstance"=none)(m_Call:mg "Call"=some (.ref cCa))(T:Txt K cRu cWo cBa cCa):FnOk P w K mg base CX0 1 f fd ["rules"] (spCalled cWo cBa cCa):=by
 refine F.ok sc_called_names (fun vs H Q E h=>?_) (fun cdv A outer s H vs Q E hr h=>?_)
 ·obtain ⟨_,_,_,rfl,_⟩:=h
  rfl
 obtain ⟨l,rs,us,rfl,hl,ru,len,q⟩:=h
 refine ⟨_,(@qf _ _ _ (qq0 (pe_comp (T:=["rule"]) (cap:=[]) rfl (COk.of (out:=qg s_called_names) (N:=["rules"]) rfl rfl (by decide +kernel)) (qd2 (pv 0)) (fun _ _ _=>(qn0 (i:=0) (show List.Nodup (["rule"]:List Str) by decide +kernel) rfl (Or.inl rfl))) (fun _ _ _=>(pifs_one (pt_val (qh1 (call_isiCK (K:=K) rfl) rfl b_isinstance bo_isinstance (qa (pv 0) (qa (pe_glob (v:=.ref cCa) rfl m_Call rfl) qd0)))))) (fun _ _ _=>(pe_fldK (K:=K) rfl (pv 0) rfl))))),?_⟩
 rw [st_called_names]
 walk_at "sv"
 refine IlR.go (SqL.of hl) ?_
 refine CmpR.filt (fun v=>(nameV H v).isSome) (fun v=>(nameV H v).getD .non) itl (by rw [ru.len]; exact len) (fun H' s=>SqL.of (s _ _ hl)) (fun x H' Q' hx sm k=>?_) (fun x H' Q' hx hp sm k=>?_) fun D H' nD sm hD=>?_
 ·obtain ⟨i,hi⟩:=List.getElem?_of_mem hx
  obtain ⟨u,_,r⟩:=All2.at ru hi
  have e:=nameV_at r
  obtain ⟨a,rfl,r⟩:=r
  obtain ⟨t,ty,kt⟩:=T.tyOf (r.same sm)
  walk_at "sv"
  refine ⟨_,_,t,_,rfl,ty,kt,?_⟩
  have e2:(callOf (u.1,u.2)).isSome=(nameV H (.ref a)).isSome:=by rw [e,Option.isSome_map]
  rw [e2]
  exact ⟨_,rfl,k H' (Same.refl _)⟩
 ·obtain ⟨i,hi⟩:=List.getElem?_of_mem hx
  obtain ⟨u,_,r⟩:=All2.at ru hi
  have e:=nameV_at r
  obtain ⟨a,rfl,dx,r⟩:=r
  obtain ⟨r',p⟩:=u
  have ha:=sm _ _ r
  walk_at "sv"
  cases r' with
  | word w=>rw [e] at hp; cases hp
  | back=>rw [e] at hp; cases hp
  | call n =>
   refine FldR.go ha T.cls_Call T.nn (look_two s_box_name.symm _ _) ?_
   have:=k H' (Same.refl _)
   rw [e] at this
   exact this
 ·rw [names_calls ru] at hD
  exact q D H' nD sm hD
theorem look_in {ps:List (Str×V)}{p:Str×V}(nd:(ps.map (·.1)).Nodup)(h:p∈ps):ps.lookup p.1=some p.2:=by
 induction ps with
 | nil=>cases h
 | cons q r ih =>
  rw [List.map_cons,List.nodup_cons] at nd
  rw [List.lookup_cons]
  rcases List.mem_cons.mp h with rfl | h
  ·rw [beq_self_eq_true]
  ·have ne:p.1≠q.1:=fun e=>nd.1 (e▸List.mem_map_of_mem h)
   rw [beq_eq_false_iff_ne.mpr ne]
   exact ih nd.2 h
theorem look_no {ps:List (Str×V)}{z:Str}(h:z∉ps.map (·.1)):ps.lookup z=none:=by
 induction ps with
 | nil=>rfl
 | cons q r ih =>
  rw [List.map_cons,List.mem_cons,not_or] at h
  rw [List.lookup_cons,beq_eq_false_iff_ne.mpr h.1]
  exact ih h.2
theorem look_yes {ps:List (Str×V)}{z:Str}(nd:(ps.map (·.1)).Nodup)(h:z∈ps.map (·.1)):∃ v,(z,v)∈ps∧ps.lookup z=some v:=by
 obtain ⟨p,hp,rfl⟩:=List.mem_map.mp h
 exact ⟨p.2,hp,look_in nd hp⟩
theorem look_is {ps:List (Str×V)}(nd:(ps.map (·.1)).Nodup)(z:Str):(ps.lookup z).isSome=decide (z∈ps.map (·.1)):=by
 by_cases h:z∈ps.map (·.1)
 ·obtain ⟨v,_,e⟩:=look_yes nd h
  rw [e,decide_eq_true h]
  rfl
 ·rw [look_no h,decide_eq_false h]
  rfl
theorem nodup_take {zs:List Str}(nd:zs.Nodup){i:Nat}{z:Str}(h:zs[i]?=some z):z∉zs.take i:=fun hm=>by
 obtain ⟨j,hj⟩:=List.getElem?_of_mem hm
 rw [List.getElem?_take] at hj
 split at hj
 ·have lt:=(List.getElem?_eq_some_iff.mp h).1
  have e:=(List.getElem?_inj lt nd).mp (h.trans hj.symm)
  omega
 ·cases hj
def spTwo:Sp:=fun vs H Q _=>∃ (l:Addr) (zs:List Str),vs=[.ref l]∧H l=some (.lst (zs.map V.str))∧zs.Nodup∧∀ H',Same H H'→Q .non H'
theorem ok_two (F:Fun K "refuse_two_chains" "refuse_two_chains" s_refuse_two_chains f fd)(b_enumerate:mg "enumerate"=none):FnOk P w K mg base CX0 1 f fd ["names"] spTwo:=by
 refine F.ok sc_refuse_two_chains (fun vs H Q E h=>?_) (fun cdv A outer s H vs Q E hr h=>?_)
 ·obtain ⟨_,_,rfl,_⟩:=h
  rfl
 obtain ⟨l,zs,rfl,hl,nd,q⟩:=h
 refine ⟨_,(@qf _ _ _ (@ps_for _ _ _ _ _ _ _ _ PassesOwn.never rfl (pi_enum false rfl b_enumerate (qa (pv 0) qd0)) (pg_tup rfl (qb1 (qn0 (i:=1) sc_refuse_two_chains.nd rfl (Or.inl rfl)) (qb1 (qn0 (i:=2) sc_refuse_two_chains.nd rfl (Or.inl rfl)) pgs_nil))) (@qf _ _ _ (@qo1 _ _ _ _ _ _ _ _ (qv (op_inL (K:=K) rfl) (pv 2) (pe_slice sl_list (pv 0) po_none (po_some (pv 1))) (by with_unfolding_all rfl)) (@qf _ _ _ ps_never) qw)) (by intro _; rfl))),?_⟩
 rw [st_refuse_two_chains]
 walk_at "sv"
 refine EnuR.go (t:=false) (SqL.of hl) ?_
 refine ForR.pairs ite (fun i σ H'=>Same H H'∧∃ y z,σ=[some (.ref l),y,z]) ⟨Same.refl _,_,_,rfl⟩ (fun i σ H' pv=>SqL.of (pv.1 _ _ hl)) (fun i y t σ H3 hy pv nt=>?_) (fun σ H3 pv=>?_)
 ·obtain ⟨sm,y1,z1,rfl⟩:=pv
  obtain ⟨v,ev,rfl⟩:=enumV_get hy
  rw [List.getElem?_map] at ev
  obtain ⟨z,ez,rfl⟩:=Option.map_eq_some_iff.mp ev
  have st:=qh nt (.tup [.int (i:Int),.str z])
  have lt:=(List.getElem?_eq_some_iff.mp ez).1
  walk_at "sv"
  refine PartR.go ?_
  refine slTake_go (SqL.of (st _ _ (sm _ _ hl))) (by rw [List.length_map]; omega) fun m nm=>?_
  rw [← List.map_take]
  have s5:=qh nm (.lst ((zs.take i).map V.str))
  refine inR_go (SqL.of qe) ?_
  rw [if_neg Bool.false_ne_true,decide_eq_false (nodup_take nd ez)]
  walk_at "sv"
  exact ⟨(sm.trans st).trans s5,_,_,rfl⟩
 ·exact q _ pv.1
abbrev Chs:=List (Str×List Ru)
def ChAt (cWo cBa cCa:Addr)(H:Hp)(p:Str×V)(c:Str×List Ru):Prop:=p.1=c.1∧c.2.length≤1000∧∃ l rs,p.2=.ref l∧H l=some (.lst rs)∧RusAt cWo cBa cCa H rs c.2
theorem ChAt.same {H H':Hp}{p:Str×V}{c:Str×List Ru}(h:ChAt cWo cBa cCa H p c)(s:Same H H'):ChAt cWo cBa cCa H' p c:=by
 obtain ⟨e,n,l,rs,e2,hl,r⟩:=h
 exact ⟨e,n,l,rs,e2,s _ _ hl,r.same s⟩
def ChsAt (cWo cBa cCa:Addr)(H:Hp)(ps:List (Str×V))(cs:Chs):Prop:=All2 (ChAt cWo cBa cCa H) ps cs
theorem ChsAt.same {H H':Hp}{ps:List (Str×V)}{cs:Chs}(h:ChsAt cWo cBa cCa H ps cs)(s:Same H H'):ChsAt cWo cBa cCa H' ps cs:=All2.imp h fun _ _ r=>r.same s
theorem ChsAt.keys {H:Hp}{ps:List (Str×V)}{cs:Chs}(h:ChsAt cWo cBa cCa H ps cs):ps.map (·.1)=cs.map (·.1):=by
 induction h with
 | nil=>rfl
 | cons h _ ih=>rw [List.map_cons,List.map_cons,h.1,ih]
theorem ChsAt.look {H:Hp}{ps:List (Str×V)}{cs:Chs}{c:Str×List Ru}(h:ChsAt cWo cBa cCa H ps cs)(nd:(cs.map (·.1)).Nodup)(hc:c∈cs):∃ l rs,ps.lookup c.1=some (.ref l)∧H l=some (.lst rs)∧RusAt cWo cBa cCa H rs c.2∧c.2.length≤1000:=by
 obtain ⟨i,hi⟩:=List.getElem?_of_mem hc
 obtain ⟨p,hp,e,n,l,rs,e2,hl,r⟩:=All2.ix h hi
 refine ⟨l,rs,?_,hl,r,n⟩
 rw [← e,← e2]
 exact look_in (h.keys▸nd) (List.mem_of_getElem? hp)
def Closed (cs:Chs):Prop:=∀ c∈cs,∀ n∈qg1 c.2,n∈cs.map (·.1)
theorem ChAt.upd {H:Hp}{d:Addr}{o:HO}{kvs:List (Key×V)}{p:Str×V}{c:Str×List Ru}(h:ChAt cWo cBa cCa H p c)(hd:H d=some (.dK kvs)):ChAt cWo cBa cCa (L2.upd H d o) p c:=by
 obtain ⟨e,n,l,rs,e2,hl,r⟩:=h
 refine ⟨e,n,l,rs,e2,?_,All2.imp r fun v u ru=>?_⟩
 ·rw [qu0 (ne_of hl hd (by intro z; cases z))]
  exact hl
 ·obtain ⟨a,ea,dx,ha⟩:=ru
  refine ⟨a,ea,dx,?_⟩
  rw [qu0 (ne_of ha hd (by intro z; cases z))]
  exact ha
def spMissing (cWo cBa cCa:Addr):Sp:=fun vs H Q _=>∃ (d:Addr) (ps:List (Str×V)) (cs:Chs),vs=[.ref d]∧H d=some (.dK (Dk ps))∧ChsAt cWo cBa cCa H ps cs∧(cs.map (·.1)).Nodup∧Closed cs∧∀ o H',Same (upd H d (.frz o (.dK (Dk ps)))) H'→Q .non H'
theorem ok_missing (F:Fun K "refuse_missing_chains" "refuse_missing_chains" s_refuse_missing_chains f fd)(g_called_names:Fn P w K mg base "called_names" 1 ["rules"] (spCalled cWo cBa cCa)):FnOk P w K mg base CX0 2 f fd ["chains"] (spMissing cWo cBa cCa):=by
 refine F.ok sc_refuse_missing_chains (fun vs H Q E h=>?_) (fun cdv A outer s H vs Q E hr h=>?_)
 ·obtain ⟨_,_,_,rfl,_⟩:=h
  rfl
 obtain ⟨d,ps,cs,rfl,hd,hc,nd,cl,q⟩:=h
 refine ⟨_,(@qf _ _ _ (@ps_for _ _ _ _ _ _ _ _ PassesOwn.never rfl (pi_dict (pv 0)) (qn0 (i:=1) sc_refuse_missing_chains.nd rfl (Or.inl rfl)) (@qf _ _ _ (@ps_for _ _ _ _ _ _ _ _ PassesOwn.never rfl (qd2 (qj1 g_called_names hr (by decide) rfl (qa (pe_dget (hu_of hr) (pv 0) (pv 1) (fun _ _=>rfl)) qd0))) (qn0 (i:=2) sc_refuse_missing_chains.nd rfl (Or.inl rfl)) (@qf _ _ _ (@qo1 _ _ _ _ _ _ _ _ (pt_cmp (pc_dnotin (hu_of hr) (pv 2) (pv 0))) (@qf _ _ _ ps_never) qw)) (by intro _; rfl))) (by intro _; rfl))),?_⟩
 rw [st_refuse_missing_chains]
 walk_at "sv"
 refine ⟨d,_,rfl,.inr ⟨hd,fun o=>?_⟩⟩
 have hc0:ChsAt cWo cBa cCa (upd H d (.frz o (.dK (Dk ps)))) ps cs:=All2.imp hc fun _ _ r=>r.upd hd
 have hd0:upd H d (.frz o (.dK (Dk ps))) d=some (.frz o (.dK (Dk ps))):=qe
 have q0:=q o
 generalize upd H d (.frz o (.dK (Dk ps)))=H0 at *
 refine ForR.items itd (fun i σ H'=>Same H0 H'∧∃ y z,σ=[some (.ref d),y,z]) ⟨Same.refl _,_,_,rfl⟩ (fun i σ H' pv=>pv.1 _ _ hd0) (fun i x σ H3 hx pv=>?_) (fun σ H3 pv=>?_)
 ·obtain ⟨sm,y1,z1,rfl⟩:=pv
  rw [Dk_keys,hc0.keys,List.map_map,List.getElem?_map] at hx
  obtain ⟨c,ec,rfl⟩:=Option.map_eq_some_iff.mp hx
  have mem:=List.mem_of_getElem? ec
  have hc3:=hc0.same sm
  have hd3:DicS H3 d ps:=.inr ⟨o,sm _ _ hd0⟩
  obtain ⟨l,rs,lk,hl,ru,n⟩:=hc3.look nd mem
  show gName _ _ _ _ _
  walk_at "sv"
  refine dgetR_go hd3 lk ?_
  refine ⟨l,rs,c.2,rfl,hl,ru,n,fun D H4 nD s4 hD=>?_⟩
  refine IlR.go (SqL.of hD) ?_
  refine ForR.items itl (fun i σ H'=>Same H4 H'∧∃ y,σ=[some (.ref d),some (.str c.1),y]) ⟨Same.refl _,_,rfl⟩ (fun i σ H' pv=>SqL.of (pv.1 _ _ hD)) (fun j x σ H5 hx pv=>?_) (fun σ H5 pv=>?_)
  ·obtain ⟨s5,y2,rfl⟩:=pv
   rw [List.getElem?_map] at hx
   obtain ⟨m,em,rfl⟩:=Option.map_eq_some_iff.mp hx
   have hm:=cl c mem m (List.mem_of_getElem? em)
   show gName _ _ _ _ _
   walk_at "sv"
   refine dinR_go ((hd3.same s4).same s5) ?_
   rw [if_pos rfl,look_is (hc0.keys▸nd),hc0.keys,decide_eq_true hm]
   walk_at "sv"
   exact ⟨s5,_,rfl⟩
  ·obtain ⟨s5,y2,rfl⟩:=pv
   exact ⟨(sm.trans s4).trans s5,_,_,rfl⟩
 ·exact q0 _ pv.1
def rdy (ks:List Str)(c:Str×List Ru):Bool:=!decide (c.1∈ks) && decide (∀ n∈qg1 c.2,n∈ks)
def readyOf (cs:Chs)(ks:List Str):List Str:=(cs.filter (rdy ks)).map (·.1)
theorem readyOf_take {cs:Chs}{ks:List Str}{i:Nat}{c:Str×List Ru}(h:cs[i]?=some c):readyOf (cs.take (i+1)) ks=readyOf (cs.take i) ks++if rdy ks c=true then [c.1] else []:=by
 unfold readyOf
 rw [List.take_add_one,h,List.filter_append,List.map_append,Option.toList_some]
 congr 1
 cases hp:rdy ks c <;> simp [List.filter,hp]
theorem readyOf_le (cs:Chs)(ks:List Str):(readyOf cs ks).length≤cs.length:=by
 unfold readyOf
 rw [List.length_map]
 exact List.length_filter_le _ _
def NamesOk (cs:Chs):Prop:=(cs.map (·.1)).Nodup∧Closed cs∧cs.length≤900∧∀ c∈cs,PyData.strOk c.1=true
def notIn (ks:List Str):V→Bool
 | .str z=>!decide (z∈ks)
 | _=>true
theorem notIn_list (ks:List Str):∀ zs:List Str,((zs.map V.str).filter (notIn ks)).map (fun v=>v)=(zs.filter fun z=>!decide (z∈ks)).map V.str
 | []=>rfl
 | z::zs=>by
  have ih:=notIn_list ks zs
  rw [List.map_cons,List.filter_cons,List.filter_cons]
  show List.map _ (if (!decide (z∈ks))=true then _ else _)=_
  split
  ·rw [List.map_cons,List.map_cons,ih]
  ·exact ih
def spReady (cWo cBa cCa:Addr):Sp:=fun vs H Q _=>∃ (d ld:Addr) (o:Obj) (ps ls:List (Str×V)) (cs:Chs),vs=[.ref d,.ref ld]∧H d=some (.frz o (.dK (Dk ps)))∧ChsAt cWo cBa cCa H ps cs∧NamesOk cs∧DicS H ld ls∧(ls.map (·.1)).Nodup ∧
 ∀ D H',H D=none→Same H H'→H' D=some (.lst ((readyOf cs (ls.map (·.1))).map V.str))→Q (.ref D) H'
theorem ok_ready (F:Fun K "ready_names" "ready_names" s_ready_names f fd)(g_called_names:Fn P w K mg base "called_names" 1 ["rules"] (spCalled cWo cBa cCa)):FnOk P w K mg base CX0 2 f fd ["chains","lengths"] (spReady cWo cBa cCa):=by
 refine F.ok sc_ready_names (fun vs H Q E h=>?_) (fun cdv A outer s H vs Q E hr h=>?_)
 ·obtain ⟨_,_,_,_,_,_,rfl,_⟩:=h
  rfl
 obtain ⟨d,ld,o,ps,ls,cs,rfl,hd,hc,⟨nd,cl,le,oks⟩,hld,lnd,q⟩:=h
 have mem_ok:∀ c∈cs,∀ n∈qg1 c.2,PyData.strOk n=true:=fun c hc n hn=>by
  obtain ⟨c',hc',e⟩:=List.mem_map.mp (cl c hc n hn)
  exact e▸oks c' hc'
 refine ⟨_,(@qb _ _ _ _ _ (ql (i:=2) sc_ready_names.nd rfl (Or.inl rfl) (qi1 qd0)) (@qb _ _ _ _ _ (@ps_for _ _ _ _ _ _ _ _ PassesOwn.never rfl (pi_dict (pv 0)) (qn0 (i:=3) sc_ready_names.nd rfl (Or.inl rfl)) (@qb _ _ _ _ _ (ps_setComp (T:=["called"]) (cap:=[1]) (i:=4) rfl (COk.of (out:=qg s_ready_names) (N:=["chains","lengths","ready","name","lacking"]) rfl rfl (by decide +kernel)) sc_ready_names.nd rfl (Or.inl rfl) (qd2 (qj1 g_called_names hr (by decide) rfl (qa (pe_dget (hu_of hr) (pv 0) (pv 3) (fun _ _=>rfl)) qd0))) (fun _ _ _=>(qn0 (i:=0) (show List.Nodup (["called","lengths"]:List Str) by decide +kernel) rfl (Or.inl rfl))) (fun _ _ _=>(pifs_one (pt_cmp (pc_dnotin (hu_of hr) (pv 0) (pv 1))))) (fun _ _ _=>(pv 0))) (@qf _ _ _ (@qo1 _ _ _ _ _ _ _ _ (PW.pt (pw_and (pt_cmp (pc_dnotin (hu_of hr) (pv 3) (pv 1))) (pw_and1 (qv (op_eqD hr.units) (pv 4) (qi1 qd0) (qa1 _))))) (@qf _ _ _ (qw1 (pe_bm PySem.F.plainAttrs_list PySem.F.slot_list_append PySem.F.type_list_append mt_append (pv 2) (qa (pv 3) qd0)))) qw))) (by intro _; rfl)) (@qf _ _ _ (qq0 (pv 2))))),?_⟩
 rw [st_ready_names]
 walk_at "sv"
 refine LstR.go (by simp) fun r nr=>?_
 have s1:=qh nr (.lst [])
 walk_at "sv"
 refine ⟨d,_,rfl,.inl ⟨o,s1 _ _ hd,?_⟩⟩
 refine ForR.items itd (fun i σ H'=>Same H H'∧H' r=some (.lst ((readyOf (cs.take i) (ls.map (·.1))).map V.str))∧∃ y z,σ=[some (.ref d),some (.ref ld),some (.ref r),y,z]) ⟨s1,qe,_,_,rfl⟩ (fun i σ H' pv=>pv.1 _ _ hd) (fun i x σ H3 hx pv=>?_) (fun σ H3 pv=>?_)
 ·obtain ⟨sm,hr3,y1,z1,rfl⟩:=pv
  rw [Dk_keys,hc.keys,List.map_map,List.getElem?_map] at hx
  obtain ⟨c,ec,rfl⟩:=Option.map_eq_some_iff.mp hx
  have mem:=List.mem_of_getElem? ec
  obtain ⟨l,rs,lk,hl,ru,n⟩:=(hc.same sm).look nd mem
  show gName _ _ _ _ _
  walk_at "sv"
  refine dgetR_go (.inr ⟨o,sm _ _ hd⟩) lk ?_
  refine ⟨l,rs,c.2,rfl,hl,ru,n,fun D H4 nD s4 hD=>?_⟩
  refine IlR.go (SqL.of hD) ?_
  have cle:(qg1 c.2).length≤1000:=Nat.le_trans (List.length_filterMap_le _ _) n
  refine CmpR.filt (notIn (ls.map (·.1))) (fun v=>v) itl (by rw [List.length_map]; exact cle) (fun H' s=>SqL.of (s _ _ hD)) (fun x H' Q' hx s5 k=>?_) (fun x H' Q' hx hp s5 k=>?_) fun D2 H' nD2 s5 hD2=>?_
  ·obtain ⟨z,hz,rfl⟩:=List.mem_map.mp hx
   walk_at "sv"
   refine dinR_go (((hld.same sm).same s4).same s5) ?_
   rw [if_pos rfl,look_is lnd]
   walk_at "sv"
   exact k H' (Same.refl _)
  ·obtain ⟨z,hz,rfl⟩:=List.mem_map.mp hx
   walk_at "sv"
   exact k H' (Same.refl _)
  ·rw [notIn_list] at hD2
   have sf:=(sm.trans s4).trans s5
   have hr5:=s5 _ _ (s4 _ _ hr3)
   walk_at "sv"
   refine dinR_go (hld.same sf) ?_
   rw [if_pos rfl,look_is lnd]
   have fin:∀ (H6:Hp) (y z:Option V),Same H' H6→(rdy (ls.map (·.1)) c=false)→Same H H6∧H6 r=some (.lst ((readyOf (cs.take (i+1)) (ls.map (·.1))).map V.str))∧∃ y z,[some (V.ref d),some (.ref ld),some (.ref r),some (.str c.1),some (.ref D2)]=[some (V.ref d),some (.ref ld),some (.ref r),y,z]:=fun H6 y z s6 hf=>by
    refine ⟨sf.trans s6,?_,_,_,rfl⟩
    rw [readyOf_take ec,hf,if_neg Bool.false_ne_true,List.append_nil]
    exact s6 _ _ hr5
   by_cases hm:c.1∈ls.map (·.1)
   ·rw [decide_eq_true hm]
    walk_at "sv"
    refine fin H' none none (Same.refl _) ?_
    unfold rdy
    rw [decide_eq_true hm]
    rfl
   ·rw [decide_eq_false hm]
    walk_at "sv"
    refine LstR.go (by simp) fun e ne=>?_
    have s6:=qh ne (.lst [])
    have oke:∀ z∈(qg1 c.2).filter fun z=>!decide (z∈ls.map (·.1)),PyData.strOk z=true:=fun z hz=>mem_ok c mem z (List.mem_filter.mp hz).1
    refine eqNil_go (s6 _ _ hD2) qe oke ?_
    rw [if_neg Bool.false_ne_true]
    have iff:((qg1 c.2).filter fun z=>!decide (z∈ls.map (·.1)))=[]↔∀ n∈qg1 c.2,n∈ls.map (·.1):=by
     rw [List.filter_eq_nil_iff]
     refine ⟨fun h n hn=>?_,fun h n hn=>?_⟩
     ·have:=h n hn
      simpa using this
     ·have:=h n hn
      simpa using this
    by_cases he:((qg1 c.2).filter fun z=>!decide (z∈ls.map (·.1)))=[]
    ·rw [decide_eq_true he]
     walk_at "sv"
     have hr6:=s6 _ _ hr5
     refine ⟨.inl ⟨rfl,_,SqL.of hr6⟩,?_⟩
     have lr:=readyOf_le (cs.take i) (ls.map (·.1))
     rw [List.length_take] at lr
     refine app_go hr6 (by rw [List.length_map]; omega) ?_
     walk_at "sv"
     have rd:rdy (ls.map (·.1)) c=true:=by
      unfold rdy
      rw [decide_eq_false hm,decide_eq_true (iff.mp he)]
      rfl
     refine ⟨(sf.trans s6).put nr,?_,_,_,rfl⟩
     rw [qe,readyOf_take ec,rd,if_pos rfl,List.map_append]
     rfl
    ·rw [decide_eq_false he]
     walk_at "sv"
     refine fin _ none none s6 ?_
     unfold rdy
     rw [decide_eq_false fun h=>he (iff.mpr h),Bool.and_false]
 ·obtain ⟨sm,hr3,y1,z1,rfl⟩:=pv
  rw [List.length_map] at hr3
  have e:(Dk ps).length=cs.length:=by
   unfold Dk
   rw [List.length_map]
   exact All2.len hc
  rw [e,List.take_length] at hr3
  walk_at "sv"
  exact q r H3 nr sm hr3
structure Lens (cs:Chs)(len:Str→Int)(rank:Str→Nat):Prop where
 eq:∀ c∈cs,len c.1=(c.2.length:Int)+((qg1 c.2).map len).sum
 dn:∀ c∈cs,∀ n∈qg1 c.2,rank n<rank c.1
theorem all_in {cs:Chs}{rank:Str→Nat}{ks:List Str}(dn:∀ c∈cs,∀ n∈qg1 c.2,rank n<rank c.1)(cl:Closed cs)(h:readyOf cs ks=[]):∀ m,∀ c∈cs,rank c.1<m→c.1∈ks:=by
 intro m
 induction m with
 | zero=>intro c _ lt; omega
 | succ m ih =>
  intro c hc lt
  refine Classical.byContradiction fun no=>?_
  have all:∀ n∈qg1 c.2,n∈ks:=fun n hn=>by
   obtain ⟨c',hc',e⟩:=List.mem_map.mp (cl c hc n hn)
   have:=dn c hc n hn
   rw [← e]
   exact ih c' hc' (by rw [e]; omega)
  have rd:rdy ks c=true:=by
   unfold rdy
   rw [decide_eq_false no,decide_eq_true all]
   rfl
  have:c.1∈readyOf cs ks:=List.mem_map_of_mem (List.mem_filter.mpr ⟨hc,rd⟩)
  rw [h] at this
  cases this
def LsOk (cs:Chs)(len:Str→Int)(ls:List (Str×V)):Prop:=(ls.map (·.1)).Nodup∧∀ p∈ls,p.1∈cs.map (·.1)∧p.2=.int (len p.1)
theorem LsOk.le {cs:Chs}{len:Str→Int}{ls:List (Str×V)}(h:LsOk cs len ls):ls.length≤cs.length:=by
 have:=List.Nodup.length_le_of_subset h.1 (l₂:=cs.map (·.1)) fun z hz=>by
  obtain ⟨p,hp,rfl⟩:=List.mem_map.mp hz
  exact (h.2 p hp).1
 rw [List.length_map,List.length_map] at this
 exact this
theorem LsOk.look {cs:Chs}{len:Str→Int}{ls:List (Str×V)}{z:Str}(h:LsOk cs len ls)(hz:z∈ls.map (·.1)):ls.lookup z=some (.int (len z)):=by
 obtain ⟨v,hv,e⟩:=look_yes h.1 hz
 rw [e]
 exact congrArg some (h.2 _ hv).2
theorem LsOk.snoc {cs:Chs}{len:Str→Int}{ls:List (Str×V)}{z:Str}(h:LsOk cs len ls)(hz:z∈cs.map (·.1))(no:z∉ls.map (·.1)):LsOk cs len (ls++[(z,.int (len z))]):=by
 refine ⟨?_,fun p hp=>?_⟩
 ·rw [List.map_append]
  exact nd_snoc h.1 no
 ·rcases List.mem_append.mp hp with hp | hp
  ·exact h.2 p hp
  ·obtain rfl:=List.mem_singleton.mp hp
   exact ⟨hz,rfl⟩
def lenV (len:Str→Int):V→V
 | .str z=>.int (len z)
 | v=>v
theorem lenV_list (len:Str→Int)(zs:List Str):(zs.map V.str).map (lenV len)=(zs.map len).map V.int:=by
 rw [List.map_map,List.map_map]
 rfl
def dsize (H:Hp)(ld:Addr):Nat:=match H ld with
 | some (.dK kvs)=>kvs.length
 | _=>0
theorem dsize_at {H:Hp}{ld:Addr}{ls:List (Str×V)}(h:H ld=some (.dK (Dk ls))):dsize H ld=ls.length:=by
 unfold dsize
 rw [h]
 unfold Dk
 exact List.length_map _
theorem readyOf_nodup {cs:Chs}(nd:(cs.map (·.1)).Nodup)(ks:List Str):(readyOf cs ks).Nodup:=nd.sublist (List.filter_sublist.map _)
theorem readyOf_mem {cs:Chs}{ks:List Str}{z:Str}(h:z∈readyOf cs ks):∃ c∈cs,c.1=z∧z∉ks∧∀ n∈qg1 c.2,n∈ks:=by
 obtain ⟨c,hc,rfl⟩:=List.mem_map.mp h
 obtain ⟨hc,hr⟩:=List.mem_filter.mp hc
 unfold rdy at hr
 rw [Bool.and_eq_true,Bool.not_eq_true',decide_eq_false_iff_not,decide_eq_true_eq] at hr
 exact ⟨c,hc,rfl,hr.1,hr.2⟩
def spLengths (cWo cBa cCa:Addr):Sp:=fun vs H Q _=>∃ (d:Addr) (o:Obj) (ps:List (Str×V)) (cs:Chs) (len:Str→Int) (rank:Str→Nat),vs=[.ref d]∧H d=some (.frz o (.dK (Dk ps)))∧ChsAt cWo cBa cCa H ps cs∧NamesOk cs∧Lens cs len rank ∧
 ∀ ld ls H',H ld=none→Same H H'→H' ld=some (.dK (Dk ls))→LsOk cs len ls→(∀ c∈cs,c.1∈ls.map (·.1))→Q (.ref ld) H'
theorem ok_lengths (F:Fun K "chain_lengths" "chain_lengths" s_chain_lengths f fd)(g_called_names:Fn P w K mg base "called_names" 1 ["rules"] (spCalled cWo cBa cCa))(g_ready_names:Fn P w K mg base "ready_names" 2 ["chains","lengths"] (spReady cWo cBa cCa))(b_len:mg "len"=none)(b_sum:mg "sum"=none) :
  FnOk P w K mg base CX0 3 f fd ["chains"] (spLengths cWo cBa cCa):=by
 refine F.ok sc_chain_lengths (fun vs H Q E h=>?_) (fun cdv A outer s H vs Q E hr h=>?_)
 ·obtain ⟨_,_,_,_,_,_,rfl,_⟩:=h
  rfl
 obtain ⟨d,o,ps,cs,len,rank,rfl,hd,hc,nok,lens,q⟩:=h
 obtain ⟨nd,cl,le,oks⟩:=id nok
 refine ⟨_,(@qb _ _ _ _ _ (ql (i:=1) sc_chain_lengths.nd rfl (Or.inr rfl) pe_dnewK) (@qb _ _ _ _ _ (ql (i:=2) sc_chain_lengths.nd rfl (Or.inl rfl) (qj1 g_ready_names hr (by decide) rfl (qa (pv 0) (qa (pv 1) qd0)))) (@qb _ _ _ _ _ (@ps_while _ _ _ _ _ _ PassesOwn.never (qv (op_neD hr.units) (pv 2) (qi1 qd0) (qa1 _)) (@qb _ _ _ _ _ (@ps_for _ _ _ _ _ _ _ _ PassesOwn.never rfl (qd2 (pv 2)) (qn0 (i:=3) sc_chain_lengths.nd rfl (Or.inl rfl)) (@qb _ _ _ _ _ (ql (i:=4) sc_chain_lengths.nd rfl (Or.inl rfl) (pe_dget (hu_of hr) (pv 0) (pv 3) (fun _ _=>rfl))) (@qf _ _ _ (ps_dput (hu_of hr) (pv 1) (pv 3) (qs0 qf2 (qh1 call_lenR rfl b_len bo_len (qa (pv 4) qd0)) (qh1 (call_sumR (K:=K) rfl rfl) rfl b_sum bo_sum (qa (pe_comp (T:=["called"]) (cap:=[1]) rfl (COk.of (out:=qg s_chain_lengths) (N:=["chains","lengths","ready","name","rules"]) rfl rfl (by decide +kernel)) (qd2 (qj1 g_called_names hr (by decide) rfl (qa (pv 4) qd0))) (fun _ _ _=>(qn0 (i:=0) (show List.Nodup (["called","lengths"]:List Str) by decide +kernel) rfl (Or.inl rfl))) (fun _ _ _=>pifs_nil) (fun _ _ _=>(pe_dget (hu_of hr) (pv 1) (pv 0) (fun _ _=>rfl)))) qd0))) rfl))) (by intro _; rfl)) (@qf _ _ _ (ql (i:=2) sc_chain_lengths.nd rfl (Or.inl rfl) (qj1 g_ready_names hr (by decide) rfl (qa (pv 0) (qa (pv 1) qd0))))))) (@qf _ _ _ (qq0 (pv 1)))))),?_⟩
 rw [st_chain_lengths]
 walk_at "sv"
 intro ld nld
 have s1:=qh nld (.dK [])
 walk_at "sv"
 refine ⟨d,ld,o,ps,[],cs,rfl,s1 _ _ hd,hc.same s1,nok,.inl qe,List.nodup_nil,fun r H2 nr s2 hr2=>?_⟩
 walk_at "sv"
 refine while_go (fun σ H'=>Same H H'∧∃ (ls:List (Str×V)) (r:Addr) (y z:Option V),σ=[some (.ref d),some (.ref ld),some (.ref r),y,z]∧H' ld=some (.dK (Dk ls))∧LsOk cs len ls∧H' r=some (.lst ((readyOf cs (ls.map (·.1))).map V.str))) (fun _ H'=>cs.length - dsize H' ld)
  ⟨s1.trans s2,[],r,none,none,rfl,s2 _ _ qe,⟨List.nodup_nil,fun _ h=>by cases h⟩,hr2⟩ fun σ H3 pv=>?_
 obtain ⟨sm,ls,r,y,z,rfl,hld,lok,hr3⟩:=pv
 have okr:∀ z∈readyOf cs (ls.map (·.1)),PyData.strOk z=true:=fun z hz=>by
  obtain ⟨c,hc,rfl,_⟩:=readyOf_mem hz
  exact oks c hc
 walk_at "sv"
 refine LstR.go (by simp) fun e ne=>?_
 have s4:=qh ne (.lst [])
 refine eqNil_go (s4 _ _ hr3) qe okr ?_
 rw [if_pos rfl]
 have hld4:=s4 _ _ hld
 have sm4:=sm.trans s4
 have hr4:=s4 _ _ hr3
 have ds:dsize H3 ld=ls.length:=dsize_at hld
 rw [ds]
 generalize upd H3 e (.lst [])=H4 at *
 by_cases emp:readyOf cs (ls.map (·.1))=[]
 ·rw [decide_eq_true emp]
  refine ⟨_,rfl,WhR.on (fun c=>by cases c) fun _=>?_⟩
  walk_at "sv"
  exact q ld ls H4 nld sm4 hld4 lok fun c hc=>all_in lens.dn cl emp _ c hc (Nat.lt_succ_self _)
 ·rw [decide_eq_false emp]
  refine ⟨_,rfl,WhR.on (fun _=>?_) fun c=>by cases c⟩
  have lle:=lok.le
  generalize hrs:readyOf cs (ls.map (·.1))=zs at *
  have znd:zs.Nodup:=hrs▸readyOf_nodup nd _
  walk_at "sv"
  refine IlR.go (SqL.of hr4) ?_
  refine ForR.items itl (fun i σ H'=>Same H H'∧∃ (ls':List (Str×V)) (y z:Option V),σ=[some (.ref d),some (.ref ld),some (.ref r),y,z]∧H' ld=some (.dK (Dk ls'))∧LsOk cs len ls'∧ls'.map (·.1)=ls.map (·.1)++zs.take i∧H' r=some (.lst (zs.map V.str)))
   ⟨sm4,ls,y,z,rfl,hld4,lok,by rw [List.take_zero,List.append_nil],hr4⟩ (fun i σ H' pv=>SqL.of (by obtain ⟨_,_,_,_,_,_,_,_,h⟩:=pv; exact h)) (fun i x σ H5 hx pv=>?_) (fun σ H5 pv=>?_)
  ·obtain ⟨sm5,ls',y5,z5,rfl,hld5,lok5,keys,hr5⟩:=pv
   rw [List.getElem?_map] at hx
   obtain ⟨n,en,rfl⟩:=Option.map_eq_some_iff.mp hx
   obtain ⟨c,hcm,rfl,nin,call⟩:=readyOf_mem (show n∈readyOf cs (ls.map (·.1)) from hrs▸List.mem_of_getElem? en)
   obtain ⟨l,rs,lk,hl,ru,nl⟩:=(hc.same sm5).look nd hcm
   have sub:∀ m∈qg1 c.2,m∈ls'.map (·.1):=fun m hm=>by
    rw [keys]
    exact List.mem_append_left _ (call m hm)
   have new:c.1∉ls'.map (·.1):=by
    rw [keys,List.mem_append,not_or]
    exact ⟨nin,nodup_take znd en⟩
   show gName _ _ _ _ _
   walk_at "sv"
   refine dgetR_go (.inr ⟨o,sm5 _ _ hd⟩) lk ?_
   walk_at "sv"
   refine LenR.lst (SqL.of hl) ?_
   walk_at "sv"
   refine ⟨l,rs,c.2,rfl,hl,ru,nl,fun D H6 nD s6 hD=>?_⟩
   refine IlR.go (SqL.of hD) ?_
   have cle:(qg1 c.2).length≤1000:=Nat.le_trans (List.length_filterMap_le _ _) nl
   refine CmpR.mapS (lenV len) itl (by rw [List.length_map]; exact cle) (fun H' s=>SqL.of (s _ _ hD)) (fun x H' Q' hx s7 k=>?_) fun D2 H7 nD2 s7 hD2=>?_
   ·obtain ⟨m,hm,rfl⟩:=List.mem_map.mp hx
    walk_at "sv"
    refine dgetR_go (.inl (s7 _ _ (s6 _ _ hld5))) (lok5.look (sub m hm)) ?_
    exact k H' (Same.refl _)
   ·rw [lenV_list] at hD2
    refine sumR_go (SqL.of hD2) ?_
    walk_at "sv"
    have hld7:=s7 _ _ (s6 _ _ hld5)
    have le5:=lok5.le
    refine dputR_go hld7 (look_no new) (by omega) ?_
    have ev:(rs.length:Int)+((qg1 c.2).map len).sum=len c.1:=by
     rw [lens.eq c hcm,ru.len]
    rw [ev]
    have hr7:=s7 _ _ (s6 _ _ hr5)
    refine ⟨((sm5.trans s6).trans s7).put nld,_,_,_,rfl,qe,lok5.snoc (List.mem_map_of_mem hcm) new,?_,?_⟩
    ·rw [List.map_append,keys,List.take_add_one,en,List.append_assoc]
     rfl
    ·rw [qu0 (ne_of hr7 hld7 (by intro z; cases z))]
     exact hr7
  ·obtain ⟨sm5,ls',y5,z5,rfl,hld5,lok5,keys,hr5⟩:=pv
   rw [List.length_map,List.take_length] at keys
   walk_at "sv"
   refine ⟨d,ld,o,ps,ls',cs,rfl,sm5 _ _ hd,hc.same sm5,nok,.inl hld5,lok5.1,fun r' H6 nr' s6 hr6=>?_⟩
   walk_at "sv"
   refine ⟨⟨sm5.trans s6,ls',r',_,_,rfl,s6 _ _ hld5,lok5,hr6⟩,?_⟩
   rw [dsize_at (s6 _ _ hld5)]
   have le5:=lok5.le
   have l1:=congrArg List.length keys
   rw [List.length_map,List.length_append,List.length_map] at l1
   have pos:0<zs.length:=List.length_pos_iff.mpr emp
   omega
theorem put_three {f g h:Str}(n1:g≠f)(n2:h≠f)(v x y:V):putF f v [(g,x),(h,y)]=[(g,x),(h,y),(f,v)]:=by
 simp only [putF,if_neg n1,if_neg n2]
theorem Rl.fs_ne (p:Addr):∀ r:Rl,r.fs p≠[]
 | .word _=>by intro c; cases c
 | .back=>by intro c; cases c
 | .call _=>by intro c; cases c
theorem told_inj {r r':Rl}{p p':Addr}(h:r.told p=r'.told p')(o:r.ok)(o':r'.ok):r=r'∧p=p':=by
 cases r with
 | word w =>
  cases r' with
  | word w' =>
   simp only [Rl.told,List.cons.injEq,V.str.injEq,V.ref.injEq,and_true] at h
   exact ⟨by rw [h.1],h.2⟩
  | back =>
   simp only [Rl.told,List.cons.injEq,V.str.injEq,V.ref.injEq,and_true] at h
   exact absurd h.1 o.1
  | call n=>simp [Rl.told] at h
 | back =>
  cases r' with
  | word w' =>
   simp only [Rl.told,List.cons.injEq,V.str.injEq,V.ref.injEq,and_true] at h
   exact absurd h.1.symm o'.1
  | back =>
   simp only [Rl.told,List.cons.injEq,V.ref.injEq,and_true,true_and] at h
   exact ⟨rfl,h⟩
  | call n=>simp [Rl.told] at h
 | call n =>
  cases r' with
  | word w'=>simp [Rl.told] at h
  | back=>simp [Rl.told] at h
  | call n' =>
   simp only [Rl.told,List.cons.injEq,V.str.injEq,V.ref.injEq,and_true,true_and] at h
   exact ⟨by rw [h.2],h.1⟩
def RtAt (H:Hp)(v:V)(u:Ru):Prop:=∃ t,v=.ref t∧H t=some (.tup (u.1.told u.2))∧u.1.ok
theorem RtAt.same {H H':Hp}{v:V}{u:Ru}(h:RtAt H v u)(s:Same H H'):RtAt H' v u:=by
 obtain ⟨t,e,h,o⟩:=h
 exact ⟨t,e,s _ _ h,o⟩
def HaAt (H:Hp)(v:V)(c:Str×List Ru):Prop:=∃ t l ts,v=.ref t∧H t=some (.tup [.str c.1,.ref l])∧H l=some (.lst ts)∧All2 (RtAt H) ts c.2∧c.2.length≤1000
theorem HaAt.same {H H':Hp}{v:V}{c:Str×List Ru}(h:HaAt H v c)(s:Same H H'):HaAt H' v c:=by
 obtain ⟨t,l,ts,e,h1,h2,h3,n⟩:=h
 exact ⟨t,l,ts,e,s _ _ h1,s _ _ h2,All2.imp h3 fun _ _ r=>r.same s,n⟩
theorem han_pairs {H:Hp}{hs:List V}{cs:Chs}(h:All2 (HaAt H) hs cs):∃ ps:List (V×V),All2 (fun x (p:V×V)=>∃ t,x=.ref t∧H t=some (.tup [p.1,p.2])) hs ps∧ps.map (·.1)=(cs.map (·.1)).map V.str:=by
 induction h with
 | nil=>exact ⟨[],.nil,rfl⟩
 | @cons v c vs cs h _ ih =>
  obtain ⟨ps,a,e⟩:=ih
  obtain ⟨t,l,ts,e1,h1,_⟩:=h
  exact ⟨(.str c.1,.ref l)::ps,.cons ⟨t,e1,h1⟩ a,by rw [List.map_cons,List.map_cons,List.map_cons,e]⟩
theorem rules_made {H H':Hp}{D:Addr}{ts vs:List V}{us:List Ru}(h:All2 (RtAt H) ts us)(k:All2 (fun x v=>∃ a u,v=.ref a∧a≠D∧RtAt H x u∧IsRule cWo cBa cCa H' a u.1 u.2) ts vs):RusAt cWo cBa cCa H' vs us:=by
 induction h generalizing vs with
 | nil =>
  cases k
  exact .nil
 | cons h _ ih =>
  cases k with
  | cons k1 k2 =>
   obtain ⟨a,u',rfl,_,⟨t,e1,h1,o1⟩,r⟩:=k1
   obtain ⟨t',e2,h2,o2⟩:=h
   rw [e1] at e2
   cases e2
   rw [h1] at h2
   injection h2 with h2
   injection h2 with h2
   obtain ⟨e3,e4⟩:=told_inj h2 o1 o2
   exact .cons ⟨a,rfl,e3▸e4▸r⟩ (ih k2)
variable {cBo:Addr}
def fresh (H H':Hp):Hp:=fun a=>if (H a).isNone=true then H' a else none
theorem fr_at {H H':Hp}{a:Addr}(n:H a=none):fresh H H' a=H' a:=by
 unfold fresh
 rw [n]
 rfl
theorem fr_same {H H':Hp}:Same (fresh H H') H':=fun a o e=>by
 unfold fresh at e
 split at e
 ·exact e
 ·cases e
theorem fr_kp {H H1 H2:Hp}{D:Addr}(kp:∀ a o,a≠D→H1 a=some o→H2 a=some o):∀ a o,a≠D→fresh H H1 a=some o→fresh H H2 a=some o:=fun a o ne e=>by
 unfold fresh at e ⊢
 split at e
 ·rename_i c
  rw [if_pos c]
  exact kp a o ne e
 ·cases e
theorem fr_mono {H H1 H2:Hp}(s:Same H1 H2):Same (fresh H H1) (fresh H H2):=fun a o e=>by
 unfold fresh at e ⊢
 split at e
 ·rename_i c
  rw [if_pos c]
  exact s a o e
 ·cases e
theorem fr_upd {H H':Hp}{a:Addr}{o:HO}(n:H a=none):fresh H (upd H' a o)=upd (fresh H H') a o:=by
 funext x
 by_cases c:x=a
 ·subst c
  rw [fr_at n,qe,qe]
 ·rw [qu0 c]
  unfold fresh
  rw [qu0 c]
theorem del_none {H:Hp}{a b:Addr}(n:H a=none):del H b a=none:=by
 by_cases c:a=b
 ·rw [c]
  exact del_same
 ·rw [del_ne c]
  exact n
def IsBook (cWo cBa cCa cBo:Addr)(H:Hp)(b:Addr)(df:Str)(cs:Chs)(len:Str→Int):Prop:=∃ dx kd o ps ld ls,H b=some (.ins cBo dx [("default",.str df),("chains",.ref kd),("lengths",.ref ld)])∧H kd=some (.frz o (.dK (Dk ps)))∧ChsAt cWo cBa cCa H ps cs∧H ld=some (.dK (Dk ls))∧∀ c∈cs,ls.lookup c.1=some (.int (len c.1))
theorem IsBook.same {H H':Hp}{b:Addr}{df:Str}{cs:Chs}{len:Str→Int}(h:IsBook cWo cBa cCa cBo H b df cs len)(s:Same H H'):IsBook cWo cBa cCa cBo H' b df cs len:=by
 obtain ⟨dx,kd,o,ps,ld,ls,h1,h2,h3,h4,h5⟩:=h
 exact ⟨dx,kd,o,ps,ld,ls,s _ _ h1,s _ _ h2,h3.same s,s _ _ h4,h5⟩
structure TxB (K:PySem.W.Frag)(cRu cWo cBa cCa cBo:Addr):Prop extends Txt K cRu cWo cBa cCa where
 pg_Book:PySem.W.plainGet K cBo Str.empty=true
 hd_Book:PySem.W.hasDictIn K cBo=true
 po_Book:PySem.W.plainOver K cBo=true
 sa_Book:PySem.W.findIn K (.ref cBo) "__setattr__"=some (some (.builtin "object.__setattr__"))
 mk_Book:PySem.W.makesIn K cBo=true
 kp_Book:PySem.W.keepIn K (.ref cBo)=true
 n_default:PySem.W.findIn K (.ref cBo) "default"=some none
 n_chains:PySem.W.findIn K (.ref cBo) "chains"=some none
 n_lengths:PySem.W.findIn K (.ref cBo) "lengths"=some none
theorem TxB.cls (T:TxB K cRu cWo cBa cCa cBo):Cls K cBo:=⟨T.pg_Book,T.hd_Book,T.po_Book,T.sa_Book⟩
def spBook (cWo cBa cCa cBo:Addr):Sp:=fun vs H Q _=>∃ (b dx hl:Addr) (df:Str) (hs:List V) (cs:Chs) (len:Str→Int) (rank:Str→Nat),vs=[.ref b,.str df,.ref hl]∧H b=some (.ins cBo dx [])∧H hl=some (.lst hs)∧All2 (HaAt H) hs cs∧NamesOk cs∧Lens cs len rank ∧
 ("main":Str)∈cs.map (·.1)∧len "main"≤120∧∀ H',(∀ a o,a≠b→H a=some o→H' a=some o)→IsBook cWo cBa cCa cBo (fresh (del H b) H') b df cs len→Q .non H'
theorem ok_Book_init (F:Fun K "__init__" "Book.__init__" s_Book___init__ f fd)(g_refuse_two_chains:Fn P w K mg base "refuse_two_chains" 1 ["names"] spTwo)(g_refuse_missing_chains:Fn P w K mg base "refuse_missing_chains" 2 ["chains"] (spMissing cWo cBa cCa))(g_chain_lengths:Fn P w K mg base "chain_lengths" 3 ["chains"] (spLengths cWo cBa cCa))(g_rule_of:Fn P w K mg base "rule_of" 4 ["told"] (spRuleOf cWo cBa cCa))
  (c_MAIN:∃ u,mg "MAIN"=some u∧RelV (.str "main") u) (c_MOST_LENGTH:∃ u,mg "MOST_LENGTH"=some u∧RelV (.int 120) u) (b_len:mg "len"=none) (T:TxB K cRu cWo cBa cCa cBo):FnOk P w K mg base CX0 5 f fd ["self","default","chains"] (spBook cWo cBa cCa cBo):=by
 refine F.ok sc_Book___init__ (fun vs H Q E h=>?_) (fun cdv A outer s H vs Q E hr h=>?_)
 ·obtain ⟨_,_,_,_,_,_,_,_,rfl,_⟩:=h
  rfl
 obtain ⟨b,dx,hl,df,hs,cs,len,rank,rfl,hb,hhl,hh,nok,lens,hmain,top,q⟩:=h
 obtain ⟨_,m_MAIN,r_MAIN⟩:=c_MAIN
 obtain ⟨_,m_MOST_LENGTH,r_MOST_LENGTH⟩:=c_MOST_LENGTH
 obtain ⟨nd,cl,le,oks⟩:=id nok
 have hlen:=All2.len hh
 refine ⟨_,(@qb _ _ _ _ _ (qw1 (qj1 g_refuse_two_chains hr (by decide) rfl (qa (pe_comp (T:=["name","rules"]) (cap:=[]) rfl (COk.of (out:=qg s_Book___init__) (N:=["self","default","chains","kept","name","rules","lengths"]) rfl rfl (by decide +kernel)) (qd2 (pv 2)) (fun _ _ _=>(pg_tupK (K:=K) (n:=2) rfl rfl (qb1 (qn0 (i:=0) (show List.Nodup (["name","rules"]:List Str) by decide +kernel) rfl (Or.inl rfl)) (qb1 (qn0 (i:=1) (show List.Nodup (["name","rules"]:List Str) by decide +kernel) rfl (Or.inl rfl)) pgs_nil)))) (fun _ _ _=>pifs_nil) (fun _ _ _=>(pv 0))) qd0))) (@qb _ _ _ _ _ (ql (i:=3) sc_Book___init__.nd rfl (Or.inl rfl) pe_dnewK) (@qb _ _ _ _ _ (@ps_for _ _ _ _ _ _ _ _ PassesOwn.never rfl (qd2 (pv 2)) (pg_tup rfl (qb1 (qn0 (i:=4) sc_Book___init__.nd rfl (Or.inl rfl)) (qb1 (qn0 (i:=5) sc_Book___init__.nd rfl (Or.inl rfl)) pgs_nil))) (@qf _ _ _ (ps_dput (hu_of hr) (pv 3) (pv 4) (pe_comp (T:=["told"]) (cap:=[]) rfl (COk.of (out:=qg s_Book___init__) (N:=["self","default","chains","kept","name","rules","lengths"]) rfl rfl (by decide +kernel)) (qd2 (pv 5)) (fun _ _ _=>(qn0 (i:=0) (show List.Nodup (["told"]:List Str) by decide +kernel) rfl (Or.inl rfl))) (fun _ _ _=>pifs_nil) (fun _ _ _=>(qj1 g_rule_of hr (by decide) rfl (qa (pv 0) qd0)))) rfl)) (by intro _; rfl)) (@qb _ _ _ _ _ (qw1 (qj1 g_refuse_missing_chains hr (by decide) rfl (qa (pv 3) qd0))) (@qb _ _ _ _ _ (ql (i:=6) sc_Book___init__.nd rfl (Or.inl rfl) (qj1 g_chain_lengths hr (by decide) rfl (qa (pv 3) qd0))) (@qb _ _ _ _ _ (@qo1 _ _ _ _ _ _ _ _ (qv op_lt (qh1 call_lenDR rfl b_len bo_len (qa (pv 6) qd0)) (qh1 call_lenDR rfl b_len bo_len (qa (pv 3) qd0)) (qa1 _)) (@qf _ _ _ ps_never) qw) (@qb _ _ _ _ _ (@qo1 _ _ _ _ _ _ _ _ (qv op_gt (pe_dget (hu_of hr) (pv 6) (pe_glob rfl m_MAIN r_MAIN) (fun _ _=>rfl)) (pe_glob rfl m_MOST_LENGTH r_MOST_LENGTH) (qa1 _)) (@qf _ _ _ ps_never) qw) (@qb _ _ _ _ _ (qa2 (pv 0) (pv 1) rfl) (@qb _ _ _ _ _ (qa2 (pv 0) (pv 3) rfl) (@qf _ _ _ (qa2 (pv 0) (pv 6) rfl))))))))))),?_⟩
 rw [st_Book___init__]
 walk_at "sv"
 refine IlR.go (SqL.of hhl) ?_
 obtain ⟨pps,tt,pe⟩:=han_pairs hh
 refine CmpR.tups (·.1) itl tt (by omega) (fun H' s=>SqL.of (s _ _ hhl)) (fun p H' Q' hp sm k=>?_) fun D H1 nD s1 hD=>?_
 ·walk_at "sv"
  exact k H' (Same.refl _)
 rw [pe] at hD
 refine ⟨D,_,rfl,hD,nd,fun H2 s2=>?_⟩
 walk_at "sv"
 intro kd nkd
 have s12:=s1.trans s2
 have s3:=qh nkd (.dK [])
 walk_at "sv"
 refine IlR.go (SqL.of (s3 _ _ (s12 _ _ hhl))) ?_
 refine ForR.items itl (fun i σ H'=>Same H H'∧∃ (ps:List (Str×V)) (y z:Option V),σ=[some (.ref b),some (.str df),some (.ref hl),some (.ref kd),y,z,none]∧H' kd=some (.dK (Dk ps))∧ChsAt cWo cBa cCa (fresh (del H b) H') ps (cs.take i))
  ⟨s12.trans s3,[],_,_,rfl,qe,.nil⟩ (fun i σ H' pv=>SqL.of (pv.1 _ _ hhl)) (fun i x σ H4 hx pv=>?_) (fun σ H4 pv=>?_)
 ·obtain ⟨sm,ps,y4,z4,rfl,hkd,hc4⟩:=pv
  obtain ⟨c,ec,t,l,ts,rfl,ht,hl4,hts,nts⟩:=hh.at hx
  have lt:i<cs.length:=(List.getElem?_eq_some_iff.mp ec).1
  refine gtup2 (SqT.of (sm _ _ ht)) ?_
  walk_at "sv"
  refine IlR.go (SqL.of (sm _ _ hl4)) ?_
  refine CmpR.rel (fun D H' x v=>∃ a u,v=.ref a∧a≠D∧RtAt H x u∧IsRule cWo cBa cCa (fresh (del H b) H') a u.1 u.2) (fun D H' H'' x v kp r=>?_) itl (by rw [All2.len hts]; exact nts) (fun H' s=>SqL.of (s _ _ (sm _ _ hl4))) (fun D x H' ys Q' hx nD s5 hD k=>?_) fun D H5 vs nD s5 hD al=>?_
  ·obtain ⟨a,u,e,ne,rt,dx',ir⟩:=r
   exact ⟨a,u,e,ne,rt,dx',fr_kp kp _ _ ne ir⟩
  ·obtain ⟨j,hj⟩:=List.getElem?_of_mem hx
   obtain ⟨u,_,rt⟩:=hts.at hj
   obtain ⟨t',rfl,ht',ok'⟩:=id rt
   walk_at "sv"
   refine ⟨t',u.2,u.1,rfl,s5 _ _ (sm _ _ ht'),ok',fun a H6 na s6 ir=>k _ H6 s6 ⟨a,u,rfl,fun e=>?_,rt,?_⟩⟩
   ·rw [e,hD] at na
    cases na
   ·obtain ⟨dx',ir⟩:=ir
    exact ⟨dx',by rw [fr_at (del_none (sm.free (s5.free na)))]; exact ir⟩
  ·have ru:=rules_made hts al
   have hkd5:=s5 _ _ hkd
   have hc5:=hc4.same (fr_mono s5)
   have nd5:del H b kd=none:=del_none (s12.free nkd)
   have hkf:fresh (del H b) H5 kd=some (.dK (Dk ps)):=by rw [fr_at nd5]; exact hkd5
   have ek:ps.map (·.1)=(cs.take i).map (·.1):=hc4.keys
   have new:c.1∉ps.map (·.1):=by
    rw [ek,List.map_take]
    exact nodup_take nd (by rw [List.getElem?_map,ec]; rfl)
   have pl:ps.length≤i:=by
    have:=congrArg List.length ek
    rw [List.length_map,List.length_map,List.length_take] at this
    omega
   walk_at "sv"
   refine dputR_go hkd5 (look_no new) (by omega) ?_
   refine ⟨(sm.trans s5).put (s12.free nkd),_,_,_,rfl,qe,?_⟩
   rw [List.take_add_one,ec]
   rw [fr_upd nd5]
   refine (All2.imp hc5 fun _ _ r=>r.upd hkf).snoc ?_
   exact ChAt.upd ⟨rfl,nts,D,vs,rfl,by rw [fr_at (del_none (sm.free nD))]; exact hD,ru⟩ hkf
 ·obtain ⟨sm,ps,y4,z4,rfl,hkd,hc4⟩:=pv
  have hc4':ChsAt cWo cBa cCa (fresh (del H b) H4) ps cs:=by
   rw [hlen,List.take_length] at hc4
   exact hc4
  walk_at "sv"
  have nd5:del H b kd=none:=del_none (s12.free nkd)
  have hkf:fresh (del H b) H4 kd=some (.dK (Dk ps)):=by rw [fr_at nd5]; exact hkd
  refine ⟨kd,ps,cs,rfl,hkd,hc4'.same fr_same,nd,cl,fun o H5 s5=>?_⟩
  have sm5:Same H H5:=(sm.put (s12.free nkd)).trans s5
  have hkd5:H5 kd=some (.frz o (.dK (Dk ps))):=s5 _ _ qe
  have hc5':ChsAt cWo cBa cCa (fresh (del H b) (upd H4 kd (.frz o (.dK (Dk ps))))) ps cs:=by
   rw [fr_upd nd5]
   exact All2.imp hc4' fun _ _ r=>r.upd hkf
  have hc5:=hc5'.same (fr_mono s5)
  walk_at "sv"
  refine ⟨kd,o,ps,cs,len,rank,rfl,hkd5,hc5.same fr_same,nok,lens,fun ld ls H6 nld s6 hld lok al=>?_⟩
  have e1:ls.length=cs.length:=by
   refine Nat.le_antisymm lok.le ?_
   have:=List.Nodup.length_le_of_subset nd (l₂:=ls.map (·.1)) fun z hz=>by
    obtain ⟨c,hc,rfl⟩:=List.mem_map.mp hz
    exact al c hc
   rw [List.length_map,List.length_map] at this
   exact this
  have e2:ps.length=cs.length:=All2.len hc5
  have lkm:ls.lookup ("main":Str)=some (.int (len "main")):=by
   obtain ⟨c,hc,e⟩:=List.mem_map.mp hmain
   exact lok.look (e▸al c hc)
  walk_at "sv"
  refine lenDR_go (.inl hld) ?_
  walk_at "sv"
  refine lenDR_go (.inr ⟨o,s6 _ _ hkd5⟩) ?_
  walk_at "sv"
  rw [decide_eq_false (by omega)]
  walk_at "sv"
  refine dgetR_go (.inl hld) lkm ?_
  walk_at "sv"
  rw [decide_eq_false (by omega)]
  walk_at "sv"
  have hb6:=s6 _ _ (sm5 _ _ hb)
  have hkd6:=s6 _ _ hkd5
  have nek:kd≠b:=fun e=>by
   rw [e,hb6] at hkd6
   cases hkd6
  refine SFldR.go hb6 T.cls T.n_default (by simp) ?_
  rw [put_new]
  walk_at "sv"
  refine SFldR.go qe T.cls T.n_chains (by simp) ?_
  rw [put_two (by decide),upd_upd]
  walk_at "sv"
  have hld8:ld≠b:=fun e=>by
   rw [e,hb6] at hld
   cases hld
  refine SFldR.go qe T.cls T.n_lengths (by simp) ?_
  rw [put_three (by decide) (by decide),upd_upd]
  have kp0:∀ o',∀ a x,a≠b→H6 a=some x→upd H6 b o' a=some x:=fun o' a x ne e=>by
   rw [qu0 ne]
   exact e
  refine q _ (fun a x ne e=>kp0 _ a x ne (s6 _ _ (sm5 _ _ e))) ?_
  rw [fr_upd del_same]
  have hbf:fresh (del H b) H6 b=some (.ins cBo dx []):=by rw [fr_at del_same]; exact hb6
  have hcf:=hc5.same (fr_mono s6)
  have hkf6:fresh (del H b) H6 kd=some (.frz o (.dK (Dk ps))):=by rw [fr_at nd5]; exact hkd6
  have hlf6:fresh (del H b) H6 ld=some (.dK (Dk ls)):=by rw [fr_at (del_none (sm5.free nld))]; exact hld
  generalize fresh (del H b) H6=Hf at *
  have kp:∀ o',∀ a x,a≠b→Hf a=some x→upd Hf b o' a=some x:=fun o' a x ne e=>by
   rw [qu0 ne]
   exact e
  refine ⟨dx,kd,o,ps,ld,ls,qe,kp _ _ _ nek hkf6,All2.imp hcf fun p c h=>?_,kp _ _ _ hld8 hlf6,fun c hc=>lok.look (al c hc)⟩
  obtain ⟨e,n,l,rs,e2,hl,r⟩:=h
  refine ⟨e,n,l,rs,e2,kp _ _ _ (ne_of hl hbf (by intro z; cases z)) hl,All2.imp r fun v u ru=>?_⟩
  obtain ⟨a,ea,dx',ha⟩:=ru
  refine ⟨a,ea,dx',kp _ _ _ (fun e=>?_) ha⟩
  rw [e,hbf] at ha
  injection ha with ha
  injection ha with h1 h2 h3
  exact Rl.fs_ne u.2 u.1 h3.symm
section
variable {H:Hp}{b ld:Addr}{df:Str}{cs:Chs}
theorem bk_default (kd:Addr):[(("default":Str),V.str df),("chains",V.ref kd),("lengths",V.ref ld)].lookup ("default":Str)=some (.str df):=rfl
theorem bk_chains (kd:Addr):[(("default":Str),V.str df),("chains",V.ref kd),("lengths",V.ref ld)].lookup ("chains":Str)=some (.ref kd):=by
 rw [List.lookup_cons,beq_eq_false_iff_ne.mpr (by decide)]
 exact look_one _ _ _
end
theorem bk_no {df:Str}{kd ld:Addr}{m:Str}(h1:m≠"default")(h2:m≠"chains")(h3:m≠"lengths"):[(("default":Str),V.str df),("chains",V.ref kd),("lengths",V.ref ld)].lookup m=none:=by
 rw [List.lookup_cons,beq_eq_false_iff_ne.mpr h1,List.lookup_cons,beq_eq_false_iff_ne.mpr h2,List.lookup_cons,beq_eq_false_iff_ne.mpr h3]
 rfl
end
section
variable {cRu cWo cBa cCa cBo:Addr}
theorem fs_inj {r r':Rl}{p p':Addr}(h:r.fs p=r'.fs p'):r=r'∧p=p':=by
 have n1:¬ ("word":Str)="name":=by decide
 have n2:¬ ("name":Str)="word":=by decide
 cases r <;> cases r' <;> simp only [Rl.fs,List.cons.injEq,Prod.mk.injEq,V.str.injEq,V.ref.injEq,and_true,true_and,reduceCtorEq,and_false,n1,n2,false_and] at h
 ·exact ⟨by rw [h.2],h.1⟩
 ·exact ⟨rfl,h⟩
 ·exact ⟨by rw [h.2],h.1⟩
theorem RuAt.inj {H:Hp}{v:V}{u u':Ru}(h:RuAt cWo cBa cCa H v u)(h':RuAt cWo cBa cCa H v u'):u=u':=by
 obtain ⟨a,rfl,dx,h⟩:=h
 obtain ⟨a',e,dx',h'⟩:=h'
 cases e
 rw [h] at h'
 injection h' with h'
 injection h' with _ _ h'
 obtain ⟨e1,e2⟩:=fs_inj h'
 exact Prod.ext e1 e2
def ToAt (l D:Addr)(H:Hp)(v:V)(u:Ru):Prop:=∃ t,v=.ref t∧t≠l∧t≠D∧H t=some (.tup (u.1.told u.2))
def TcAt (D:Addr)(H:Hp)(v:V)(x:(Str×List Ru)×Addr):Prop:=∃ t ts,v=.ref t∧t≠D∧x.2≠D∧H t=some (.tup [.str x.1.1,.ref x.2])∧H x.2=some (.lst ts)∧All2 (ToAt x.2 D H) ts x.1.2
theorem TcAt.same {D:Addr}{H H':Hp}{v:V}{x:(Str×List Ru)×Addr}(h:TcAt D H v x)(s:Same H H'):TcAt D H' v x:=by
 obtain ⟨t,ts,e,n1,n2,h1,h2,h3⟩:=h
 refine ⟨t,ts,e,n1,n2,s _ _ h1,s _ _ h2,All2.imp h3 fun v u h=>?_⟩
 obtain ⟨t',e',n3,n4,h4⟩:=h
 exact ⟨t',e',n3,n4,s _ _ h4⟩
theorem told_all {H H' H'':Hp}{l D:Addr}{rs ts:List V}{us:List Ru}(h:RusAt cWo cBa cCa H rs us)(k:All2 (fun x v=>∃ t u,v=V.ref t∧t≠l∧t≠D∧RuAt cWo cBa cCa H x u∧H' t=some (.tup (u.1.told u.2))) rs ts)(g:∀ t x,t≠l→t≠D→H' t=some x→t≠l∧t≠D∧H'' t=some x):All2 (ToAt l D H'') ts us:=by
 unfold RusAt at h
 induction h generalizing ts with
 | nil =>
  cases k
  exact .nil
 | cons h _ ih =>
  cases k with
  | cons k1 k2 =>
   obtain ⟨t,u,e,n1,n2,r,ht⟩:=k1
   obtain rfl:=r.inj h
   exact .cons ⟨t,e,g _ _ n1 n2 ht⟩ (ih k2)
def spBTold (cWo cBa cCa cBo:Addr):Sp:=fun vs H Q _=>∃ (b:Addr) (df:Str) (cs:Chs) (len:Str→Int),vs=[.ref b]∧IsBook cWo cBa cCa cBo H b df cs len∧(cs.map (·.1)).Nodup∧cs.length≤900 ∧
 ∀ t D vs ls H',H t=none→H D=none→Same H H'→H' t=some (.tup [.str df,.ref D])→H' D=some (.lst vs)→All2 (TcAt D H') vs (cs.zip ls)→ls.length=cs.length→ls.Nodup→(∀ l∈ls,H l=none)→Q (.ref t) H'
theorem ok_Book_told (F:Fun K "told" "Book.told" s_Book_told f fd)(gm_Word_told:FnM P w K mg base cWo "told" 1 ["self"] (spTold cWo isWord))(gm_Back_told:FnM P w K mg base cBa "told" 1 ["self"] (spTold cBa isBack))(gm_Call_told:FnM P w K mg base cCa "told" 1 ["self"] (spTold cCa isCall))(T:TxB K cRu cWo cBa cCa cBo):FnOk P w K mg base CX0 2 f fd ["self"] (spBTold cWo cBa cCa cBo):=by
 refine F.ok sc_Book_told (fun vs H Q E h=>?_) (fun cdv A outer s H vs Q E hr h=>?_)
 ·obtain ⟨_,_,_,_,rfl,_⟩:=h
  rfl
 obtain ⟨b,df,cs,len,rfl,⟨dx,kd,o,ps,ld,ls,hb,hkd,hc,hld,lks⟩,nd,le,q⟩:=h
 refine ⟨_,(@qb _ _ _ _ _ (ql (i:=1) sc_Book_told.nd rfl (Or.inl rfl) (qi1 qd0)) (@qb _ _ _ _ _ (@ps_for _ _ _ _ _ _ _ _ PassesOwn.never rfl (pi_dict (qx0 (pv 0) rfl)) (qn0 (i:=2) sc_Book_told.nd rfl (Or.inl rfl)) (@qf _ _ _ (qw1 (pe_bm PySem.F.plainAttrs_list PySem.F.slot_list_append PySem.F.type_list_append mt_append (pv 1) (qa (qo (qa (pv 2) (qa (pe_comp (T:=["rule"]) (cap:=[]) rfl (COk.of (out:=qg s_Book_told) (N:=["self","chains","name"]) rfl rfl (by decide +kernel)) (qd2 (pe_dget (hu_of hr) (qx0 (pv 0) rfl) (pv 2) (fun _ _=>rfl))) (fun _ _ _=>(qn0 (i:=0) (show List.Nodup (["rule"]:List Str) by decide +kernel) rfl (Or.inl rfl))) (fun _ _ _=>pifs_nil) (fun _ _ _=>(pe_methA0K (P:=P) (w:=w) (K:=K) (mg:=mg) (base:=base) ⟨rfl,rfl,rfl,rfl,rfl⟩ (pv 0) hr))) qd0))) qd0)))) (by intro _; rfl)) (@qf _ _ _ (qq0 (qo (qa (qx0 (pv 0) rfl) (qa (pv 1) qd0))))))),?_⟩
 rw [st_Book_told]
 walk_at "sv"
 refine LstR.go (by simp) fun D nD=>?_
 have s1:=qh nD (.lst [])
 walk_at "sv"
 refine FldR.go (s1 _ _ hb) T.cls T.n_chains (bk_chains kd) ?_
 refine ⟨kd,_,rfl,.inl ⟨o,s1 _ _ hkd,?_⟩⟩
 refine ForR.items itd (fun i σ H'=>Same H H'∧∃ vs y ls,σ=[some (.ref b),some (.ref D),y]∧H' D=some (.lst vs)∧All2 (TcAt D H') vs ((cs.take i).zip ls)∧ls.length=(cs.take i).length∧ls.Nodup∧∀ l∈ls,H l=none∧H' l≠none) ⟨s1,[],_,[],rfl,qe,.nil,rfl,List.nodup_nil,fun l h=>by cases h⟩ (fun i σ H' pv=>pv.1 _ _ hkd) (fun i x σ H3 hx pv=>?_) (fun σ H3 pv=>?_)
 ·obtain ⟨sm,vs,y,ls,rfl,hD,al,lle,lnd,lfr⟩:=pv
  rw [Dk_keys,hc.keys,List.map_map,List.getElem?_map] at hx
  obtain ⟨c,ec,rfl⟩:=Option.map_eq_some_iff.mp hx
  have mem:=List.mem_of_getElem? ec
  obtain ⟨l,rs,lk,hl,ru,n⟩:=(hc.same sm).look nd mem
  have lt:i<cs.length:=(List.getElem?_eq_some_iff.mp ec).1
  have vl:vs.length≤i:=by
   rw [All2.len al,List.length_zip,List.length_take]
   omega
  show gName _ _ _ _ _
  walk_at "sv"
  refine ⟨.inl ⟨rfl,_,SqL.of hD⟩,?_⟩
  walk_at "sv"
  refine FldR.go (sm _ _ hb) T.cls T.n_chains (bk_chains kd) ?_
  refine dgetR_go (.inr ⟨o,sm _ _ hkd⟩) lk ?_
  refine IlR.go (SqL.of hl) ?_
  refine CmpR.rel (fun D' H' x v=>∃ t u,v=.ref t∧t≠D'∧t≠D∧RuAt cWo cBa cCa H3 x u∧H' t=some (.tup (u.1.told u.2))) (fun D' H' H'' x v kp r=>?_) itl (by rw [All2.len ru]; exact n) (fun H' s=>SqL.of (s _ _ hl)) (fun D' x H' ys Q' hx nD' s5 hD' k=>?_) fun D' H5 ts nD' s5 hD' al'=>?_
  ·obtain ⟨t,u,e,n1,n2,rt,ht⟩:=r
   exact ⟨t,u,e,n1,n2,rt,kp _ _ n1 ht⟩
  ·obtain ⟨j,hj⟩:=List.getElem?_of_mem hx
   obtain ⟨u,_,rt⟩:=All2.at ru hj
   obtain ⟨a,rfl,dx',ha⟩:=id rt
   obtain ⟨r,p⟩:=u
   have ha5:=s5 _ _ ha
   have lt':(r.fs p).lookup ("told":Str)=none:=Rl.none (by decide) (by decide) (by decide) p r
   have fin:∀ t H6,H' t=none→Same H' H6→H6 t=some (.tup (r.told p))→Q' (.ref t) H6:=fun t H6 nt s6 ht=>by
    refine k _ H6 s6 ⟨t,(r,p),rfl,fun e=>?_,fun e=>?_,rt,ht⟩
    ·rw [e,hD'] at nt
     cases nt
    ·rw [e,s5 _ _ hD] at nt
     cases nt
   walk_at "sv"
   cases r with
   | word z=>exact MethR.go gm_Word_told ha5 T.cls_Word lt' (by decide) ⟨a,p,dx',.word z,rfl,ha5,⟨z,rfl⟩,fin⟩
   | back=>exact MethR.go gm_Back_told ha5 T.cls_Back lt' (by decide) ⟨a,p,dx',.back,rfl,ha5,rfl,fin⟩
   | call z=>exact MethR.go gm_Call_told ha5 T.cls_Call lt' (by decide) ⟨a,p,dx',.call z,rfl,ha5,⟨z,rfl⟩,fin⟩
  ·have neD:D'≠D:=fun e=>by
    rw [e,hD] at nD'
    cases nD'
   walk_at "sv"
   refine TupR.go (by simp) fun t nt=>?_
   have s6:=qh nt (.tup [.str c.1,.ref D'])
   have hD6:=s6 _ _ (s5 _ _ hD)
   have net:t≠D:=fun e=>by
    rw [e,s5 _ _ hD] at nt
    cases nt
   refine app_go hD6 (by omega) ?_
   walk_at "sv"
   have kp:∀ o',∀ a x,a≠D→upd H5 t (.tup [.str c.1,.ref D']) a=some x→upd (upd H5 t (.tup [.str c.1,.ref D'])) D o' a=some x:=fun o' a x ne e=>by
    rw [qu0 ne]
    exact e
   have nls:D'∉ls:=fun hm=>(lfr D' hm).2 nD'
   have hD'6:=s6 _ _ hD'
   refine ⟨((sm.trans s5).trans s6).put nD,_,_,ls++[D'],rfl,qe,?_,?_,nd_snoc lnd nls,fun l hl=>?_⟩
   ·rw [List.take_add_one,ec,Option.toList_some,List.zip_append lle.symm]
    refine All2.snoc (All2.imp al fun v c' h=>?_) ?_
    ·obtain ⟨t',ts',e,n1,n2,h1,h2,h3⟩:=h
     refine ⟨t',ts',e,n1,n2,kp _ _ _ n1 (s6 _ _ (s5 _ _ h1)),kp _ _ _ n2 (s6 _ _ (s5 _ _ h2)),All2.imp h3 fun v u h=>?_⟩
     obtain ⟨t'',e',n3,n4,h4⟩:=h
     exact ⟨t'',e',n3,n4,kp _ _ _ n4 (s6 _ _ (s5 _ _ h4))⟩
    ·refine ⟨t,ts,rfl,net,neD,kp _ _ _ net qe,kp _ _ _ neD hD'6,told_all ru al' fun t' x n1 n2 h=>⟨n1,n2,kp _ _ _ n2 (s6 _ _ h)⟩⟩
   ·rw [List.take_add_one,ec,Option.toList_some,List.length_append,List.length_append,lle]
    rfl
   ·rcases List.mem_append.mp hl with h | h
    ·refine ⟨(lfr l h).1,fun e=>?_⟩
     cases hx:H3 l with
     | none=>exact (lfr l h).2 hx
     | some o =>
      by_cases c:l=D
      ·rw [c,qe] at e
       cases e
      ·have z:=(kp _ _ _ c (s6 _ _ (s5 _ _ hx))).symm.trans e
       cases z
    ·obtain rfl:=List.mem_singleton.mp h
     refine ⟨sm.free nD',fun e=>?_⟩
     have z:=(kp _ _ _ neD hD'6).symm.trans e
     cases z
 ·obtain ⟨sm,vs,y,ls,rfl,hD,al,lle,lnd,lfr⟩:=pv
  have e:(Dk ps).length=cs.length:=by
   unfold Dk
   rw [List.length_map]
   exact All2.len hc
  rw [List.length_map,e,List.take_length] at al lle
  walk_at "sv"
  refine FldR.go (sm _ _ hb) T.cls T.n_default (bk_default kd) ?_
  walk_at "sv"
  refine TupR.go (by simp) fun t nt=>?_
  have s6:=qh nt (.tup [.str df,.ref D])
  exact q t D vs ls _ (sm.free nt) nD (sm.trans s6) qe (s6 _ _ hD) (All2.imp al fun v c h=>h.same s6) lle lnd fun l h=>(lfr l h).1
end
--CUT--
section
variable {cRu cWo cBa cCa cBo:Addr}
def spRuleAt (cWo cBa cCa cBo:Addr):Sp:=fun vs H Q _=>∃ (b:Addr) (df:Str) (cs:Chs) (len:Str→Int) (c:Str×List Ru) (i:Nat),vs=[.ref b,.str c.1,.int (i:Int)]∧IsBook cWo cBa cCa cBo H b df cs len∧(cs.map (·.1)).Nodup∧c∈cs∧(c.2[i]?=none→Q .non H)∧∀ u a,c.2[i]?=some u→IsRule cWo cBa cCa H a u.1 u.2→Q (.ref a) H
theorem ok_Book_rule_at (F:Fun K "rule_at" "Book.rule_at" s_Book_rule_at f fd)(b_len:mg "len"=none)(T:TxB K cRu cWo cBa cCa cBo):FnOk P w K mg base CX0 1 f fd ["self","name","index"] (spRuleAt cWo cBa cCa cBo):=by
 refine F.ok sc_Book_rule_at (fun vs H Q E h=>?_) (fun cdv A outer s H vs Q E hr h=>?_)
 ·obtain ⟨_,_,_,_,_,_,rfl,_⟩:=h
  rfl
 obtain ⟨b,df,cs,len,c,i,rfl,⟨dx,kd,o,ps,ld,ls,hb,hkd,hc,hld,lks⟩,nd,mem,q1,q2⟩:=h
 obtain ⟨l,rs,lk,hl,ru,n⟩:=hc.look nd mem
 refine ⟨_,(@qb _ _ _ _ _ (ql (i:=3) sc_Book_rule_at.nd rfl (Or.inl rfl) (pe_dget (hu_of hr) (qx0 (pv 0) rfl) (pv 1) (fun _ _=>rfl))) (@qf _ _ _ (qq0 (pe_ifExp (qv op_lt (pv 2) (qh1 call_lenR rfl b_len bo_len (qa (pv 3) qd0)) (qa1 _)) (qi qp (pv 3) (pv 2) (fun _ _=>rfl)) pe_non)))),?_⟩
 rw [st_Book_rule_at]
 walk_at "sv"
 refine FldR.go hb T.cls T.n_chains (bk_chains kd) ?_
 refine dgetR_go (.inr ⟨o,hkd⟩) lk ?_
 walk_at "sv"
 refine LenR.lst (SqL.of hl) ?_
 walk_at "sv"
 have e:=All2.len ru
 refine IfR.dec (fun lt=>?_) (fun ge=>?_)
 ·have li:i<c.2.length:=by omega
  obtain ⟨v,hv,a,rfl,ir⟩:=All2.ix ru (List.getElem?_eq_getElem li)
  walk_at "sv"
  exact qe1 (SqL.of hl) hv (q2 _ a (List.getElem?_eq_getElem li) ir)
 ·walk_at "sv"
  exact q1 (List.getElem?_eq_none (by omega))
def chOf (cs:Chs)(z:Str):List Ru:=(cs.lookup z).getD []
theorem chOf_at {cs:Chs}{c:Str×List Ru}(nd:(cs.map (·.1)).Nodup)(h:c∈cs):chOf cs c.1=c.2:=by
 unfold chOf
 induction cs with
 | nil=>cases h
 | cons q r ih =>
  rw [List.map_cons,List.nodup_cons] at nd
  rw [List.lookup_cons]
  rcases List.mem_cons.mp h with rfl | h
  ·rw [beq_self_eq_true]
   rfl
  ·have ne:c.1≠q.1:=fun e=>nd.1 (e▸List.mem_map_of_mem h)
   rw [beq_eq_false_iff_ne.mpr ne]
   exact ih nd.2 h
def wt (ln:Str→Nat)(us:List Ru):Nat:=us.length+((qg1 us).map ln).sum
theorem wt_cons (ln:Str→Nat)(u:Ru)(us:List Ru):wt ln (u::us)=1+((callOf u).map ln).getD 0+wt ln us:=by
 unfold wt qg1
 rw [List.filterMap_cons,List.length_cons]
 cases callOf u with
 | none=>simp only [Option.map_none,Option.getD_none]; omega
 | some n=>simp only [Option.map_some,Option.getD_some,List.map_cons,List.sum_cons]; omega
theorem wt_drop {ln:Str→Nat}{us:List Ru}{i:Nat}{u:Ru}(h:us[i]?=some u):wt ln (us.drop i)=1+((callOf u).map ln).getD 0+wt ln (us.drop (i+1)):=by
 obtain ⟨lt,e⟩:=List.getElem?_eq_some_iff.mp h
 rw [List.drop_eq_getElem_cons lt,wt_cons,e]
theorem sum_nat {α:Type}{f:α→Int}:∀ {l:List α},(∀ x∈l,0≤f x)→(l.map f).sum=(((l.map fun x=>(f x).toNat).sum:Nat):Int)
 | [],_=>rfl
 | x::l,h=>by
  have a:=h x List.mem_cons_self
  have b:=sum_nat (f:=f) fun y hy=>h y (List.mem_cons_of_mem _ hy)
  rw [List.map_cons,List.sum_cons,List.map_cons,List.sum_cons,b]
  omega
theorem lens_pos {cs:Chs}{len:Str→Int}{rank:Str→Nat}(cl:Closed cs)(h:Lens cs len rank):∀ m,∀ c∈cs,rank c.1<m→0≤len c.1:=by
 intro m
 induction m with
 | zero=>intro c _ lt; omega
 | succ m ih =>
  intro c hc lt
  rw [h.eq c hc,sum_nat fun n hn=>?_]
  ·omega
  ·obtain ⟨c',hc',e⟩:=List.mem_map.mp (cl c hc n hn)
   have:=h.dn c hc n hn
   rw [← e]
   exact ih c' hc' (by rw [e]; omega)
theorem ln_wt {cs:Chs}{len:Str→Int}{rank:Str→Nat}(cl:Closed cs)(h:Lens cs len rank){c:Str×List Ru}(hc:c∈cs):(len c.1).toNat=wt (fun n=>(len n).toNat) c.2:=by
 rw [h.eq c hc,sum_nat fun n hn=>?_]
 ·unfold wt
  omega
 ·obtain ⟨c',hc',e⟩:=List.mem_map.mp (cl c hc n hn)
  rw [← e]
  exact lens_pos cl h _ c' hc' (Nat.lt_succ_self _)
end
section
variable {cRu cWo cBa cCa cBo:Addr}
abbrev Plc:=Str×Nat
inductive Reads (cs:Chs) (fit:Ru→Bool) (df:Str):List Plc→List (Plc×Bool)→Str→Prop where
 | done:Reads cs fit df [] [] df
 | over {c:Str×List Ru} {i:Nat} {st:List Plc} {lk:List (Plc×Bool)} {w:Str} (hc:c∈cs) (e:c.2[i]?=none) (r:Reads cs fit df st lk w):Reads cs fit df ((c.1,i)::st) lk w
 | no {c:Str×List Ru} {i:Nat} {u:Ru} {st:List Plc} {lk:List (Plc×Bool)} {w:Str} (hc:c∈cs) (e:c.2[i]?=some u) (n:fit u=false) (r:Reads cs fit df ((c.1,i+1)::st) lk w):Reads cs fit df ((c.1,i)::st) (((c.1,i),false)::lk) w
 | word {c:Str×List Ru} {i:Nat} {z:Str} {p:Addr} {st:List Plc} (hc:c∈cs) (e:c.2[i]?=some (.word z,p)) (y:fit (.word z,p)=true):Reads cs fit df ((c.1,i)::st) [((c.1,i),true)] z
 | back {c:Str×List Ru} {i:Nat} {p:Addr} {st:List Plc} {lk:List (Plc×Bool)} {w:Str} (hc:c∈cs) (e:c.2[i]?=some (.back,p)) (y:fit (.back,p)=true) (r:Reads cs fit df st lk w):Reads cs fit df ((c.1,i)::st) (((c.1,i),true)::lk) w
 | call {c:Str×List Ru} {i:Nat} {n:Str} {p:Addr} {st:List Plc} {lk:List (Plc×Bool)} {w:Str} (hc:c∈cs) (e:c.2[i]?=some (.call n,p)) (y:fit (.call n,p)=true) (r:Reads cs fit df ((n,0)::(c.1,i+1)::st) lk w):Reads cs fit df ((c.1,i)::st) (((c.1,i),true)::lk) w
def plW (cs:Chs)(ln:Str→Nat)(p:Plc):Nat:=2 * wt ln ((chOf cs p.1).drop p.2)+1
def stW (cs:Chs)(ln:Str→Nat)(st:List Plc):Nat:=(st.map (plW cs ln)).sum
theorem stW_cons (cs:Chs)(ln:Str→Nat)(p:Plc)(st:List Plc):stW cs ln (p::st)=plW cs ln p+stW cs ln st:=by
 unfold stW
 rw [List.map_cons,List.sum_cons]
theorem stW_len (cs:Chs)(ln:Str→Nat):∀ st:List Plc,st.length≤stW cs ln st
 | []=>Nat.le_refl 0
 | p::st=>by
  have:=stW_len cs ln st
  rw [stW_cons,List.length_cons]
  unfold plW
  omega
def PlAt (H:Hp)(v:V)(p:Plc):Prop:=∃ t,v=.ref t∧H t=some (.tup [.str p.1,.int (p.2:Int)])
theorem PlAt.mono {H H':Hp}{v:V}{p:Plc}(h:PlAt H v p)(k:∀ a xs,H a=some (.tup xs)→H' a=some (.tup xs)):PlAt H' v p:=by
 obtain ⟨t,e,h⟩:=h
 exact ⟨t,e,k _ _ h⟩
def LkAt (H:Hp)(v:V)(x:Plc×Bool):Prop:=∃ t,v=.ref t∧H t=some (.tup [.str x.1.1,.int (x.1.2:Int),.bl x.2])
theorem LkAt.mono {H H':Hp}{v:V}{x:Plc×Bool}(h:LkAt H v x)(k:∀ a xs,H a=some (.tup xs)→H' a=some (.tup xs)):LkAt H' v x:=by
 obtain ⟨t,e,h⟩:=h
 exact ⟨t,e,k _ _ h⟩
def plD (p:Plc):PyData:=.tuple [.str p.1,.int (p.2:Int)]
theorem pl_dts {H:Hp}{ws:List V}{st:List Plc}(h:All2 (PlAt H) ws st):Dts H ws (st.map plD):=by
 induction h with
 | nil=>exact .nil
 | cons h _ ih =>
  obtain ⟨t,rfl,h⟩:=h
  exact .cons (.tup (.inl h) (.cons (.str _) (.cons (.int _) .nil))) ih
theorem pl_lay:∀ {st:List Plc},(∀ p∈st,PyData.strOk p.1=true)→PyData.canLayAll0 (st.map plD)=true
 | [],_=>by simp [PyData.canLayAll0]
 | p::st,h=>by
  rw [List.map_cons,PyData.canLayAll0.eq_2,pl_lay fun y hy=>h y (List.mem_cons_of_mem _ hy)]
  simp [plD,PyData.canLay0,PyData.canLayAll0,h p List.mem_cons_self]
theorem pl_shaped {st:List Plc}(h:∀ p∈st,PyData.strOk p.1=true):SeqAt.shaped (.list (st.map plD))=true:=by
 have a:=pl_lay h
 have b:=qk1 plD (n:=3) (fun z=>by simp [plD,PyData.depth,PyData.depthAll]) st
 exact shaped_of (by simp [PyData.canLay0,a]) (by simp only [PyData.depth]; omega)
theorem neNilP_go {H:Hp}{Q:VK}{a b:Addr}{ws:List V}{st:List Plc}(ha:H a=some (.lst ws.reverse))(al:All2 (PlAt H) ws st)(hb:H b=some (.lst []))(ok:∀ p∈st,PyData.strOk p.1=true)(q:Q (.bl (!decide (st=[]))) H):rEqD true (.ref a) (.ref b) H Q:=by
 have ok':∀ p∈st.reverse,PyData.strOk p.1=true:=fun p hp=>ok p (List.mem_reverse.mp hp)
 refine ⟨.list (st.reverse.map plD),.list [],.lst (.inl ha) (pl_dts al.rev),.lst (.inl hb) .nil,pl_shaped ok',by decide,?_⟩
 have e:PyData.eqv (.list (st.reverse.map plD)) (.list [])=decide (st=[]):=by
  cases st with
  | nil=>rfl
  | cons z r =>
   rw [decide_eq_false (by intro c; cases c),List.reverse_cons,List.map_append]
   cases hx:(r.reverse.map plD) with
   | nil=>simp [PyData.eqv,PyData.eqvAll]
   | cons _ _=>simp [PyData.eqv,PyData.eqvAll]
 rw [e]
 exact q
def BoxesAt (H:Hp)(cs:Chs)(bx:Addr→List (Int×Int)):Prop:=∀ c∈cs,∀ u∈c.2,IsBox H u.2 (bx u.2)∧(bx u.2).length=6∧Fair (bx u.2)
def spReadT (cWo cBa cCa cBo:Addr):Sp:=fun vs H Q _=>∃ (b q:Addr) (df:Str) (cs:Chs) (len:Str→Int) (rank:Str→Nat) (bx:Addr→List (Int×Int)) (ns:List Int),vs=[.ref b,.ref q]∧IsBook cWo cBa cCa cBo H b df cs len∧NamesOk cs∧Lens cs len rank∧("main":Str)∈cs.map (·.1)∧len "main"≤120∧BoxesAt H cs bx∧IsPt H q ns∧ns.length=6 ∧
 ∀ t lk ls dn w H',H t=none→H lk=none→Same H H'→H' t=some (.tup [.ref lk,.str w])→H' lk=some (.lst ls)→All2 (LkAt H') ls dn→Reads cs (fun u=>inBox (bx u.2) ns) df [("main",0)] dn w→Q (.ref t) H'
theorem ok_read_through (F:Fun K "read_through" "read_through" s_read_through f fd)(gm_Book_rule_at:FnM P w K mg base cBo "rule_at" 1 ["self","name","index"] (spRuleAt cWo cBa cCa cBo))(gm_Word_fits:FnM P w K mg base cWo "fits" 3 ["self","parcel"] (spFits K))(gm_Back_fits:FnM P w K mg base cBa "fits" 3 ["self","parcel"] (spFits K))(gm_Call_fits:FnM P w K mg base cCa "fits" 3 ["self","parcel"] (spFits K))
  (c_MAIN:∃ u,mg "MAIN"=some u∧RelV (.str "main") u) (b_isinstance:mg "isinstance"=none) (m_Word:mg "Word"=some (.ref cWo)) (m_Call:mg "Call"=some (.ref cCa)) (T:TxB K cRu cWo cBa cCa cBo):FnOk P w K mg base CX0 4 f fd ["book","parcel"] (spReadT cWo cBa cCa cBo):=by
 refine F.ok sc_read_through (fun vs H Q E h=>?_) (fun cdv A outer s H vs Q E hr h=>?_)
 ·obtain ⟨_,_,_,_,_,_,_,_,rfl,_⟩:=h
  rfl
 obtain ⟨b,q,df,cs,len,rank,bx,ns,rfl,bk,nok,lens,hmain,top,bxs,hq,n6,k⟩:=h
 obtain ⟨nd,cl,_,oks⟩:=id nok
 obtain ⟨_,m_MAIN,r_MAIN⟩:=c_MAIN
 obtain ⟨cm,hcm,ecm⟩:=List.mem_map.mp hmain
 obtain ⟨dx,kd,o,ps,ld,ls0,hb,_⟩:=id bk
 let ln:Str→Nat:=fun n=>(len n).toNat
 have wc:∀ c∈cs,ln c.1=wt ln c.2:=fun c hc=>ln_wt cl lens hc
 have so:∀ c∈cs,PyData.strOk c.1=true:=oks
 refine ⟨_,(@qb _ _ _ _ _ (ql (i:=2) sc_read_through.nd rfl (Or.inl rfl) (qi1 qd0)) (@qb _ _ _ _ _ (ql (i:=3) sc_read_through.nd rfl (Or.inl rfl) (qi1 (qa (qo (qa (pe_glob rfl m_MAIN r_MAIN) (qa qc qd0))) qd0))) (@qb _ _ _ _ _ (@ps_while _ _ _ _ _ _ PassesOwn.never (qv (op_neD hr.units) (pv 3) (qi1 qd0) (qa1 _)) (@qb _ _ _ _ _ (ql (i:=4) sc_read_through.nd rfl (Or.inl rfl) (pe_bm0 PySem.F.plainAttrs_list PySem.F.slot_list_pop PySem.F.type_list_pop mt_pop (pv 3))) (@qb _ _ _ _ _ (ql (i:=5) sc_read_through.nd rfl (Or.inl rfl) (qq1 (pv 0) hr (qa (qi qm (pv 4) qc (fun _ _=>rfl)) (qa (qi qm (pv 4) qc (fun _ _=>rfl)) qd0)))) (@qb _ _ _ _ _ (@qo1 _ _ _ _ _ _ _ _ (qv op_isN (pv 5) pe_non (qa1 _)) (@qf _ _ _ ps_continue) qw) (@qb _ _ _ _ _ (ql (i:=6) sc_read_through.nd rfl (Or.inl rfl) (qq1 (pv 5) hr (qa (pv 1) qd0))) (@qb _ _ _ _ _ (qw1 (pe_bm PySem.F.plainAttrs_list PySem.F.slot_list_append PySem.F.type_list_append mt_append (pv 2) (qa (qo (qa (qi qm (pv 4) qc (fun _ _=>rfl)) (qa (qi qm (pv 4) qc (fun _ _=>rfl)) (qa (pv 6) qd0)))) qd0))) (@qb _ _ _ _ _ (@qo1 _ _ _ _ _ _ _ _ (PW.pt (pw_and (pt_val (pv 6)) (pw_and1 (pt_val (qh1 call_isiC rfl b_isinstance bo_isinstance (qa (pv 5) (qa (pe_glob (v:=.ref cWo) rfl m_Word rfl) qd0))))))) (@qf _ _ _ (qq0 (qo (qa (pv 2) (qa (qx0 (pv 5) rfl) qd0))))) qw) (@qb _ _ _ _ _ (@qo1 _ _ _ _ _ _ _ _ (PW.pt (pw_or (pt_not (pt_val (pv 6))) (pw_or1 (pt_val (qh1 call_isiC rfl b_isinstance bo_isinstance (qa (pv 5) (qa (pe_glob (v:=.ref cCa) rfl m_Call rfl) qd0))))))) (@qf _ _ _ (qw1 (pe_bm PySem.F.plainAttrs_list PySem.F.slot_list_append PySem.F.type_list_append mt_append (pv 3) (qa (qo (qa (qi qm (pv 4) qc (fun _ _=>rfl)) (qa (qs0 qf2 (qi qm (pv 4) qc (fun _ _=>rfl)) qc) qd0))) qd0)))) qw) (@qf _ _ _ (@qo1 _ _ _ _ _ _ _ _ (PW.pt (pw_and (pt_val (pv 6)) (pw_and1 (pt_val (qh1 call_isiC rfl b_isinstance bo_isinstance (qa (pv 5) (qa (pe_glob (v:=.ref cCa) rfl m_Call rfl) qd0))))))) (@qf _ _ _ (qw1 (pe_bm PySem.F.plainAttrs_list PySem.F.slot_list_append PySem.F.type_list_append mt_append (pv 3) (qa (qo (qa (qx0 (pv 5) rfl) (qa qc qd0))) qd0)))) qw)))))))))) (@qf _ _ _ (qq0 (qo (qa (pv 2) (qa (qx0 (pv 0) rfl) qd0)))))))),?_⟩
 rw [st_read_through]
 walk_at "sv"
 refine LstR.go (by simp) fun lk nlk=>?_
 have s1:=qh nlk (.lst [])
 have hlk:upd H lk (.lst []) lk=some (.lst []):=qe
 generalize upd H lk (.lst [])=H1 at *
 walk_at "sv"
 refine TupR.go (by simp) fun t0 nt0=>?_
 have s2:=s1.trans (qh nt0 (.tup [.str "main",.int 0]))
 have hlk2:=qh nt0 (.tup [.str "main",.int 0]) _ _ hlk
 have ht0:upd H1 t0 (.tup [.str "main",.int 0]) t0=some (.tup [.str "main",.int 0]):=qe
 generalize upd H1 t0 (.tup [.str "main",.int 0])=H2 at *
 refine LstR.go (by simp) fun pl npl=>?_
 have s3:=s2.trans (qh npl (.lst [.ref t0]))
 have hlk3:=qh npl (.lst [.ref t0]) _ _ hlk2
 have ht3:=qh npl (.lst [.ref t0]) _ _ ht0
 have hpl:upd H2 pl (.lst [.ref t0]) pl=some (.lst [.ref t0]):=qe
 have npl0:H pl=none:=s2.free npl
 have nlp:lk≠pl:=fun e=>by
  rw [e,npl] at hlk2
  cases hlk2
 generalize upd H2 pl (.lst [.ref t0])=H3 at *
 walk_at "sv"
 have w0:stW cs ln [("main",0)]≤241:=by
  rw [stW_cons]
  unfold plW
  rw [← ecm,chOf_at nd hcm,List.drop_zero,← wc cm hcm,ecm]
  show 2 * (len "main").toNat+1+0≤241
  omega
 refine while_rel (fun m σ H'=>Same H H'∧∃ (ws:List V) (st:List Plc) (ls:List V) (dn:List (Plc×Bool)) (y1 y2 y3:Option V),σ=[some (.ref b),some (.ref q),some (.ref lk),some (.ref pl),y1,y2,y3]∧H' pl=some (.lst ws.reverse)∧H' lk=some (.lst ls)∧All2 (PlAt H') ws st∧All2 (LkAt H') ls dn∧(∀ p∈st,∃ c∈cs,c.1=p.1)∧m=stW cs ln st∧dn.length+m≤241 ∧
   ∀ lk' w,Reads cs (fun u=>inBox (bx u.2) ns) df st lk' w→Reads cs (fun u=>inBox (bx u.2) ns) df [("main",0)] (dn++lk') w) _
  ⟨s3,[.ref t0],[("main",0)],[],[],none,none,none,rfl,hpl,hlk3,.cons ⟨t0,rfl,ht3⟩ .nil,.nil,(fun p hp=>by obtain rfl:=List.mem_singleton.mp hp; exact ⟨cm,hcm,ecm⟩),rfl,by rw [List.length_nil]; omega,fun _ _ r=>r⟩ fun m σ H4 pv=>?_
 obtain ⟨sm,ws,st,ls,dn,y1,y2,y3,rfl,hp4,hl4,pa,la,pok,rfl,bd,rd⟩:=pv
 have sl:=stW_len cs ln st
 walk_at "sv"
 refine LstR.go (by simp) fun e ne=>?_
 have s5:=qh ne (.lst [])
 have he5:upd H4 e (.lst []) e=some (.lst []):=qe
 have sm5:=sm.trans s5
 have hp5:=s5 _ _ hp4
 have hl5:=s5 _ _ hl4
 have pa5:All2 (PlAt (upd H4 e (.lst []))) ws st:=All2.imp pa fun _ _ r=>r.mono fun _ _ z=>s5 _ _ z
 have la5:All2 (LkAt (upd H4 e (.lst []))) ls dn:=All2.imp la fun _ _ r=>r.mono fun _ _ z=>s5 _ _ z
 generalize upd H4 e (.lst [])=H5 at *
 refine neNilP_go hp5 pa5 he5 (fun p hp=>by obtain ⟨c,hc,e⟩:=pok p hp; rw [← e]; exact so c hc) ?_
 refine ⟨_,rfl,WhL.on (fun ht=>?_) fun hf=>?_⟩
 ·cases pa5 with
  | nil=>cases ht
  | @cons w0 p0 ws st hw pa5 =>
   obtain ⟨t1,rfl,ht1⟩:=hw
   obtain ⟨c,hc,ec⟩:=pok p0 List.mem_cons_self
   obtain ⟨z,i⟩:=p0
   cases ec
   rw [List.reverse_cons] at hp5
   rw [stW_cons] at bd sl ⊢
   rw [List.length_cons] at sl
   walk_at "sv"
   refine ⟨ty_lst hp5,?_⟩
   refine pop_go hp5 ?_
   have k6:∀ a xs,H5 a=some (.tup xs)→upd H5 pl (.lst ws.reverse) a=some (.tup xs):=upd_tup hp5
   have sm6:Same H (upd H5 pl (.lst ws.reverse)):=sm5.put npl0
   have hp6:upd H5 pl (.lst ws.reverse) pl=some (.lst ws.reverse):=qe
   have hl6:upd H5 pl (.lst ws.reverse) lk=some (.lst ls):=by rw [qu0 nlp]; exact hl5
   have ht6:=k6 _ _ ht1
   have pa6:All2 (PlAt (upd H5 pl (.lst ws.reverse))) ws st:=All2.imp pa5 fun _ _ r=>r.mono k6
   have la6:All2 (LkAt (upd H5 pl (.lst ws.reverse))) ls dn:=All2.imp la5 fun _ _ r=>r.mono k6
   generalize upd H5 pl (.lst ws.reverse)=H6 at *
   have pok6:∀ p∈st,∃ c∈cs,c.1=p.1:=fun p hp=>pok p (List.mem_cons_of_mem _ hp)
   walk_at "ix"
   refine MethR.go gm_Book_rule_at (sm6 _ _ hb) T.cls (bk_no (by decide) (by decide) (by decide)) (by decide) ?_
   walk_at "ix"
   refine ⟨b,df,cs,len,c,i,rfl,bk.same sm6,nd,hc,fun en=>?_,fun u a eu ir=>?_⟩
   ·walk_at "ix"
    refine ⟨_,?_,sm6,ws,st,ls,dn,_,_,_,rfl,hp6,hl6,pa6,la6,pok6,rfl,by omega,fun lk' w r=>rd _ _ (.over hc en r)⟩
    unfold plW
    omega
   ·have pw:plW cs ln (c.1,i)=2 * (1+((callOf u).map ln).getD 0+wt ln (c.2.drop (i+1)))+1:=by
     unfold plW
     rw [chOf_at nd hc,wt_drop eu]
    have pw1:plW cs ln (c.1,i+1)=2 * wt ln (c.2.drop (i+1))+1:=by
     unfold plW
     rw [chOf_at nd hc]
    obtain ⟨hbx,b6,fair⟩:=bxs c hc u (List.mem_of_getElem? eu)
    obtain ⟨r,p⟩:=u
    obtain ⟨dxr,ha⟩:=id ir
    have nn:decide (V.ref a=V.non)=false:=decide_eq_false (by intro z; cases z)
    show BrS (decide (V.ref a=V.non)) _ _ _ _
    rw [nn]
    walk_at "ix"
    have fits:∀ (Q':VK),(∀ H7,Same H6 H7→Q' (.bl (inBox (bx p) ns)) H7)→MethR P w K mg base 3 "fits" (.ref a) (tCons (tVar 1) tNil) [some (.ref b),some (.ref q),some (.ref lk),some (.ref pl),some (.ref t1),some (.ref a),y3] H6 Q':=fun Q' q'=>by
     have lo:(r.fs p).lookup ("fits":Str)=none:=Rl.none (by decide) (by decide) (by decide) p r
     have hq6:IsPt H6 q ns:=hq.same sm6
     cases r with
     | word z =>
      refine MethR.go gm_Word_fits ha T.cls_Word lo (by decide) ?_
      walk_at "sv"
      exact ⟨a,q,p,cWo,dxr,_,bx p,ns,rfl,ha,T.cls_Word,T.nb_Word,Rl.box p _,hbx.same sm6,hq6,n6.trans b6.symm,fair,q'⟩
     | back =>
      refine MethR.go gm_Back_fits ha T.cls_Back lo (by decide) ?_
      walk_at "sv"
      exact ⟨a,q,p,cBa,dxr,_,bx p,ns,rfl,ha,T.cls_Back,T.nb_Back,Rl.box p _,hbx.same sm6,hq6,n6.trans b6.symm,fair,q'⟩
     | call z =>
      refine MethR.go gm_Call_fits ha T.cls_Call lo (by decide) ?_
      walk_at "sv"
      exact ⟨a,q,p,cCa,dxr,_,bx p,ns,rfl,ha,T.cls_Call,T.nb_Call,Rl.box p _,hbx.same sm6,hq6,n6.trans b6.symm,fair,q'⟩
    refine fits _ fun H7 s7=>?_
    clear fits
    have sm7:=sm6.trans s7
    have hp7:=s7 _ _ hp6
    have hl7:=s7 _ _ hl6
    have ht7:=s7 _ _ ht6
    have ha7:=s7 _ _ ha
    have pa7:All2 (PlAt H7) ws st:=All2.imp pa6 fun _ _ r=>r.mono fun _ _ z=>s7 _ _ z
    have la7:All2 (LkAt H7) ls dn:=All2.imp la6 fun _ _ r=>r.mono fun _ _ z=>s7 _ _ z
    have lsl:ls.length=dn.length:=All2.len la7
    have wsl:ws.length=st.length:=All2.len pa7
    generalize hfb:inBox (bx p) ns=fb
    walk_at "ix"
    refine ⟨ty_lst hl7,?_⟩
    walk_at "ix"
    refine TupR.go (by simp) fun t2 nt2=>?_
    have s8:=qh nt2 (.tup [.str c.1,.int (i:Int),.bl fb])
    have ht28:upd H7 t2 (.tup [.str c.1,.int (i:Int),.bl fb]) t2=some (.tup [.str c.1,.int (i:Int),.bl fb]):=qe
    have sm8:=sm7.trans s8
    have hp8:=s8 _ _ hp7
    have hl8:=s8 _ _ hl7
    have ht8:=s8 _ _ ht7
    have ha8:=s8 _ _ ha7
    have pa8:All2 (PlAt (upd H7 t2 (.tup [.str c.1,.int (i:Int),.bl fb]))) ws st:=All2.imp pa7 fun _ _ r=>r.mono fun _ _ z=>s8 _ _ z
    have la8:All2 (LkAt (upd H7 t2 (.tup [.str c.1,.int (i:Int),.bl fb]))) ls dn:=All2.imp la7 fun _ _ r=>r.mono fun _ _ z=>s8 _ _ z
    generalize upd H7 t2 (.tup [.str c.1,.int (i:Int),.bl fb])=H8 at *
    refine app_go hl8 (by omega) ?_
    have k9:∀ a xs,H8 a=some (.tup xs)→upd H8 lk (.lst (ls++[.ref t2])) a=some (.tup xs):=upd_tup hl8
    have sm9:Same H (upd H8 lk (.lst (ls++[.ref t2]))):=sm8.put nlk
    have hp9:upd H8 lk (.lst (ls++[.ref t2])) pl=some (.lst ws.reverse):=by rw [qu0 nlp.symm]; exact hp8
    have hl9:upd H8 lk (.lst (ls++[.ref t2])) lk=some (.lst (ls++[.ref t2])):=qe
    have ht9:=k9 _ _ ht8
    have ha9:upd H8 lk (.lst (ls++[.ref t2])) a=some (.ins (r.cls cWo cBa cCa) dxr (r.fs p)):=by
     rw [qu0 (ne_of ha8 hl8 (by intro z; cases z))]
     exact ha8
    have pa9:All2 (PlAt (upd H8 lk (.lst (ls++[.ref t2])))) ws st:=All2.imp pa8 fun _ _ r=>r.mono k9
    have la9:All2 (LkAt (upd H8 lk (.lst (ls++[.ref t2])))) (ls++[.ref t2]) (dn++[((c.1,i),fb)]):=(All2.imp la8 fun _ _ r=>r.mono k9).snoc ⟨t2,rfl,k9 _ _ ht28⟩
    generalize upd H8 lk (.lst (ls++[.ref t2]))=H9 at *
    have rd2:∀ lk' w,Reads cs (fun u=>inBox (bx u.2) ns) df ((c.1,i)::st) (((c.1,i),fb)::lk') w→Reads cs (fun u=>inBox (bx u.2) ns) df [("main",0)] ((dn++[((c.1,i),fb)])++lk') w:=fun lk' w r=>by
     rw [List.append_assoc]
     exact rd _ _ r
    have dl:(dn++[((c.1,i),fb)]).length=dn.length+1:=by simp
    -- what is left to do where a place is put back
    have back1:∀ (t3:Addr),H9 t3=none→∃ H10:Hp,H10=upd (upd H9 t3 (.tup [.str c.1,.int ((i:Int)+1)])) pl (.lst (ws.reverse++[.ref t3]))∧Same H H10∧H10 pl=some (.lst (V.ref t3::ws).reverse)∧H10 lk=some (.lst (ls++[.ref t2]))∧All2 (PlAt H10) (V.ref t3::ws) ((c.1,i+1)::st)∧All2 (LkAt H10) (ls++[.ref t2]) (dn++[((c.1,i),fb)])∧∀ x o,x≠pl→H9 x=some o→H10 x=some o:=fun t3 nt3=>by
     have z1:=qh nt3 (.tup [.str c.1,.int ((i:Int)+1)])
     have k10:∀ a xs,upd H9 t3 (.tup [.str c.1,.int ((i:Int)+1)]) a=some (.tup xs)→upd (upd H9 t3 (.tup [.str c.1,.int ((i:Int)+1)])) pl (.lst (ws.reverse++[.ref t3])) a=some (.tup xs):=upd_tup (z1 _ _ hp9)
     refine ⟨_,rfl,(sm9.trans z1).put npl0,by rw [qe,List.reverse_cons],by rw [qu0 nlp]; exact z1 _ _ hl9,.cons ⟨t3,rfl,k10 _ _ qe⟩ (All2.imp pa9 fun _ _ r=>r.mono fun _ _ z=>k10 _ _ (z1 _ _ z)),All2.imp la9 fun _ _ r=>r.mono fun _ _ z=>k10 _ _ (z1 _ _ z),fun x o ne e=>by rw [qu0 ne]; exact z1 _ _ e⟩
    have pok1:∀ p∈(c.1,i+1)::st,∃ c∈cs,c.1=p.1:=fun p hp=>by
     rcases List.mem_cons.mp hp with rfl | hp
     ·exact ⟨c,hc,rfl⟩
     ·exact pok6 p hp
    cases fb with
    | false =>
     walk_at "ix"
     refine ⟨ty_lst hp9,?_⟩
     walk_at "ix"
     refine TupR.go (by simp) fun t3 nt3=>?_
     refine app_go (qh nt3 _ _ _ hp9) (by rw [List.length_reverse]; omega) ?_
     obtain ⟨H10,eH,sm10,hp10,hl10,pa10,la10,_⟩:=back1 t3 nt3
     rw [← eH]
     walk_at "ix"
     refine ⟨_,?_,sm10,_,_,_,_,_,_,_,rfl,hp10,hl10,pa10,la10,pok1,rfl,?_,fun lk' w r=>rd2 _ _ (.no hc eu hfb r)⟩
     ·rw [stW_cons,pw1,pw]
      omega
     ·rw [stW_cons,pw1,dl]
      rw [pw] at bd
      omega
    | true =>
     walk_at "ix"
     cases r with
     | word z =>
      refine ⟨_,_,_,_,rfl,.ins ha9 T.cls_Word T.cl_Word T.gs T.tk T.ob_Word,T.i_Word_Word,?_⟩
      walk_at "ix"
      refine FldR.go ha9 T.cls_Word T.nw (look_two s_box_word.symm _ _) ?_
      refine TupR.go (by simp) fun t nt=>?_
      have z1:=qh nt (.tup [.ref lk,.str z])
      refine k t lk _ _ z _ (sm9.free nt) nlk (sm9.trans z1) qe (z1 _ _ hl9) (All2.imp la9 fun _ _ r=>r.mono fun _ _ z=>z1 _ _ z) ?_
      have:=rd2 [] z (.word hc eu hfb)
      rw [List.append_nil] at this
      exact this
     | back =>
      refine ⟨_,_,_,_,rfl,.ins ha9 T.cls_Back T.cl_Back T.gs T.tk T.ob_Back,T.i_Back_Word,?_⟩
      walk_at "ix"
      refine ⟨_,_,_,_,rfl,.ins ha9 T.cls_Back T.cl_Back T.gs T.tk T.ob_Back,T.i_Back_Call,?_⟩
      walk_at "ix"
      refine ⟨_,_,_,_,rfl,.ins ha9 T.cls_Back T.cl_Back T.gs T.tk T.ob_Back,T.i_Back_Call,?_⟩
      walk_at "ix"
      refine ⟨_,?_,sm9,ws,st,_,_,_,_,_,rfl,hp9,hl9,pa9,la9,pok6,rfl,?_,fun lk' w r=>rd2 _ _ (.back hc eu hfb r)⟩
      ·rw [pw]
       omega
      ·rw [dl]
       rw [pw] at bd
       omega
     | call z =>
      refine ⟨_,_,_,_,rfl,.ins ha9 T.cls_Call T.cl_Call T.gs T.tk T.ob_Call,T.i_Call_Word,?_⟩
      walk_at "ix"
      refine ⟨_,_,_,_,rfl,.ins ha9 T.cls_Call T.cl_Call T.gs T.tk T.ob_Call,T.i_Call_Call,?_⟩
      walk_at "ix"
      refine ⟨ty_lst hp9,?_⟩
      walk_at "ix"
      refine TupR.go (by simp) fun t3 nt3=>?_
      refine app_go (qh nt3 _ _ _ hp9) (by rw [List.length_reverse]; omega) ?_
      obtain ⟨H10,eH,sm10,hp10,hl10,pa10,la10,kp10⟩:=back1 t3 nt3
      rw [← eH]
      have ha10:=kp10 _ _ (ne_of ha9 hp9 (by intro z; cases z)) ha9
      walk_at "ix"
      refine ⟨_,_,_,_,rfl,.ins ha10 T.cls_Call T.cl_Call T.gs T.tk T.ob_Call,T.i_Call_Call,?_⟩
      walk_at "ix"
      refine ⟨ty_lst hp10,?_⟩
      refine FldR.go ha10 T.cls_Call T.nn (look_two s_box_name.symm _ _) ?_
      walk_at "ix"
      refine TupR.go (by simp) fun t4 nt4=>?_
      have z1:=qh nt4 (.tup [.str z,.int 0])
      refine app_go (z1 _ _ hp10) (by rw [List.length_reverse,List.length_cons]; omega) ?_
      have k11:∀ a xs,upd H10 t4 (.tup [.str z,.int 0]) a=some (.tup xs)→upd (upd H10 t4 (.tup [.str z,.int 0])) pl (.lst ((V.ref t3::ws).reverse++[.ref t4])) a=some (.tup xs):=upd_tup (z1 _ _ hp10)
      have mz:z∈qg1 c.2:=List.mem_filterMap.mpr ⟨(.call z,p),List.mem_of_getElem? eu,rfl⟩
      obtain ⟨cz,hcz,ecz⟩:=List.mem_map.mp (cl c hc z mz)
      have pwz:plW cs ln (z,0)=2 * ln z+1:=by
       unfold plW
       rw [← ecz,chOf_at nd hcz,List.drop_zero,← wc cz hcz]
      have cz':((callOf (.call z,p)).map ln).getD 0=ln z:=rfl
      rw [cz'] at pw
      refine ⟨_,?_,(sm10.trans z1).put npl0,V.ref t4::V.ref t3::ws,(z,0)::(c.1,i+1)::st,_,_,_,_,_,rfl,by rw [qe,List.reverse_cons (a:=V.ref t4)],by rw [qu0 nlp]; exact z1 _ _ hl10,.cons ⟨t4,rfl,k11 _ _ qe⟩ (All2.imp pa10 fun _ _ r=>r.mono fun _ _ z=>k11 _ _ (z1 _ _ z)),All2.imp la10 fun _ _ r=>r.mono fun _ _ z=>k11 _ _ (z1 _ _ z),fun p hp=>?_,rfl,?_,fun lk' w r=>rd2 _ _ (.call hc eu hfb r)⟩
      ·rw [stW_cons,stW_cons,pw1,pwz,pw]
       omega
      ·rcases List.mem_cons.mp hp with rfl | hp
       ·exact ⟨cz,hcz,ecz⟩
       ·exact pok1 p hp
      ·rw [stW_cons,stW_cons,pw1,pwz,dl]
       rw [pw] at bd
       omega
 ·have es:st=[]:=by
   cases st with
   | nil=>rfl
   | cons _ _=>cases hf
  subst es
  walk_at "sv"
  refine FldR.go (sm5 _ _ hb) T.cls T.n_default (bk_default kd) ?_
  refine TupR.go (by simp) fun t nt=>?_
  have z1:=qh nt (.tup [.ref lk,.str df])
  refine k t lk _ _ df _ (sm5.free nt) nlk (sm5.trans z1) qe (z1 _ _ hl5) (All2.imp la5 fun _ _ r=>r.mono fun _ _ z=>z1 _ _ z) ?_
  have:=rd [] df .done
  rw [List.append_nil] at this
  exact this
def spWordOf (cWo cBa cCa cBo:Addr):Sp:=fun vs H Q _=>∃ (b q:Addr) (df:Str) (cs:Chs) (len:Str→Int) (rank:Str→Nat) (bx:Addr→List (Int×Int)) (ns:List Int),vs=[.ref b,.ref q]∧IsBook cWo cBa cCa cBo H b df cs len∧NamesOk cs∧Lens cs len rank∧("main":Str)∈cs.map (·.1)∧len "main"≤120∧BoxesAt H cs bx∧IsPt H q ns∧ns.length=6 ∧
 ∀ dn w H',Same H H'→Reads cs (fun u=>inBox (bx u.2) ns) df [("main",0)] dn w→Q (.str w) H'
theorem ok_word_of (F:Fun K "word_of" "word_of" s_word_of f fd)(g_read_through:Fn P w K mg base "read_through" 4 ["book","parcel"] (spReadT cWo cBa cCa cBo)):FnOk P w K mg base CX0 5 f fd ["book","parcel"] (spWordOf cWo cBa cCa cBo):=by
 refine F.ok sc_word_of (fun vs H Q E h=>?_) (fun cdv A outer s H vs Q E hr h=>?_)
 ·obtain ⟨_,_,_,_,_,_,_,_,rfl,_⟩:=h
  rfl
 obtain ⟨b,q,df,cs,len,rank,bx,ns,rfl,bk,nok,lens,hmain,top,bxs,hq,n6,k⟩:=h
 refine ⟨_,(@qf _ _ _ (qq0 (qi qm (qj1 g_read_through hr (by decide) rfl (qa (pv 0) (qa (pv 1) qd0))) qc (fun _ _=>rfl)))),?_⟩
 rw [st_word_of]
 walk_at "sv"
 refine ⟨b,q,df,cs,len,rank,bx,ns,rfl,bk,nok,lens,hmain,top,bxs,hq,n6,fun t lk ls dn w H' nt nl s1 ht hl al rd=>?_⟩
 refine ixT_go (i:=1) (SqT.of ht) rfl ?_
 exact k dn w H' s1 rd
end
section
variable {cRu cWo cBa cCa cBo:Addr}
theorem tc_ha {D:Addr}{H:Hp}{vs:List V}{cs:Chs}{ls:List Addr}(l:ls.length=cs.length)(h:All2 (TcAt D H) vs (cs.zip ls))(ok:∀ c∈cs,c.2.length≤1000∧∀ u∈c.2,u.1.ok):All2 (HaAt H) vs cs:=by
 have len:=All2.len h
 rw [List.length_zip,l,Nat.min_self] at len
 refine all2_ix len fun i v c ev ec=>?_
 obtain ⟨z,ez,t,ts,rfl,_,_,ht,hl,al⟩:=All2.at h ev
 obtain ⟨e1,_⟩:=List.getElem?_zip_eq_some.mp ez
 rw [ec] at e1
 obtain rfl:=Option.some.inj e1
 obtain ⟨lc,uo⟩:=ok _ (List.mem_of_getElem? ec)
 refine ⟨t,z.2,ts,rfl,ht,hl,all2_ix (All2.len al) fun j v' u ev' eu=>?_,lc⟩
 obtain ⟨u',eu',t',rfl,_,_,h'⟩:=All2.at al ev'
 rw [eu] at eu'
 cases eu'
 exact ⟨t',rfl,h',uo _ (List.mem_of_getElem? eu)⟩
structure BOk (cs:Chs)(len:Str→Int)(rank:Str→Nat):Prop where
 nok:NamesOk cs
 lens:Lens cs len rank
 main:("main":Str)∈cs.map (·.1)
 most:len "main"≤120
 rus:∀ c∈cs,c.2.length≤1000∧∀ u∈c.2,u.1.ok
def spCopy (cWo cBa cCa cBo:Addr):Sp:=fun vs H Q _=>∃ (b:Addr) (df:Str) (cs:Chs) (len:Str→Int) (rank:Str→Nat),vs=[.ref b]∧IsBook cWo cBa cCa cBo H b df cs len∧BOk cs len rank∧∀ b' H',Same H H'→IsBook cWo cBa cCa cBo (fresh H H') b' df cs len→Q (.ref b') H'
theorem ok_copy (F:Fun K "copy_of" "copy_of" s_copy_of f fd)(gm_Book_told:FnM P w K mg base cBo "told" 2 ["self"] (spBTold cWo cBa cCa cBo))(gi_Book:FnI P w K mg base cBo 5 ["self","default","chains"] (spBook cWo cBa cCa cBo))(m_Book:mg "Book"=some (.ref cBo))(T:TxB K cRu cWo cBa cCa cBo):FnOk P w K mg base CX0 7 f fd ["book"] (spCopy cWo cBa cCa cBo):=by
 refine F.ok sc_copy_of (fun vs H Q E h=>?_) (fun cdv A outer s H vs Q E hr h=>?_)
 ·obtain ⟨_,_,_,_,_,rfl,_⟩:=h
  rfl
 obtain ⟨b,df,cs,len,rank,rfl,bk,ok,q⟩:=h
 obtain ⟨dx,kd,o,ps,ld,lks,hb,_⟩:=id bk
 refine ⟨_,(@qb _ _ _ _ _ (ql (i:=1) sc_copy_of.nd rfl (Or.inl rfl) (pe_methA0 (pv 0) hr)) (@qf _ _ _ (qq0 (pe_new gi_Book hr (by decide) rfl m_Book (qa (qi qm (pv 1) qc (fun _ _=>rfl)) (qa (qi qm (pv 1) qc (fun _ _=>rfl)) qd0)))))),?_⟩
 rw [st_copy_of]
 walk_at "sv"
 refine MethR.go gm_Book_told hb T.cls (by rfl) (by decide) ?_
 walk_at "sv"
 refine ⟨b,df,cs,len,rfl,bk,ok.nok.1,ok.nok.2.2.1,fun t D vs ls H1 nt nD s1 ht hD al lle lnd lfr=>?_⟩
 walk_at "sv"
 refine ixT_go (i:=0) (SqT.of ht) rfl ?_
 refine ixT_go (i:=1) (SqT.of ht) rfl ?_
 walk_at "sv"
 intro x dx2 nx nd2 ne
 have si:=same_ins (o:=.own x) (o':=.ins cBo dx2 []) nx nd2 ne
 refine ⟨x,dx2,D,df,vs,cs,len,rank,rfl,qe,si _ _ hD,All2.imp (tc_ha lle al ok.rus) fun _ _ r=>r.same si,ok.nok,ok.lens,ok.main,ok.most,fun H2 kp bk2=>⟨rfl,?_⟩⟩
 have s2:Same H H2:=fun a o e=>kp a o (qy0 (s1 _ _ e) nx) (si _ _ (s1 _ _ e))
 refine q x H2 s2 (bk2.same fun a o e=>?_)
 unfold fresh at e ⊢
 split at e
 ·rename_i c
  have hn:H a=none:=by
   cases ea:H a with
   | none=>rfl
   | some u =>
    have e3:=si _ _ (s1 _ _ ea)
    have nax:a≠x:=qy0 (s1 _ _ ea) nx
    unfold del at c
    rw [if_neg nax,e3] at c
    cases c
  rw [hn]
  exact e
 ·cases e
end
--CUT--
section
open PySem PySem.Spec PyProof.Rows L2
structure FunD (K:PySem.W.Frag)(x qual:Str)(st:Stmt)(ds:List Value)(f:Addr)(fd:FuncData):Prop where
 ex:∃ (oc:Value) (od:Option Addr) (a:Addr) (kV doc pm:Value) (an:Option Addr) (cdv ct:Value) (osl:Array (Option Value)) (o:Obj) (n:Nat),
  fd=PySem.W.fnOf x qual (defArgs st) (qh2 st) (qg st) (.ref a) kV doc pm an cdv ct∧K.lookup f=some ⟨oc,od,.func fd,osl⟩∧PySem.W.codeIn K cdv qual=true∧K.lookup a=some o∧o.data=.seq ds.toArray n
structure MDefD (K:PySem.W.Frag)(C:Addr)(m qual:Str)(st:Stmt)(ds:List Value):Prop where
 ex:∃ (f:Addr) (fd:FuncData),FunD K m qual st ds f fd∧Meth K C m f
theorem mk_mdefD {K:PySem.W.Frag}{C:Addr}{m qual:Str}{st:Stmt}{ds:List Value}{f a:Addr}{oc kV dc pm cd ct to:Value}{od an td:Option Addr}{sl tsl:Array (Option Value)}{its:Array Value}{i:Nat}(h:PySem.W.findIn K (.ref C) m=some (some (.ref f)))
  (l:K.lookup f=some ⟨oc,od,.func (PySem.W.fnOf m qual (defArgs st) (qh2 st) (qg st) (.ref a) kV dc pm an cd ct),sl⟩) (c:PySem.W.codeIn K cd qual=true) (k:PySem.W.keepIn K (.ref f)=true) (n:PySem.W.isFn K (.ref f)=true)
  (t:K.lookup a=some ⟨to,td,.seq its i,tsl⟩) (e:its=ds.toArray):MDefD K C m qual st ds :=
 ⟨⟨f,_,⟨⟨oc,od,a,kV,dc,pm,an,cd,ct,sl,_,i,rfl,l,c,t,e▸rfl⟩⟩,⟨h,n,k⟩⟩⟩
section
variable {P:Program}{w:World}{K:PySem.W.Frag}{mg:Str→Option Value}{base:Heap}{C:Addr}{x m qual:Str}{st:Stmt}{k:Nat}{N ps:List Str}{sp:Sp}{ds:List Value}{f:Addr}{fd:FuncData}
theorem fun_okD (F:FunD K x qual st ds f fd)(S:qj N ps (qg st))(len:∀ vs H Q E,sp vs H Q E→vs.length=ps.length)
  (hbody:∀ (cdv:Value) (A:Around) (outer:List Env) (s:Shared) (H:Hp) (vs:List V) (Q:VK) (E:XK),Room k (A.deeper (envOfC qual (qg st) s.heap.objs.size f cdv))→sp vs H Q E →
   ∃ t,PSs (cxOf CX0 P w K mg base N qual (qg st) f cdv A outer s H E) (qh2 st) t∧t { nx:=fun _ H'=>Q .non H',rt:=Q } (qd1 N vs) H):FnOk P w K mg base CX0 (k+1) f fd ps sp:=by
 obtain ⟨oc,od,a,kV,doc,pm,an,cdv,ct,osl,o,n,rfl,lk,hcd,_⟩:=F.ex
 exact fn_of lk hcd S len fun A outer s H vs Q E hr hsp=>hbody cdv A outer s H vs Q E hr hsp
end
end
section
open PySem PySem.Spec PyProof.Rows L2
def hidB (H:Hp)(S:Addr→Prop)(b:Addr):Prop:=S b∨∃ a,S a∧H b=some (.own a)
open Classical in
noncomputable def cutH (H:Hp)(S:Addr→Prop):Hp:=fun b=>if hidB H S b then none else H b
open Classical in
noncomputable def glueH (H:Hp)(S:Addr→Prop)(H2:Hp):Hp:=fun b=>if hidB H S b then H b else H2 b
section
variable {P:Program}{w:World}{H H2:Hp}{h h':Heap}{S:Addr→Prop}{b a:Addr}{o:HO}
theorem cut_in (hb:hidB H S b):cutH H S b=none:=if_pos hb
theorem cut_out (hb:¬ hidB H S b):cutH H S b=H b:=if_neg hb
theorem glue_in (hb:hidB H S b):glueH H S H2 b=H b:=if_pos hb
theorem glue_out (hb:¬ hidB H S b):glueH H S H2 b=H2 b:=if_neg hb
theorem cut_some (e:cutH H S b=some o):¬ hidB H S b∧H b=some o:=by
 by_cases hb:hidB H S b
 ·rw [cut_in hb] at e
  cases e
 ·exact ⟨hb,(cut_out hb).symm.trans e⟩
theorem cut_none (e:H b=none):cutH H S b=none:=by
 by_cases hb:hidB H S b
 ·exact cut_in hb
 ·rw [cut_out hb,e]
theorem hid_tup (hS:∀ a,S a→Mut (H a)){xs:List V}(e:H b=some (.tup xs)):¬ hidB H S b:=by
 rintro (s | ⟨a,_,e'⟩)
 ·have:=hS b s
  rw [e] at this
  exact this
 ·rw [e] at e'
  cases e'
theorem hid_frz (hS:∀ a,S a→Mut (H a)){ob:Obj}{u:HO}(e:H b=some (.frz ob u)):¬ hidB H S b:=by
 rintro (s | ⟨a,_,e'⟩)
 ·have:=hS b s
  rw [e] at this
  exact this
 ·rw [e] at e'
  cases e'
theorem hid_tbl (hS:∀ a,S a→Mut (H a)){ps:Array Value}(e:H b=some (.tbl ps)):¬ hidB H S b:=by
 rintro (s | ⟨a,_,e'⟩)
 ·have:=hS b s
  rw [e] at this
  exact this
 ·rw [e] at e'
  cases e'
theorem hid_own (hS:∀ a,S a→Mut (H a))(e:H b=some (.own a)):hidB H S b↔S a:=by
 constructor
 ·rintro (s | ⟨c,sc,e'⟩)
  ·have:=hS b s
   rw [e] at this
   exact this.elim
  ·rw [e] at e'
   cases e'
   exact sc
 ·exact fun s=>.inr ⟨a,s,e⟩
theorem hid_some (hS:∀ a,S a→Mut (H a))(hb:hidB H S b):∃ o,H b=some o:=by
 rcases hb with s | ⟨a,_,e⟩
 ·have:=hS b s
  cases e:H b with
  | none =>
   rw [e] at this
   exact this.elim
  | some o=>exact ⟨o,rfl⟩
 ·exact ⟨_,e⟩
theorem cut_ok (hS:∀ a,S a→Mut (H a))(x:HOk P w H h):HOk P w (cutH H S) h:=fun b o e=>by
 obtain ⟨nb,e⟩:=cut_some e
 refine (x b o e).stay (fun _ _ _ q=>q) (fun c q=>?_) fun c xs q=>?_
 ·rw [cut_out fun z=>nb (.inl ((hid_own hS q).mp z))]
  exact q
 ·rw [cut_out (hid_tup hS q)]
  exact q
theorem ok_get (x:ObjOk P w H h a o):∃ ob,h.get? a=some ob:=by
 cases o with
 | lst xs=>obtain ⟨_,_,_,_,e⟩:=x; exact ⟨_,e⟩
 | tup xs=>obtain ⟨_,_,_,ob,e,_⟩:=x; exact ⟨_,e⟩
 | dK kvs=>obtain ⟨_,_,_,_,ob,_,_,e,_⟩:=x; exact ⟨_,e⟩
 | dT kvs=>obtain ⟨_,_,_,_,ob,_,_,e,_⟩:=x; exact ⟨_,e⟩
 | set S n=>obtain ⟨ob,_,_,_,e,_⟩:=x; exact ⟨_,e⟩
 | ins C dx fs=>obtain ⟨_,_,_,e,_⟩:=x; exact ⟨_,e⟩
 | own y=>exact x
 | xd fs=>obtain ⟨_,⟨ob,_,_,e,_⟩,_⟩:=x; exact ⟨_,e⟩
 | rng lo hi=>obtain ⟨_,_,_,e⟩:=x; exact ⟨_,e⟩
 | frz ob u=>obtain ⟨e,_⟩:=x; exact ⟨_,e⟩
 | tbl ps=>exact ⟨_,(show h.get? a=some _ from x)⟩
 | met f y=>exact ⟨_,(show h.get? a=some _ from x)⟩
 | ext φ=>obtain ⟨_,e,_⟩:=x; exact e
theorem glue_ok {fs:List Addr}(hS:∀ a,S a→Mut (H a))(hf:∀ b∈fs,H b=none)(x:HOk P w H h)(un:Un fs [] (cutH H S) H2 h h')(x2:HOk P w H2 h'):Un fs [] H (glueH H S H2) h h'∧HOk P w (glueH H S H2) h'∧∀ b,hidB H S b→H2 b=none:=by
 have ne:∀ b:Addr,b∉([]:List Addr):=fun b z=>absurd z (by simp)
 have nfs:∀ b,hidB H S b→b∉fs:=fun b hb z=>by
  obtain ⟨o,e⟩:=hid_some hS hb
  rw [hf b z] at e
  cases e
 have kp:∀ b o,hidB H S b→h.get? b=some o→h'.get? b=some o:=fun b o hb e=>un.keep b o e (cut_in hb) (nfs b hb) (ne b)
 have fr:∀ b,hidB H S b→H2 b=none:=fun b hb=>by
  obtain ⟨o,e⟩:=hid_some hS hb
  obtain ⟨ob,eb⟩:=ok_get (x b o e)
  exact un.free b ob eb (cut_in hb) (ne b)
 have tup:∀ b xs,H b=some (.tup xs)→glueH H S H2 b=some (.tup xs):=fun b xs e=>by
  have nb:=hid_tup hS e
  rw [glue_out nb]
  exact un.tups b xs ((cut_out nb).trans e)
 have out:∀ b o,H2 b=some o→glueH H S H2 b=some o:=fun b o e=>by
  rw [glue_out fun hb=>by
   rw [fr b hb] at e
   cases e]
  exact e
 refine ⟨⟨fun b o e n hb hx=>un.keep b o e (cut_none n) hb hx,fun b o e n hb hx=>un.slot b o e (cut_none n) hb hx,fun b o e n hx=>?_,un.there,tup,fun b ob u e=>?_,fun b ps e=>?_⟩,fun b o e=>?_,fr⟩
 ·rw [glue_out fun hb=>by
   obtain ⟨o',e'⟩:=hid_some hS hb
   rw [n] at e'
   cases e']
  exact un.free b o e (cut_none n) hx
 ·have nb:=hid_frz hS e
  rw [glue_out nb]
  exact un.frzs b ob u ((cut_out nb).trans e)
 ·have nb:=hid_tbl hS e
  rw [glue_out nb]
  exact un.tbls b ps ((cut_out nb).trans e)
 ·by_cases hb:hidB H S b
  ·rw [glue_in hb] at e
   rcases id hb with s | ⟨a,_,ea⟩
   ·refine (x b o e).stay (fun c u hc q=>?_) (fun c q=>?_) tup
    ·rcases hc with rfl | hc
     ·exact kp c u hb q
     ·exact kp c u ((hid_own hS hc).mpr s) q
    ·rw [glue_in ((hid_own hS q).mpr s)]
     exact q
   ·rw [ea] at e
    cases e
    obtain ⟨ob,q⟩:=(show ∃ ob,h.get? b=some ob from x b _ ea)
    exact ⟨ob,kp b ob hb q⟩
  ·rw [glue_out hb] at e
   exact (x2 b o e).stay (fun _ _ _ q=>q) (fun c q=>out c _ q) fun c xs q=>out c _ q
end
def frm (sp:Sp):Sp:=fun vs H Q E=>∃ S:Addr→Prop,(∀ a,S a→Mut (H a))∧sp vs (cutH H S) (fun v H2=>(∀ b,hidB H S b→H2 b=none)→Q v (glueH H S H2)) (fun c d H2=>(∀ b,hidB H S b→H2 b=none)→E c d (glueH H S H2))
theorem frm_ok {P:Program}{w:World}{K:PySem.W.Frag}{mg:Str→Option Value}{base:Heap}{k:Nat}{f:Addr}{fd:FuncData}{ps:List Str}{sp:Sp}(F:FnOk P w K mg base CX0 k f fd ps sp):FnOk P w K mg base CX0 k f fd ps (frm sp):=by
 refine ⟨fun vs H Q E h=>?_,fun A outer s H args us vs Q E hr e0 hb hv h=>?_⟩
 ·obtain ⟨S,_,h⟩:=h
  exact F.len _ _ _ _ h
 ·obtain ⟨S,hS,h⟩:=h
  refine codeAny_mono (F.run A outer s _ args us vs _ _ hr ⟨e0.frames,e0.mod,fun b o e=>⟨(e0.bs b o e).1,cut_none (e0.bs b o e).2⟩,e0.bsz,e0.funs,fun b hb=>cut_none (e0.frf b hb),cut_ok hS e0.hok,e0.bare⟩ hb hv h) fun r s' hq=>?_
  cases r with
  | error e=>exact hq
  | ok fl =>
   cases fl with
   | next=>exact hq
   | brk=>exact hq
   | cont=>exact hq
   | ret u =>
    obtain ⟨v,H2,os,bare,un,hok2,rv,q⟩:=hq
    obtain ⟨un',hok',fr⟩:=glue_ok hS e0.frf e0.hok un hok2
    exact ⟨v,_,os,bare,un',hok',rv,q fr⟩
end
section
variable {C_Talk C_Table:Addr}
def Own (t kd:Addr)(ads:List (Addr×Addr))(a:Addr):Prop:=a=t∨a=kd∨a∈ads.map (·.1)∨a∈ads.map (·.2)
def InsD:Option HO→Prop
 | some (.ins _ _ _)=>True
 | some (.dT _)=>True
 | _=>False
theorem InsD.mut {o:Option HO}(h:InsD o):Mut o:=by
 cases o with
 | none=>exact h.elim
 | some u =>
  cases u with
  | ins C dx fs=>exact True.intro
  | dT kvs=>exact True.intro
  | _=>exact h.elim
theorem TabAt.own {H:Hp}{t dx l kd:Addr}{B:Tb}{ads:List (Addr×Addr)}(h:TabAt C_Talk C_Table H t B dx l kd ads){a:Addr}(o:Own t kd ads a):InsD (H a):=by
 rcases o with rfl | rfl | o | o
 ·rw [h.tab]
  exact True.intro
 ·rw [h.dic]
  exact True.intro
 ·obtain ⟨ad,ha,rfl⟩:=List.mem_map.mp o
  obtain ⟨i,ea⟩:=List.getElem?_of_mem ha
  obtain ⟨x,_,dx',p,q,r,e,_⟩:=All2.at h.tks ea
  rw [e]
  exact True.intro
 ·obtain ⟨ad,ha,rfl⟩:=List.mem_map.mp o
  obtain ⟨i,ea⟩:=List.getElem?_of_mem ha
  obtain ⟨x,_,dx',p,q,r,_,_,_,_,e⟩:=All2.at h.tks ea
  rw [e]
  exact True.intro
theorem TabAt.to {H H':Hp}{t dx l kd:Addr}{B:Tb}{ads:List (Addr×Addr)}(h:TabAt C_Talk C_Table H t B dx l kd ads)(ow:∀ a o,Own t kd ads a→H a=some o→H' a=some o)(tp:∀ a xs,H a=some (.tup xs)→H' a=some (.tup xs))(ls:∀ a xs,H a=some (.lst xs)→H' a=some (.lst xs)):TabAt C_Talk C_Table H' t B dx l kd ads:=by
 refine ⟨ow _ _ (.inl rfl) h.tab,ls _ _ h.lst,all2_ix (All2.len h.tks) fun i ad x ea ex=>?_,h.nd1,h.nd2,ow _ _ (.inr (.inl rfl)) h.dic,h.ndk⟩
 obtain ⟨x',ex',dx',p,q,r,h1,h2,h3,h4,h5⟩:=All2.at h.tks ea
 rw [ex] at ex'
 cases ex'
 have m:=List.mem_of_getElem? ea
 exact ⟨dx',p,q,r,ow _ _ (.inr (.inr (.inl (List.mem_map_of_mem m)))) h1,tp _ _ h2,tp _ _ h3,tp _ _ h4,ow _ _ (.inr (.inr (.inr (List.mem_map_of_mem m)))) h5⟩
end
section
variable {C_Talk C_Table:Addr}
def Sol (o:HO):Prop:=Mut (some o)∨(∃ xs,o=.tup xs)∨∃ ob u,o=.frz ob u
open Classical in
noncomputable def sol (H:Hp)(W:Addr→Prop):Hp:=fun a=>if ¬ W a∧∃ o,H a=some o∧Sol o then H a else none
section
variable {H H':Hp}{W:Addr→Prop}{a:Addr}{o:HO}
theorem sol_of (n:¬ W a)(e:H a=some o)(s:Sol o):sol H W a=some o:=(if_pos ⟨n,o,e,s⟩).trans e
theorem sol_out (h:sol H W a=some o):¬ W a∧H a=some o∧Sol o:=by
 unfold sol at h
 split at h
 ·rename_i c
  obtain ⟨n,o',e,s⟩:=c
  rw [e] at h
  cases h
  exact ⟨n,e,s⟩
 ·cases h
theorem sol_low:Same (sol H W) H:=fun _ _ e=>(sol_out e).2.1
theorem sol_same (s:Same H H'):Same (sol H W) (sol H' W):=fun _ _ e=>by
 obtain ⟨n,e,so⟩:=sol_out e
 exact sol_of n (s _ _ e) so
end
theorem frame_gate {H:Hp}{t dx l kd:Addr}{B:Tb}{ads:List (Addr×Addr)}(tb:TabAt C_Talk C_Table H t B dx l kd ads) :
  ∃ S:Addr→Prop,(∀ a,S a→Mut (H a))∧TabAt C_Talk C_Table (cutH H S) t B dx l kd ads∧(∀ a xs,H a=some (.tup xs)→cutH H S a=some (.tup xs)) ∧
   ∀ (H2:Hp),(∀ b,hidB H S b→H2 b=none)→Keeps (cutH H S) H2→Same H2 (glueH H S H2)∧Keeps H (glueH H S H2) ∧
    ∀ (B2:Tb) (l2 kd2:Addr) (ads2:List (Addr×Addr)),TabAt C_Talk C_Table H2 t B2 dx l2 kd2 ads2→TabAt C_Talk C_Table (glueH H S H2) t B2 dx l2 kd2 ads2∧Same (sol H (Own t kd ads)) (sol (glueH H S H2) (Own t kd2 ads2)):=by
 let S:Addr→Prop:=fun a=>Mut (H a)∧¬ Own t kd ads a∧∀ xs,H a≠some (.lst xs)
 have hS:∀ a,S a→Mut (H a):=fun a s=>s.1
 have ls:∀ a xs,H a=some (.lst xs)→¬ hidB H S a:=fun a xs e=>by
  rintro (s | ⟨c,_,e'⟩)
  ·exact s.2.2 _ e
  ·rw [e] at e'
   cases e'
 have no:∀ a,Own t kd ads a→¬ hidB H S a:=fun a w=>by
  rintro (s | ⟨c,_,e'⟩)
  ·exact s.2.1 w
  ·have i:=tb.own w
   rw [e'] at i
   exact i
 have lsC:∀ a xs,H a=some (.lst xs)→cutH H S a=some (.lst xs):=fun a xs e=>(cut_out (ls a xs e)).trans e
 have tpC:∀ a xs,H a=some (.tup xs)→cutH H S a=some (.tup xs):=fun a xs e=>(cut_out (hid_tup hS e)).trans e
 refine ⟨S,hS,tb.to (fun a o w e=>(cut_out (no a w)).trans e) tpC lsC,tpC,fun H2 fr kp=>?_⟩
 have out:Same H2 (glueH H S H2):=fun a o e=>by
  rw [glue_out fun z=>by
   rw [fr a z] at e
   cases e]
  exact e
 have kk:Keeps H (glueH H S H2):=by
  refine ⟨fun a xs e=>out _ _ (kp.tup _ _ (tpC _ _ e)),fun a xs e=>out _ _ (kp.lst _ _ (lsC _ _ e)),fun a g=>?_,fun a o u e=>out _ _ (kp.frz _ _ _ ((cut_out (hid_frz hS e)).trans e))⟩
  by_cases hb:hidB H S a
  ·rwa [glue_in hb] at g
  ·rw [glue_out hb] at g
   have:=kp.free a g
   rwa [cut_out hb] at this
 refine ⟨out,kk,fun B2 l2 kd2 ads2 tb2=>⟨tb2.to (fun a o _ e=>out _ _ e) (fun a xs e=>out _ _ e) fun a xs e=>out _ _ e,fun a o e=>?_⟩⟩
 obtain ⟨n,e,so⟩:=sol_out e
 have key:∀ o',H2 a=some o'→¬ InsD (some o')→glueH H S H2 a=some o→sol (glueH H S H2) (Own t kd2 ads2) a=some o:=fun o' e2 ni eg=>sol_of (fun w=>ni (e2▸tb2.own w)) eg so
 by_cases il:∃ xs,o=.lst xs
 ·obtain ⟨xs,rfl⟩:=il
  exact key _ (kp.lst _ _ (lsC _ _ e)) id (kk.lst _ _ e)
 rcases id so with m | ⟨xs,rfl⟩ | ⟨ob,u,rfl⟩
 ·have hb:hidB H S a:=.inl ⟨by rw [e]; exact m,n,fun xs z=>il ⟨xs,by rw [e] at z; exact Option.some.inj z⟩⟩
  refine sol_of (fun w=>?_) ((glue_in hb).trans e) so
  have i:=tb2.own w
  rw [fr a hb] at i
  exact i
 ·exact key _ (kp.tup _ _ (tpC _ _ e)) id (kk.tup _ _ e)
 ·exact key _ (kp.frz _ _ _ ((cut_out (hid_frz hS e)).trans e)) id (kk.frz _ _ _ e)
end
--CUT--
section
variable {cRu cWo cBa cCa cBo C_Talk C_Table C_Gate:Addr}
theorem IsBook.to {H H':Hp}{b:Addr}{df:Str}{cs:Chs}{len:Str→Int}(h:IsBook cWo cBa cCa cBo H b df cs len)(k:∀ a o,Sol o→H a=some o→H' a=some o):IsBook cWo cBa cCa cBo H' b df cs len:=by
 obtain ⟨dx,kd,o,ps,ld,ls,h1,h2,h3,h4,h5⟩:=h
 refine ⟨dx,kd,o,ps,ld,ls,k _ _ (.inl True.intro) h1,k _ _ (.inr (.inr ⟨_,_,rfl⟩)) h2,All2.imp h3 fun _ _ r=>?_,k _ _ (.inl True.intro) h4,h5⟩
 obtain ⟨e1,e2,l,rs,e3,e4,e5⟩:=r
 refine ⟨e1,e2,l,rs,e3,k _ _ (.inl True.intro) e4,All2.imp e5 fun _ _ r=>?_⟩
 obtain ⟨a,e,dx,h⟩:=r
 exact ⟨a,e,dx,k _ _ (.inl True.intro) h⟩
structure TxG (K:PySem.W.Frag)(C_Gate:Addr):Prop where
 pg_Gate:PySem.W.plainGet K C_Gate Str.empty=true
 hd_Gate:PySem.W.hasDictIn K C_Gate=true
 po_Gate:PySem.W.plainOver K C_Gate=true
 sa_Gate:PySem.W.findIn K (.ref C_Gate) "__setattr__"=some (some (.builtin "object.__setattr__"))
 mk_Gate:PySem.W.makesIn K C_Gate=true
 kp_Gate:PySem.W.keepIn K (.ref C_Gate)=true
 n_book:PySem.W.findIn K (.ref C_Gate) "book"=some none
 n_changes:PySem.W.findIn K (.ref C_Gate) "changes"=some none
 n_table:PySem.W.findIn K (.ref C_Gate) "table"=some none
theorem TxG.cls (T:TxG K C_Gate):Cls K C_Gate:=⟨T.pg_Gate,T.hd_Gate,T.po_Gate,T.sa_Gate⟩
structure GD where
 df:Str
 cs:Chs
 len:Str→Int
 rank:Str→Nat
 bx:Addr→List (Int×Int)
 gs:List Chg
def gtFs (b ch t:Addr):List (Str×V):=[("book",.ref b),("changes",.ref ch),("table",.ref t)]
structure GtAt (cWo cBa cCa cBo C_Talk C_Table C_Gate:Addr)(H:Hp)(g:Addr)(D:GD)(B:Tb)(t dx l kd:Addr)(ads:List (Addr×Addr))(b ch dg:Addr)(vs:List V):Prop where
 tab:TabAt C_Talk C_Table H t B dx l kd ads
 gt:sol H (Own t kd ads) g=some (.ins C_Gate dg (gtFs b ch t))
 bk:IsBook cWo cBa cCa cBo (sol H (Own t kd ads)) b D.df D.cs D.len
 ok:BOk D.cs D.len D.rank
 bxs:BoxesAt H D.cs D.bx
 lst:H ch=some (.lst vs)
 chs:All2 (ChgAt H) vs D.gs
def GtOk (cWo cBa cCa cBo C_Talk C_Table C_Gate:Addr)(H:Hp)(g:Addr)(D:GD)(B:Tb):Prop:=∃ t dx l kd ads b ch dg vs,GtAt cWo cBa cCa cBo C_Talk C_Table C_Gate H g D B t dx l kd ads b ch dg vs
theorem bxs_to {H H':Hp}{cs:Chs}{bx:Addr→List (Int×Int)}(h:BoxesAt H cs bx)(k:∀ a xs,H a=some (.tup xs)→H' a=some (.tup xs)):BoxesAt H' cs bx:=fun c hc u hu=>⟨(h c hc u hu).1.mono k,(h c hc u hu).2⟩
theorem ChgAt.mono {H H':Hp}{v:V}{c:Chg}(h:ChgAt H v c)(k:∀ a xs,H a=some (.tup xs)→H' a=some (.tup xs)):ChgAt H' v c:=by
 obtain ⟨t,p,d,e,h1,h2,h3,h4,h5,h6⟩:=h
 exact ⟨t,p,d,e,k _ _ h1,h2.mono k,h3,h4,k _ _ h5,h6⟩
section
variable {H H':Hp}{g:Addr}{D:GD}{B B':Tb}{t dx l kd l' kd':Addr}{ads ads':List (Addr×Addr)}{b ch dg:Addr}{vs:List V}
theorem GtAt.next (h:GtAt cWo cBa cCa cBo C_Talk C_Table C_Gate H g D B t dx l kd ads b ch dg vs)(tb:TabAt C_Talk C_Table H' t B' dx l' kd' ads')(k:Keeps H H')(s:Same (sol H (Own t kd ads)) (sol H' (Own t kd' ads'))):GtAt cWo cBa cCa cBo C_Talk C_Table C_Gate H' g D B' t dx l' kd' ads' b ch dg vs :=
 ⟨tb,s _ _ h.gt,h.bk.same s,h.ok,bxs_to h.bxs k.tup,k.lst _ _ h.lst,All2.imp h.chs fun _ _ r=>r.mono k.tup⟩
theorem GtAt.same (h:GtAt cWo cBa cCa cBo C_Talk C_Table C_Gate H g D B t dx l kd ads b ch dg vs)(s:Same H H'):GtAt cWo cBa cCa cBo C_Talk C_Table C_Gate H' g D B t dx l kd ads b ch dg vs:=h.next (h.tab.same s) (Same.keeps s) (sol_same s)
theorem GtAt.ins (h:GtAt cWo cBa cCa cBo C_Talk C_Table C_Gate H g D B t dx l kd ads b ch dg vs):H g=some (.ins C_Gate dg (gtFs b ch t)):=sol_low _ _ h.gt
end
def spGateI (cWo cBa cCa cBo C_Talk C_Table C_Gate:Addr):Sp:=fun vs H Q _=>∃ (g dg b0 ch0:Addr) (D:GD) (vs':List V) (sh lo mo:Int),vs=[.ref g,.ref b0,.ref ch0,.int sh,.int lo,.int mo]∧H g=some (.ins C_Gate dg [])∧IsBook cWo cBa cCa cBo H b0 D.df D.cs D.len∧BOk D.cs D.len D.rank∧BoxesAt H D.cs D.bx∧H ch0=some (.lst vs')∧All2 (ChgAt H) vs' D.gs ∧
 ∀ H',But g H H'→(∀ W:Addr→Prop,(∀ a,W a→∃ xs,H a=some (.lst xs))→GtOk cWo cBa cCa cBo C_Talk C_Table C_Gate (sol H' W) g D ⟨sh,lo,mo,0,[]⟩)→Q .non H'
theorem ok_Gate_init (F:Fun K "__init__" "Gate.__init__" s_Gate___init__ f fd)(g_copy_of:Fn P w K mg base "copy_of" 7 ["book"] (spCopy cWo cBa cCa cBo))(gi_Table:FnI P w K mg base C_Table 1 ["self","short","long","most"] (spTabI C_Talk C_Table))(m_Table:mg "Table"=some (.ref C_Table))(b_list:mg "list"=none)(T:TxG K C_Gate):FnOk P w K mg base CX0 8 f fd ["self","book","changes","short","long","most"] (spGateI cWo cBa cCa cBo C_Talk C_Table C_Gate):=by
 refine F.ok sc_Gate___init__ (fun vs H Q E h=>?_) (fun cdv A outer s H vs Q E hr h=>?_)
 ·obtain ⟨_,_,_,_,_,_,_,_,_,rfl,_⟩:=h
  rfl
 obtain ⟨g,dg,b0,ch0,D,vs',sh,lo,mo,rfl,hg,bk,ok,bxs,hch,chs,q⟩:=h
 refine ⟨_,(@qb _ _ _ _ _ (qa2 (pv 0) (qj1 g_copy_of hr (by decide) rfl (qa (pv 1) qd0)) rfl) (@qb _ _ _ _ _ (qa2 (pv 0) (pe_callTy call_listR rfl b_list bo_list (qa (pv 2) qd0)) rfl) (@qf _ _ _ (qa2 (pv 0) (pe_new gi_Table hr (by decide) rfl m_Table (qa (pv 3) (qa (pv 4) (qa (pv 5) qd0)))) rfl)))),?_⟩
 rw [st_Gate___init__]
 walk_at "sv"
 refine ⟨b0,D.df,D.cs,D.len,D.rank,rfl,bk,ok,fun b H1 s1 bk1=>?_⟩
 walk_at "sv"
 refine qc2 [] (s1 _ _ hg) T.cls T.n_book rfl (by decide) (by decide) fun H2 u2 h2=>?_
 have b2:=(Same.but s1).trans u2
 have fr1:∀ a o,fresh H H1 a=some o→H2 a=some o∧a≠g:=fun a o e=>by
  have n:a≠g:=fun z=>by
   unfold fresh at e
   rw [z,hg] at e
   cases e
  exact ⟨u2 _ _ n (fr_same _ _ e),n⟩
 have nch:ch0≠g:=fun z=>by
  rw [z,hg] at hch
  cases hch
 walk_at "sv"
 refine LstOf.lst (SqL.of (b2 _ _ nch hch)) fun ch nch'=>?_
 have s3:=qh nch' (.lst vs')
 have hc3:upd H2 ch (.lst vs') ch=some (.lst vs'):=qe
 have h3:=s3 _ _ h2
 have ncg:ch≠g:=fun z=>by
  rw [z,h2] at nch'
  cases nch'
 generalize upd H2 ch (.lst vs')=H3 at *
 walk_at "sv"
 refine qc2 ["book"] h3 T.cls T.n_changes rfl (by decide) (by decide) fun H4 u4 h4=>?_
 have b4:=(b2.trans (Same.but s3)).trans u4
 have hc4:=u4 _ _ ncg hc3
 walk_at "sv"
 intro t dx nt nd ne
 have si:=same_ins (o:=.own t) (o':=.ins C_Table dx []) nt nd ne
 refine ⟨t,dx,sh,lo,mo,rfl,qe,fun l kd H5 nl nk u5 tb5=>⟨rfl,?_⟩⟩
 have ntg:g≠t:=qy0 h4 nt
 have s5:Same H4 H5:=fun a o e=>u5 _ _ (qy0 e nt) (si _ _ e)
 have nkg:g≠kd:=qy0 (si _ _ h4) nk
 walk_at "sv"
 refine qc2 ["book","changes"] (s5 _ _ h4) T.cls T.n_table rfl (by decide) (by decide) fun H6 u6 h6=>?_
 walk_at "sv"
 have b6:=(b4.trans (Same.but s5)).trans u6
 have tp:∀ a xs,H a=some (.tup xs)→H6 a=some (.tup xs):=fun a xs e=>b6 _ _ (fun z=>by
  rw [z,hg] at e
  cases e) e
 have l0:H l=none:=by
  cases e:H l with
  | none=>rfl
  | some o =>
   rw [si _ _ (b4 _ _ (fun z=>?_) e)] at nl
   ·cases nl
   ·subst z
    rw [si _ _ h4] at nl
    cases nl
 have ch0':H ch=none:=by
  cases e:H ch with
  | none=>rfl
  | some o =>
   rw [b2 _ _ ncg e] at nch'
   cases nch'
 refine q H6 b6 fun W hW=>?_
 have nW:∀ a,H a=none→¬ W a:=fun a e z=>by
  obtain ⟨xs,e'⟩:=hW a z
  rw [e] at e'
  cases e'
 have key:∀ a o,Sol o→H6 a=some o→(∀ xs,o≠.lst xs)→sol H6 W a=some o:=fun a o so e nl=>sol_of (fun z=>by
  obtain ⟨xs,e'⟩:=hW a z
  rw [b6 _ _ (fun y=>by
   rw [y,hg] at e'
   cases e') e'] at e
  exact nl xs (Option.some.inj e).symm) e so
 have tpW:∀ a xs,H6 a=some (.tup xs)→sol H6 W a=some (.tup xs):=fun a xs e=>key a _ (.inr (.inl ⟨_,rfl⟩)) e fun _ z=>by cases z
 have tt6:=u6 _ _ ntg.symm tb5.tab
 have nO:∀ a o,H4 a=some o→¬ Own t kd [] a:=fun a o e w=>by
  rcases w with rfl | rfl | w | w
  ·rw [nt] at e
   cases e
  ·rw [si _ _ e] at nk
   cases nk
  ·cases w
  ·cases w
 refine ⟨t,dx,l,kd,[],b,ch,dg,vs',⟨key _ _ (.inl True.intro) tt6 (fun _ z=>by cases z),sol_of (nW l l0) (u6 _ _ (fun z=>by
  have e:=tb5.lst
  rw [z,s5 _ _ h4] at e
  cases e) tb5.lst) (.inl True.intro),.nil,tb5.nd1,tb5.nd2,key _ _ (.inl True.intro) (u6 _ _ nkg.symm tb5.dic) (fun _ z=>by cases z),tb5.ndk⟩,sol_of (nO _ _ h4) (key _ _ (.inl True.intro) h6 (fun _ z=>by cases z)) (.inl True.intro),bk1.to fun a o so e=>?_,ok,bxs_to bxs fun a xs e=>tpW _ _ (tp _ _ e),sol_of (nW ch ch0') (u6 _ _ ncg (s5 _ _ hc4)) (.inl True.intro),All2.imp chs fun _ _ r=>r.mono fun a xs e=>tpW _ _ (tp _ _ e)⟩
 obtain ⟨e2,ng⟩:=fr1 a o e
 have e4:=u4 _ _ ng (s3 _ _ e2)
 have n0:H a=none:=by
  unfold fresh at e
  split at e
  ·rename_i h
   exact Option.isNone_iff_eq_none.mp h
  ·cases e
 exact sol_of (nO _ _ e4) (sol_of (nW a n0) (u6 _ _ ng (s5 _ _ e4)) so) so
def spGTurn (cWo cBa cCa cBo C_Talk C_Table C_Gate:Addr):Sp:=fun vs H Q _=>∃ (g p:Addr) (D:GD) (B:Tb) (ns:List Int),vs=[.ref g,.ref p]∧GtOk cWo cBa cCa cBo C_Talk C_Table C_Gate H g D B∧IsPt H p ns∧Q (.int (qm1 B.ts ns)) H
theorem ok_Gate_turn (F:Fun K "turn" "Gate.turn" s_Gate_turn f fd)(gm_Table_turn:FnM P w K mg base C_Table "turn" 1 ["self","label"] (spTurn C_Talk C_Table))(TT:TxT K C_Talk C_Table)(T:TxG K C_Gate):FnOk P w K mg base CX0 2 f fd ["self","label"] (spGTurn cWo cBa cCa cBo C_Talk C_Table C_Gate):=by
 refine F.ok sc_Gate_turn (fun vs H Q E h=>?_) (fun cdv A outer s H vs Q E hr h=>?_)
 ·obtain ⟨_,_,_,_,_,rfl,_⟩:=h
  rfl
 obtain ⟨g,p,D,B,ns,rfl,⟨t,dx,l,kd,ads,b,ch,dg,vs,ga⟩,hp,q⟩:=h
 refine ⟨_,(@qf _ _ _ (qq0 (qq1 (qx0 (pv 0) rfl) hr (qa (pv 1) qd0)))),?_⟩
 rw [st_Gate_turn]
 walk_at "sv"
 refine FldR.go ga.ins T.cls T.n_table (by rfl) ?_
 refine MethR.go gm_Table_turn ga.tab.tab TT.table (tab_no (by decide)) (by decide) ?_
 walk_at "sv"
 exact ⟨t,p,dx,l,kd,B,ads,ns,rfl,ga.tab,hp,q⟩
def spGStand (cWo cBa cCa cBo C_Talk C_Table C_Gate:Addr):Sp:=fun vs H Q _=>∃ (g:Addr) (D:GD) (B:Tb),vs=[.ref g]∧GtOk cWo cBa cCa cBo C_Talk C_Table C_Gate H g D B∧B.ts.length≤200∧∀ Dl us H',H Dl=none→Same H H'→H' Dl=some (.lst us)→All2 (RwAt H') us B.ts→Q (.ref Dl) H'
theorem ok_Gate_stand (F:Fun K "standing" "Gate.standing" s_Gate_standing f fd)(gm_Table_standing:FnM P w K mg base C_Table "standing" 1 ["self"] (spStand C_Talk C_Table))(TT:TxT K C_Talk C_Table)(T:TxG K C_Gate):FnOk P w K mg base CX0 2 f fd ["self"] (spGStand cWo cBa cCa cBo C_Talk C_Table C_Gate):=by
 refine F.ok sc_Gate_standing (fun vs H Q E h=>?_) (fun cdv A outer s H vs Q E hr h=>?_)
 ·obtain ⟨_,_,_,rfl,_⟩:=h
  rfl
 obtain ⟨g,D,B,rfl,⟨t,dx,l,kd,ads,b,ch,dg,vs,ga⟩,few,q⟩:=h
 refine ⟨_,(@qf _ _ _ (qq0 (pe_methA0 (qx0 (pv 0) rfl) hr))),?_⟩
 rw [st_Gate_standing]
 walk_at "sv"
 refine FldR.go ga.ins T.cls T.n_table (by rfl) ?_
 refine MethR.go gm_Table_standing ga.tab.tab TT.table (tab_no (by decide)) (by decide) ?_
 walk_at "sv"
 exact ⟨t,dx,l,kd,B,ads,rfl,ga.tab,few,q⟩
end
--CUT--
section
variable {cRu cWo cBa cCa cBo C_Talk C_Table C_Gate C_OutOfTime:Addr}
theorem choice_free {ts:List Tk}{ns ms:List Int}{cs:List Chg}(n5:ns.length=5)(h:choiceOf ts ns cs=some ms):qt1 ts ns ms=true∧ms.length=5:=by
 unfold choiceOf at h
 split at h
 ·cases h
 ·split at h
  ·unfold choiceBy at h
   obtain ⟨i,_,e⟩:=List.mem_map.mp (List.mem_of_find?_eq_some h)
   exact ⟨List.find?_some h,e▸chg_len n5⟩
  ·split at h
   ·cases h
    exact ⟨by assumption,n5⟩
   ·cases h
structure Ans where
 word:Str
 sent:Option (List Int)
 tab:Tb
def begT (B:Tb)(gs:List Chg)(ns:List Int)(last:Bool):Ans:=if B.most≤B.ts.length then ⟨"full",none,B⟩ else match choiceOf B.ts ns gs with
 | none=>⟨"full",none,B⟩
 | some ms=>⟨"pass",some ms,(B.begin ns ms).go ns last ⟨ns,ms,false,B.time+B.short,[]⟩⟩
def takeT (B:Tb)(gs:List Chg)(ns:List Int)(last:Bool)(wd:Str):Ans:=if wd="stop" then ⟨"stop",none,B⟩ else match B.ts.find? (qz0 ns) with
 | some x=>⟨"pass",some (if ns=x.back then flipL x.lab else x.sent),B.go ns last x⟩
 | none=>begT B gs ns last
def AnsAt (H:Hp)(v:V)(a:Ans):Prop:=∃ r u,v=.ref r∧H r=some (.tup [.str a.word,u])∧LabV H u a.sent
def spBegT (cWo cBa cCa cBo C_Talk C_Table C_Gate:Addr):Sp:=fun vs H Q _=>∃ (g p:Addr) (D:GD) (B:Tb) (ns:List Int) (last:Bool),vs=[.ref g,.ref p,.bl last]∧GtOk cWo cBa cCa cBo C_Talk C_Table C_Gate H g D B∧TsOk B.ts∧B.ts.length<200∧IsPt H p ns∧ns.length=5∧B.ts.find? (qz0 ns)=none ∧
 ∀ v H',Keeps H H'→GtOk cWo cBa cCa cBo C_Talk C_Table C_Gate H' g D (begT B D.gs ns last).tab→AnsAt H' v (begT B D.gs ns last)→Q v H'
theorem ok_begT (F:Fun K "begin_talk" "Gate.begin_talk" s_Gate_begin_talk f fd)(gm_Table_is_full:FnM P w K mg base C_Table "is_full" 1 ["self"] (spFull C_Talk C_Table))(g_choice:Fn P w K mg base "choice" 5 ["changes","label","table"] (spChoice C_Talk C_Table))(gm_Table_begin:FnM P w K mg base C_Table "begin" 4 ["self","label","sent"] (frm (spBegin C_Talk C_Table)))(gm_Table_go_on:FnM P w K mg base C_Table "go_on" 3 ["self","label","last"] (frm (spGo C_Talk C_Table)))
  (TT:TxT K C_Talk C_Table) (T:TxG K C_Gate):FnOk P w K mg base CX0 6 f fd ["self","label","last"] (spBegT cWo cBa cCa cBo C_Talk C_Table C_Gate):=by
 refine F.ok sc_Gate_begin_talk (fun vs H Q E h=>?_) (fun cdv A outer s H vs Q E hr h=>?_)
 ·obtain ⟨_,_,_,_,_,_,rfl,_⟩:=h
  rfl
 obtain ⟨g,p,D,B,ns,last,rfl,⟨t,dx,l,kd,ads,b,ch,dg,vs,ga⟩,ok,few,hp,n5,nf,q⟩:=h
 refine ⟨_,(@qb _ _ _ _ _ (ql (i:=3) sc_Gate_begin_talk.nd rfl (Or.inl rfl) (pe_ifExp (pt_val (pe_methA0 (qx0 (pv 0) rfl) hr)) pe_non (qj1 g_choice hr (by decide) rfl (qa (qx0 (pv 0) rfl) (qa (pv 1) (qa (qx0 (pv 0) rfl) qd0)))))) (@qb _ _ _ _ _ (@qo1 _ _ _ _ _ _ _ _ (qv op_isN (pv 3) pe_non (qa1 _)) (@qf _ _ _ (qq0 (qo (qa qr1 (qa pe_non qd0))))) qw) (@qb _ _ _ _ _ (qw1 (qq1 (qx0 (pv 0) rfl) hr (qa (pv 1) (qa (pv 3) qd0)))) (@qf _ _ _ (qq0 (qo (qa qr1 (qa (qq1 (qx0 (pv 0) rfl) hr (qa (pv 1) (qa (pv 2) qd0))) qd0)))))))),?_⟩
 rw [st_Gate_begin_talk]
 walk_at "sv"
 refine FldR.go ga.ins T.cls T.n_table (by rfl) ?_
 refine MethR.go gm_Table_is_full ga.tab.tab TT.table (tab_no (by decide)) (by decide) ?_
 walk_at "sv"
 refine ⟨t,dx,l,kd,B,ads,rfl,ga.tab,?_⟩
 walk_at "sv"
 refine IfR.dec (fun fu=>?_) (fun fu=>?_)
 ·have e:begT B D.gs ns last=⟨"full",none,B⟩:=if_pos fu
  rw [e] at q
  walk_at "sv"
  refine TupR.go (by simp) fun r nr=>?_
  have s1:=qh nr (.tup [.str "full",.non])
  exact q _ _ (Same.keeps s1) ⟨t,dx,l,kd,ads,b,ch,dg,vs,ga.same s1⟩ ⟨r,.non,rfl,qe,rfl⟩
 ·walk_at "sv"
  refine FldR.go ga.ins T.cls T.n_changes (by rfl) ?_
  refine FldR.go ga.ins T.cls T.n_table (by rfl) ?_
  walk_at "sv"
  refine ⟨t,p,dx,l,kd,ch,vs,D.gs,B,ads,ns,rfl,ga.lst,ga.chs,ga.tab,hp,n5,fun u H1 s1 lab=>?_⟩
  have g1:=ga.same s1
  have hp1:=hp.same s1
  walk_at "sv"
  cases ec:choiceOf B.ts ns D.gs with
  | none =>
   rw [ec] at lab
   obtain rfl:u=.non:=lab
   have e:begT B D.gs ns last=⟨"full",none,B⟩:=by
    unfold begT
    rw [if_neg fu,ec]
   rw [e] at q
   walk_at "sv"
   refine TupR.go (by simp) fun r nr=>?_
   have s2:=qh nr (.tup [.str "full",.non])
   exact q _ _ (Same.keeps (s1.trans s2)) ⟨t,dx,l,kd,ads,b,ch,dg,vs,g1.same s2⟩ ⟨r,.non,rfl,qe,rfl⟩
  | some ms =>
   rw [ec] at lab
   obtain ⟨qd,rfl,hq⟩:=lab
   obtain ⟨fr,m5⟩:=choice_free n5 ec
   have e:begT B D.gs ns last=⟨"pass",some ms,(B.begin ns ms).go ns last ⟨ns,ms,false,B.time+B.short,[]⟩⟩:=by
    unfold begT
    rw [if_neg fu,ec]
   rw [e] at q
   rw [show decide (V.ref qd=V.non)=false from decide_eq_false (by intro c; cases c)]
   walk_at "sv"
   refine FldR.go g1.ins T.cls T.n_table (by rfl) ?_
   refine MethR.go gm_Table_begin g1.tab.tab TT.table (tab_no (by decide)) (by decide) ?_
   walk_at "sv"
   obtain ⟨S,hS,tbS,tpS,nxt⟩:=frame_gate g1.tab
   refine ⟨S,hS,t,p,qd,dx,l,kd,B,ads,ns,ms,rfl,tbS,ok,few,tpS _ _ hp1,tpS _ _ hq,n5,m5,fu,fr,fun l2 kd2 ads2 H2 kp2 tb2 fr2=>?_⟩
   obtain ⟨o2,k2,x2⟩:=nxt H2 fr2 kp2
   obtain ⟨tb2',sm2⟩:=x2 _ _ _ _ tb2
   have g2:=g1.next tb2' k2 sm2
   have hp2:=k2.tup _ _ hp1
   generalize glueH H1 S H2=K2 at *
   walk_at "sv"
   refine FldR.go g2.ins T.cls T.n_table (by rfl) ?_
   refine MethR.go gm_Table_go_on g2.tab.tab TT.table (tab_no (by decide)) (by decide) ?_
   walk_at "sv"
   obtain ⟨S',hS',tbS',tpS',nxt'⟩:=frame_gate g2.tab
   have fx:(B.begin ns ms).ts.find? (qz0 ns)=some ⟨ns,ms,false,B.time+B.short,[]⟩:=by
    show (B.ts++[_]).find? (qz0 ns)=_
    rw [List.find?_append,nf]
    show List.find? _ [_]=_
    rw [List.find?_cons]
    unfold qz0
    rw [decide_eq_true (p:=ns=ns) rfl]
    rfl
   refine ⟨S',hS',t,p,dx,l2,kd2,B.begin ns ms,ads2,ns,last,_,rfl,tbS',ok_snoc ok few n5 m5 fr,tpS' _ _ hp2,fx,Nat.zero_le _,fun r l3 kd3 ads3 H3 _ kp3 tb3 hr3 fr3=>?_⟩
   obtain ⟨o3,k3,x3⟩:=nxt' H3 fr3 kp3
   obtain ⟨tb3',sm3⟩:=x3 _ _ _ _ tb3
   have g3:=g2.next tb3' k3 sm3
   have hr4:=o3 _ _ hr3
   generalize glueH K2 S' H3=K3 at *
   have nb:¬ ns=flipL ms:=by
    unfold qt1 at fr
    rw [Bool.and_eq_true,Bool.and_eq_true,Bool.not_eq_true',decide_eq_false_iff_not] at fr
    exact fr.1.1
   rw [show (if ns=Tk.back ⟨ns,ms,false,B.time+B.short,[]⟩ then _ else _)=ms from if_neg nb] at hr4
   walk_at "sv"
   refine TupR.go (by simp) fun r' nr'=>?_
   have s4:=qh nr' (.tup [.str "pass",.ref r])
   exact q _ _ (((Same.keeps s1).trans k2).trans (k3.trans (Same.keeps s4))) ⟨t,dx,l3,kd3,ads3,b,ch,dg,vs,g3.same s4⟩ ⟨r',.ref r,rfl,qe,r,rfl,s4 _ _ hr4⟩
end
--CUT--
theorem qt {t u:TS}{D:Ends}{σ:L2.St}{H:Hp}(h:∀ N:L2.St→Hp→Prop,(∀ σ H,u D σ H→N σ H)→t { D with nx:=N } σ H):tSeq t u D σ H:=h _ fun _ _ z=>z
section
variable {cRu cWo cBa cCa cBo C_Talk C_Table C_Gate:Addr}
def spTake (cWo cBa cCa cBo C_Talk C_Table C_Gate:Addr):Sp:=fun vs H Q _=>∃ (g p:Addr) (D:GD) (B:Tb) (m:Int) (ns:List Int) (last:Bool),vs=[.ref g,.int m,.ref p,.bl last]∧GtOk cWo cBa cCa cBo C_Talk C_Table C_Gate H g D B∧TsOk B.ts∧B.ts.length<200∧(∀ x∈B.ts,x.fw.length≤300)∧B.time≤m∧IsPt H p ns∧ns.length=5 ∧
 ∀ dn wd v H',Reads D.cs (fun u=>inBox (D.bx u.2) (qm1 (B.at m).ts ns::ns)) D.df [("main",0)] dn wd→Keeps H H'→GtOk cWo cBa cCa cBo C_Talk C_Table C_Gate H' g D (takeT (B.at m) D.gs ns last wd).tab→AnsAt H' v (takeT (B.at m) D.gs ns last wd)→Q v H'
theorem turn_key {ts:List Tk}{ns:List Int}:(qm1 ts ns=0↔ts.find? (qz0 ns)=none):=by
 unfold qm1
 split
 ·rename_i e
  rw [e]
  exact ⟨fun _=>rfl,fun _=>rfl⟩
 ·rename_i x e
  rw [e]
  refine ⟨fun h=>?_,fun h=>by cases h⟩
  split at h
  ·cases h
  ·split at h <;> cases h
theorem ok_take (F:FunD K "take" "Gate.take" s_Gate_take [.bool false] f fd)(gm_Table_at:FnM P w K mg base C_Table "at" 2 ["self","moment"] (frm (spAt C_Talk C_Table)))(gm_Table_turn:FnM P w K mg base C_Table "turn" 1 ["self","label"] (spTurn C_Talk C_Table))(gm_Table_go_on:FnM P w K mg base C_Table "go_on" 3 ["self","label","last"] (frm (spGo C_Talk C_Table)))
  (gm_Gate_begin_talk:FnM P w K mg base C_Gate "begin_talk" 6 ["self","label","last"] (spBegT cWo cBa cCa cBo C_Talk C_Table C_Gate)) (g_word_of:Fn P w K mg base "word_of" 5 ["book","parcel"] (spWordOf cWo cBa cCa cBo)) (TT:TxT K C_Talk C_Table) (T:TxG K C_Gate):FnOk P w K mg base CX0 7 f fd ["self","moment","label","last"] (spTake cWo cBa cCa cBo C_Talk C_Table C_Gate):=by
 refine fun_okD F sc_Gate_take (fun vs H Q E h=>?_) (fun cdv A outer s H vs Q E hr h=>?_)
 ·obtain ⟨_,_,_,_,_,_,_,rfl,_⟩:=h
  rfl
 obtain ⟨g,p,D,B,m,ns,last,rfl,⟨t,dx,l,kd,ads,b,ch,dg,vs,ga⟩,ok,few,fw,le,hp,n5,q⟩:=h
 refine ⟨_,(@qb _ _ _ _ _ (qw1 (qq1 (qx0 (pv 0) rfl) hr (qa (pv 1) qd0))) (@qb _ _ _ _ _ (ql (i:=4) sc_Gate_take.nd rfl (Or.inl rfl) (qq1 (qx0 (pv 0) rfl) hr (qa (pv 2) qd0))) (@qb _ _ _ _ _ (@qo1 _ _ _ _ _ _ _ _ (qv op_eq (qj1 g_word_of hr (by decide) rfl (qa (qx0 (pv 0) rfl) (qa (qs0 op_catA (qo (qa (pv 4) qd0)) (pv 2)) qd0))) qr1 (qa1 _)) (@qf _ _ _ (qq0 (qo (qa qr1 (qa pe_non qd0))))) qw) (@qb _ _ _ _ _ (@qo1 _ _ _ _ _ _ _ _ (qv op_ne (pv 4) qc (qa1 _)) (@qf _ _ _ (qq0 (qo (qa qr1 (qa (qq1 (qx0 (pv 0) rfl) hr (qa (pv 2) (qa (pv 3) qd0))) qd0))))) qw) (@qf _ _ _ (qq0 (qq1 (pv 0) hr (qa (pv 2) (qa (pv 3) qd0))))))))),?_⟩
 rw [st_Gate_take]
 refine qt fun N go=>?_
 walk_at "sv"
 refine FldR.go ga.ins T.cls T.n_table (by rfl) ?_
 refine MethR.go gm_Table_at ga.tab.tab TT.table (tab_no (by decide)) (by decide) ?_
 walk_at "sv"
 obtain ⟨S,hS,tbS,tpS,nxt⟩:=frame_gate ga.tab
 refine ⟨S,hS,t,dx,l,kd,B,ads,m,rfl,tbS,ok,le,fun l2 kd2 ads2 H2 kp2 tb2 fr2=>?_⟩
 obtain ⟨o2,k2,x2⟩:=nxt H2 fr2 kp2
 obtain ⟨tb2',sm2⟩:=x2 _ _ _ _ tb2
 have g2:=ga.next tb2' k2 sm2
 have hp2:IsPt _ p ns:=k2.tup _ _ hp
 generalize glueH H S H2=K2 at *
 refine go _ _ ?_
 clear go
 refine qt fun N go=>?_
 walk_at "sv"
 refine FldR.go g2.ins T.cls T.n_table (by rfl) ?_
 refine MethR.go gm_Table_turn g2.tab.tab TT.table (tab_no (by decide)) (by decide) ?_
 walk_at "sv"
 refine ⟨t,p,dx,l2,kd2,B.at m,ads2,ns,rfl,g2.tab,hp2,?_⟩
 walk_at "sv"
 refine go _ _ ?_
 clear go
 refine qt fun N go=>?_
 walk_at "sv"
 refine FldR.go g2.ins T.cls T.n_book (by rfl) ?_
 walk_at "sv"
 refine TupR.go (by simp) fun q3 nq3=>?_
 have s3:=qh nq3 (.tup [.int (qm1 (B.at m).ts ns)])
 have h3:upd K2 q3 (.tup [.int (qm1 (B.at m).ts ns)]) q3=some (.tup [.int (qm1 (B.at m).ts ns)]):=qe
 generalize upd K2 q3 (.tup [.int (qm1 (B.at m).ts ns)])=K3 at *
 refine catA_go h3 (s3 _ _ hp2) (by rw [List.length_map,n5]; show 1+5≤1000; decide) fun q4 K4 s4 h4=>?_
 have g4:=g2.same (s3.trans s4)
 refine ⟨b,q4,D.df,D.cs,D.len,D.rank,D.bx,qm1 (B.at m).ts ns::ns,rfl,g4.bk.same sol_low,g4.ok.nok,g4.ok.lens,g4.ok.main,g4.ok.most,g4.bxs,h4,by rw [List.length_cons,n5],fun dn wd K5 s5 rd=>?_⟩
 have g5:=g4.same s5
 have s25:=(s3.trans s4).trans s5
 have hp5:=hp2.same s25
 have k5:=k2.trans (Same.keeps s25)
 have q:=q dn wd
 walk_at "sv"
 refine BrS.dec (fun st=>?_) (fun st=>?_)
 ·have e:takeT (B.at m) D.gs ns last wd=⟨"stop",none,B.at m⟩:=if_pos st
  rw [e] at q
  walk_at "sv"
  refine TupR.go (by simp) fun r nr=>?_
  have s6:=qh nr (.tup [.str "stop",.non])
  exact q _ _ rd (k5.trans (Same.keeps s6)) ⟨t,dx,l2,kd2,ads2,b,ch,dg,vs,g5.same s6⟩ ⟨r,.non,rfl,qe,rfl⟩
 walk_at "sv"
 refine go _ _ ?_
 clear go
 refine qt fun N go=>?_
 walk_at "sv"
 have okm:TsOk (B.at m).ts:=ok.filter _
 rw [← decide_not]
 refine BrS.dec (fun tn=>?_) (fun tn=>?_)
 ·obtain ⟨x,fx⟩:∃ x,(B.at m).ts.find? (qz0 ns)=some x:=by
   cases e:(B.at m).ts.find? (qz0 ns) with
   | none=>exact absurd (turn_key.mpr e) tn
   | some x=>exact ⟨x,rfl⟩
  have e:takeT (B.at m) D.gs ns last wd=⟨"pass",some (if ns=x.back then flipL x.lab else x.sent),(B.at m).go ns last x⟩:=by
   unfold takeT
   rw [if_neg st,fx]
  rw [e] at q
  walk_at "sv"
  refine FldR.go g5.ins T.cls T.n_table (by rfl) ?_
  refine MethR.go gm_Table_go_on g5.tab.tab TT.table (tab_no (by decide)) (by decide) ?_
  walk_at "sv"
  obtain ⟨S',hS',tbS',tpS',nxt'⟩:=frame_gate g5.tab
  refine ⟨S',hS',t,p,dx,l2,kd2,B.at m,ads2,ns,last,x,rfl,tbS',okm,tpS' _ _ hp5,fx,fw x (List.mem_filter.mp (List.mem_of_find?_eq_some fx)).1,fun r l3 kd3 ads3 H3 _ kp3 tb3 hr3 fr3=>?_⟩
  obtain ⟨o3,k3,x3⟩:=nxt' H3 fr3 kp3
  obtain ⟨tb3',sm3⟩:=x3 _ _ _ _ tb3
  have g6:=g5.next tb3' k3 sm3
  have hr6:=o3 _ _ hr3
  generalize glueH K5 S' H3=K6 at *
  walk_at "sv"
  refine TupR.go (by simp) fun r' nr'=>?_
  have s7:=qh nr' (.tup [.str "pass",.ref r])
  exact q _ _ rd ((k5.trans k3).trans (Same.keeps s7)) ⟨t,dx,l3,kd3,ads3,b,ch,dg,vs,g6.same s7⟩ ⟨r',.ref r,rfl,qe,r,rfl,s7 _ _ hr6⟩
 ·have tn:qm1 (B.at m).ts ns=0:=Classical.not_not.mp tn
  have nf:=turn_key.mp tn
  have e:takeT (B.at m) D.gs ns last wd=begT (B.at m) D.gs ns last:=by
   unfold takeT
   rw [if_neg st,nf]
  rw [e] at q
  walk_at "sv"
  refine go _ _ ?_
  clear go
  walk_at "sv"
  refine MethR.go gm_Gate_begin_talk g5.ins T.cls (by rfl) (by decide) ?_
  walk_at "sv"
  refine ⟨g,p,D,B.at m,ns,last,rfl,⟨t,dx,l2,kd2,ads2,b,ch,dg,vs,g5⟩,okm,Nat.lt_of_le_of_lt (List.length_filter_le _ _) few,hp5,n5,nf,fun v K6 k6 g6 an=>?_⟩
  walk_at "sv"
  exact q v K6 rd (k5.trans k6) g6 an
theorem take_b0 (F:FunD K "take" "Gate.take" s_Gate_take [.bool false] f fd):Binds K fd ["self","moment","label","last"] []:=fun s us KX hl=>by
 obtain ⟨oc,od,a,kV,doc,pm,an,cdv,ct,osl,o,n,rfl,lk,hcd,ta,ts⟩:=F.ex
 rw [List.append_nil] at hl ⊢
 match us,hl with
 | [x,y,z,u],_=>exact BindsTo.of_defaults rfl (KX _ _ ta) ts rfl rfl
end
--CUT--
theorem qz1 (a:Int){b:Int}(h:0<b):0≤a % b∧a % b<b:=⟨Int.emod_nonneg _ (by omega),Int.emod_lt_of_pos _ h⟩
theorem nat_of {a:Int}{n:Nat}(h0:0≤a)(h1:a<(n:Int)):∃ m:Nat,a=(m:Int)∧m<n:=⟨a.toNat,by omega,by omega⟩
theorem ok_lflip (F:Fun K "_law_flip" "_law_flip" s__law_flip f fd):FnOk P w K mg base CX0 1 f fd ["_law_label_here"] spFlip:=by
 refine F.ok sc__law_flip (fun vs H Q E h=>?_) (fun cdv A outer s H vs Q E hr h=>?_)
 ·obtain ⟨_,_,_,_,_,_,rfl,_⟩:=h
  rfl
 obtain ⟨p,k,sd,n,r,fr,rfl,hp,q⟩:=h
 refine ⟨_,(@qf _ _ _ (qq0 (qo (qa (qi qm (pv 0) qc (fun _ _=>rfl)) (qa (qi qm (pv 0) qc (fun _ _=>rfl)) (qa (qi qm (pv 0) qc (fun _ _=>rfl)) (qa (qi qm (pv 0) qc (fun _ _=>rfl)) (qa (qi qm (pv 0) qc (fun _ _=>rfl)) qd0)))))))),?_⟩
 rw [st__law_flip]
 walk_at "sv"
 refine ixT_go (i:=0) (SqT.of hp) rfl ?_
 walk_at "sv"
 refine ixT_go (i:=3) (SqT.of hp) rfl ?_
 walk_at "sv"
 refine ixT_go (i:=4) (SqT.of hp) rfl ?_
 walk_at "sv"
 refine ixT_go (i:=1) (SqT.of hp) rfl ?_
 walk_at "sv"
 refine ixT_go (i:=2) (SqT.of hp) rfl ?_
 walk_at "sv"
 refine TupR.go (by simp) fun t nt=>?_
 exact q _ _ nt (qh nt _) qe
def EndAt (H:Hp)(v:V)(e:Int×Int):Prop:=∃ a,v=.ref a∧H a=some (.tup [.int e.1,.int e.2])
theorem EndAt.same {H H':Hp}{v:V}{e:Int×Int}(h:EndAt H v e)(s:Same H H'):EndAt H' v e:=by
 obtain ⟨a,e,h⟩:=h
 exact ⟨a,e,s _ _ h⟩
def EndOk (e:Int×Int):Prop:=0≤e.1∧e.1<4294967296∧0≤e.2∧e.2<65536
def labOf (k:Int)(e e':Int×Int):List Int:=[k,e.1,e.2,e'.1,e'.2]
def LabT (ns:List Int):Prop:=∃ k s n r f:Int,ns=[k,s,n,r,f]∧(0≤k∧k<256)∧(0≤s∧s<4294967296)∧(0≤n∧n<65536)∧(0≤r∧r<4294967296)∧(0≤f∧f<65536)
theorem LabT.len {ns:List Int}(h:LabT ns):ns.length=5:=by
 obtain ⟨k,s,n,r,f,rfl,_⟩:=h
 rfl
theorem LabT.flip {ns:List Int}(h:LabT ns):LabT (flipL ns):=by
 obtain ⟨k,s,n,r,f,rfl,h1,h2,h3,h4,h5⟩:=h
 exact ⟨k,r,f,s,n,rfl,h1,h4,h5,h2,h3⟩
theorem LabT.chg {ns:List Int}{side:Str}{a d:Int}(h:LabT ns)(ha:0≤a∧a<4294967296)(hd:0≤d∧d<65536):LabT (chgL side ns a d):=by
 obtain ⟨k,s,n,r,f,rfl,h1,h2,h3,h4,h5⟩:=h
 show LabT (if side="from" then [k,a,d,r,f] else [k,s,n,a,d])
 by_cases c:side="from"
 ·rw [if_pos c]
  exact ⟨k,a,d,r,f,rfl,h1,ha,hd,h4,h5⟩
 ·rw [if_neg c]
  exact ⟨k,s,n,a,d,rfl,h1,h2,h3,ha,hd⟩
theorem lab_t {k:Int}{e e':Int×Int}(h0:0≤k)(h1:k<256)(he:EndOk e)(he':EndOk e'):LabT (labOf k e e'):=⟨k,e.1,e.2,e'.1,e'.2,rfl,⟨h0,h1⟩,⟨he.1,he.2.1⟩,he.2.2,⟨he'.1,he'.2.1⟩,he'.2.2⟩
theorem pick_end {H:Hp}{vs:List V}{es:List (Int×Int)}(al:All2 (EndAt H) vs es)(l4:es.length=4)(c:Int):∃ (m:Nat) (a:Addr) (e:Int×Int),c % 4=(m:Int)∧vs[m]?=some (.ref a)∧es[m]?=some e∧H a=some (.tup [.int e.1,.int e.2]):=by
 obtain ⟨h0,h1⟩:=qz1 c (show (0:Int)<4 by decide)
 obtain ⟨m,em,lm⟩:=nat_of (n:=4) h0 h1
 obtain ⟨e,ee⟩:=at_of lm l4
 obtain ⟨v,ev,a,rfl,ha⟩:=All2.ix al ee
 exact ⟨m,a,e,em,ev,ee,ha⟩
def EndsAt (H:Hp)(t:Addr):Prop:=∃ (lk le:Addr) (ks:List Int) (evs:List V) (es:List (Int×Int)),H t=some (.tup [.ref lk,.ref le])∧H lk=some (.lst (ks.map V.int))∧ks.length=4∧(∀ k∈ks,0≤k∧k<256)∧H le=some (.lst evs)∧All2 (EndAt H) evs es∧es.length=4∧∀ e∈es,EndOk e
theorem EndsAt.to {H H':Hp}{t:Addr}(h:EndsAt H t)(tp:∀ a xs,H a=some (.tup xs)→H' a=some (.tup xs))(ls:∀ a xs,H a=some (.lst xs)→H' a=some (.lst xs)):EndsAt H' t:=by
 obtain ⟨lk,le,ks,evs,es,h1,h2,h3,h4,h5,h6,h7,h8⟩:=h
 exact ⟨lk,le,ks,evs,es,tp _ _ h1,ls _ _ h2,h3,h4,ls _ _ h5,All2.imp h6 fun _ _ r=>by
  obtain ⟨a,e,h⟩:=r
  exact ⟨a,e,tp _ _ h⟩,h7,h8⟩
theorem EndsAt.same {H H':Hp}{t:Addr}(h:EndsAt H t)(s:Same H H'):EndsAt H' t:=h.to (fun a xs e=>s _ _ e) fun a xs e=>s _ _ e
def spEnds:Sp:=fun vs H Q _=>∃ c:Int,vs=[.int c]∧∀ t H',Same H H'→EndsAt H' t→Q (.ref t) H'
theorem ok_ends (F:Fun K "_law_ends" "_law_ends" s__law_ends f fd)(g__law_stream:Fn P w K mg base "_law_stream" 1 ["_law_cell","_law_many"] spStream):FnOk P w K mg base CX0 2 f fd ["_law_cell"] spEnds:=by
 refine F.ok sc__law_ends (fun vs H Q E h=>?_) (fun cdv A outer s H vs Q E hr h=>?_)
 ·obtain ⟨_,rfl,_⟩:=h
  rfl
 obtain ⟨c,rfl,q⟩:=h
 refine ⟨_,(@qb _ _ _ _ _ (ql (i:=1) sc__law_ends.nd rfl (Or.inl rfl) (qj1 g__law_stream hr (by decide) rfl (qa (pv 0) (qa qc qd0)))) (@qb _ _ _ _ _ (ql (i:=2) sc__law_ends.nd rfl (Or.inl rfl) (qs0 qf1 (qi qp (pv 1) qc (fun _ _=>rfl)) qc)) (@qb _ _ _ _ _ (ql (i:=3) sc__law_ends.nd rfl (Or.inl rfl) (qo (qa (qs0 qf1 (qi qp (pv 1) qc (fun _ _=>rfl)) qc) (qa (qs0 qf1 (qi qp (pv 1) qc (fun _ _=>rfl)) qc) qd0)))) (@qb _ _ _ _ _ (ql (i:=4) sc__law_ends.nd rfl (Or.inl rfl) (qo (qa (qs0 qf1 (qi qp (pv 1) qc (fun _ _=>rfl)) qc) (qa (qs0 qf1 (qi qp (pv 1) qc (fun _ _=>rfl)) qc) qd0)))) (@qb _ _ _ _ _ (ql (i:=5) sc__law_ends.nd rfl (Or.inl rfl) (qi1 (qa (pv 2) (qa (pv 2) (qa (pv 2) (qa (qs0 qf1 (qs0 qf2 (pv 2) qc) qc) qd0)))))) (@qf _ _ _ (qq0 (qo (qa (pv 5) (qa (qi1 (qa (pv 3) (qa (pv 4) (qa (qo (qa (qi qm (pv 3) qc (fun _ _=>rfl)) (qa (qi qm (pv 4) qc (fun _ _=>rfl)) qd0))) (qa (qo (qa (qi qm (pv 4) qc (fun _ _=>rfl)) (qa (qs0 qf1 (qs0 qf2 (qi qm (pv 4) qc (fun _ _=>rfl)) qc) qc) qd0))) qd0))))) qd0)))))))))),?_⟩
 rw [st__law_ends]
 walk_at "sv"
 refine ⟨c,5,rfl,by decide,fun l ds H1 nl s1 hl dl db=>?_⟩
 obtain ⟨d0,d1,d2,d3,d4,rfl⟩:=five dl
 have hl:H1 l=some (.lst [.int d0,.int d1,.int d2,.int d3,.int d4]):=hl
 walk_at "sv"
 refine qe1 (i:=4) (SqL.of hl) rfl ?_
 walk_at "sv"
 refine ⟨by decide,?_⟩
 walk_at "sv"
 refine qe1 (i:=0) (SqL.of hl) rfl ?_
 walk_at "sv"
 refine ⟨by decide,?_⟩
 walk_at "sv"
 refine qe1 (i:=1) (SqL.of hl) rfl ?_
 walk_at "sv"
 refine ⟨by decide,?_⟩
 walk_at "sv"
 refine TupR.go (by simp) fun a0 n0=>?_
 have z0:=qh n0 (.tup [.int (d0 % 4294967296),.int (d1 % 65536)])
 have h0:upd H1 a0 (.tup [.int (d0 % 4294967296),.int (d1 % 65536)]) a0=some (.tup [.int (d0 % 4294967296),.int (d1 % 65536)]):=qe
 generalize upd H1 a0 (.tup [.int (d0 % 4294967296),.int (d1 % 65536)])=H2 at *
 have hl:=z0 _ _ hl
 walk_at "sv"
 refine qe1 (i:=2) (SqL.of hl) rfl ?_
 walk_at "sv"
 refine ⟨by decide,?_⟩
 walk_at "sv"
 refine qe1 (i:=3) (SqL.of hl) rfl ?_
 walk_at "sv"
 refine ⟨by decide,?_⟩
 walk_at "sv"
 refine TupR.go (by simp) fun a1 n1=>?_
 have z1:=qh n1 (.tup [.int (d2 % 4294967296),.int (d3 % 65536)])
 have h1:upd H2 a1 (.tup [.int (d2 % 4294967296),.int (d3 % 65536)]) a1=some (.tup [.int (d2 % 4294967296),.int (d3 % 65536)]):=qe
 generalize upd H2 a1 (.tup [.int (d2 % 4294967296),.int (d3 % 65536)])=H3 at *
 have h0:=z1 _ _ h0
 walk_at "sv"
 refine ⟨by decide,?_⟩
 walk_at "sv"
 refine LstR.go (by simp) fun lk nlk=>?_
 have z2:=qh nlk (.lst [.int (d4 % 256),.int (d4 % 256),.int (d4 % 256),.int ((d4 % 256+1) % 256)])
 have hlk:upd H3 lk (.lst [.int (d4 % 256),.int (d4 % 256),.int (d4 % 256),.int ((d4 % 256+1) % 256)]) lk=some (.lst ([d4 % 256,d4 % 256,d4 % 256,(d4 % 256+1) % 256].map V.int)):=qe
 generalize upd H3 lk (.lst [.int (d4 % 256),.int (d4 % 256),.int (d4 % 256),.int ((d4 % 256+1) % 256)])=H4 at *
 have h0:=z2 _ _ h0
 have h1:=z2 _ _ h1
 walk_at "sv"
 refine ixT_go (i:=0) (SqT.of h0) rfl ?_
 walk_at "sv"
 refine ixT_go (i:=1) (SqT.of h1) rfl ?_
 walk_at "sv"
 refine TupR.go (by simp) fun a2 n2=>?_
 have z3:=qh n2 (.tup [.int (d0 % 4294967296),.int (d3 % 65536)])
 have h2:upd H4 a2 (.tup [.int (d0 % 4294967296),.int (d3 % 65536)]) a2=some (.tup [.int (d0 % 4294967296),.int (d3 % 65536)]):=qe
 generalize upd H4 a2 (.tup [.int (d0 % 4294967296),.int (d3 % 65536)])=H5 at *
 have h0:=z3 _ _ h0
 have h1:=z3 _ _ h1
 walk_at "sv"
 refine ixT_go (i:=0) (SqT.of h1) rfl ?_
 walk_at "sv"
 refine ixT_go (i:=1) (SqT.of h1) rfl ?_
 walk_at "sv"
 refine ⟨by decide,?_⟩
 walk_at "sv"
 refine TupR.go (by simp) fun a3 n3=>?_
 have z4:=qh n3 (.tup [.int (d2 % 4294967296),.int ((d3 % 65536+1) % 65536)])
 have h3:upd H5 a3 (.tup [.int (d2 % 4294967296),.int ((d3 % 65536+1) % 65536)]) a3=some (.tup [.int (d2 % 4294967296),.int ((d3 % 65536+1) % 65536)]):=qe
 generalize upd H5 a3 (.tup [.int (d2 % 4294967296),.int ((d3 % 65536+1) % 65536)])=H6 at *
 have h0:=z4 _ _ h0
 have h1:=z4 _ _ h1
 have h2:=z4 _ _ h2
 refine LstR.go (by simp) fun le nle=>?_
 have z5:=qh nle (.lst [.ref a0,.ref a1,.ref a2,.ref a3])
 have hle:upd H6 le (.lst [.ref a0,.ref a1,.ref a2,.ref a3]) le=some (.lst [.ref a0,.ref a1,.ref a2,.ref a3]):=qe
 generalize upd H6 le (.lst [.ref a0,.ref a1,.ref a2,.ref a3])=H7 at *
 have h0:=z5 _ _ h0
 have h1:=z5 _ _ h1
 have h2:=z5 _ _ h2
 have h3:=z5 _ _ h3
 have z35:=(z3.trans z4).trans z5
 have hlk:=z35 _ _ hlk
 walk_at "sv"
 refine TupR.go (by simp) fun t nt=>?_
 have z6:=qh nt (.tup [.ref lk,.ref le])
 have w1:=fun z:Int=>qz1 z (show (0:Int)<4294967296 by decide)
 have w2:=fun z:Int=>qz1 z (show (0:Int)<65536 by decide)
 have w3:=fun z:Int=>qz1 z (show (0:Int)<256 by decide)
 refine q t _ (((((s1.trans z0).trans z1).trans z2).trans z35).trans z6) ⟨lk,le,_,_,[(d0 % 4294967296,d1 % 65536),(d2 % 4294967296,d3 % 65536),(d0 % 4294967296,d3 % 65536),(d2 % 4294967296,(d3 % 65536+1) % 65536)],qe,z6 _ _ hlk,rfl,fun k hk=>?_,z6 _ _ hle,.cons ⟨a0,rfl,z6 _ _ h0⟩ (.cons ⟨a1,rfl,z6 _ _ h1⟩ (.cons ⟨a2,rfl,z6 _ _ h2⟩ (.cons ⟨a3,rfl,z6 _ _ h3⟩ .nil))),rfl,fun e he=>?_⟩
 ·simp only [List.mem_cons,List.not_mem_nil,or_false] at hk
  rcases hk with rfl | rfl | rfl | rfl
  ·exact w3 _
  ·exact w3 _
  ·exact w3 _
  ·exact w3 _
 ·simp only [List.mem_cons,List.not_mem_nil,or_false] at he
  rcases he with rfl | rfl | rfl | rfl
  ·exact ⟨(w1 d0).1,(w1 d0).2,(w2 d1).1,(w2 d1).2⟩
  ·exact ⟨(w1 d2).1,(w1 d2).2,(w2 d3).1,(w2 d3).2⟩
  ·exact ⟨(w1 d0).1,(w1 d0).2,(w2 d3).1,(w2 d3).2⟩
  ·exact ⟨(w1 d2).1,(w1 d2).2,(w2 (d3 % 65536+1)).1,(w2 (d3 % 65536+1)).2⟩
def spLabel:Sp:=fun vs H Q _=>∃ (c:Int) (t:Addr),vs=[.int c,.ref t]∧EndsAt H t∧∀ p lab H',Same H H'→IsPt H' p lab→lab.length=5→LabT lab→Q (.ref p) H'
theorem ok_label (F:Fun K "_law_label" "_law_label" s__law_label f fd):FnOk P w K mg base CX0 1 f fd ["_law_draw","_law_ends_here"] spLabel:=by
 refine F.ok sc__law_label (fun vs H Q E h=>?_) (fun cdv A outer s H vs Q E hr h=>?_)
 ·obtain ⟨_,_,rfl,_⟩:=h
  rfl
 obtain ⟨c,t,rfl,⟨lk,le,ks,evs,es,ht,hlk,k4,kb,hle,al,e4,eok⟩,q⟩:=h
 refine ⟨_,(@qb _ _ _ _ _ (ps_asg (pv 1) (pg_tup rfl (qb1 (qn0 (i:=2) sc__law_label.nd rfl (Or.inl rfl)) (qb1 (qn0 (i:=3) sc__law_label.nd rfl (Or.inl rfl)) pgs_nil)))) (@qf _ _ _ (qq0 (qs0 op_catA (qs0 op_catA (qo (qa (qi qp (pv 2) (qs0 qf1 (pv 0) qc) (fun _ _=>rfl)) qd0)) (qi qp (pv 3) (qs0 qf1 (qs0 qy1 (pv 0) qc) qc) (fun _ _=>rfl))) (qi qp (pv 3) (qs0 qf1 (qs0 qy1 (pv 0) qc) qc) (fun _ _=>rfl)))))),?_⟩
 rw [st__law_label]
 walk_at "sv"
 refine gtup2 (SqT.of ht) ?_
 walk_at "sv"
 refine ⟨by decide,?_⟩
 obtain ⟨h0,h1⟩:=qz1 c (show (0:Int)<4 by decide)
 obtain ⟨m,em,lm⟩:=nat_of (n:=4) h0 h1
 obtain ⟨k,ek⟩:=at_of lm k4
 rw [em]
 refine qe1 (SqL.of hlk) (by rw [List.getElem?_map,ek]; rfl) ?_
 walk_at "sv"
 refine TupR.go (by simp) fun u nu=>?_
 have zu:=qh nu (.tup [.int k])
 have hu:upd H u (.tup [.int k]) u=some (.tup [.int k]):=qe
 generalize upd H u (.tup [.int k])=H1 at *
 walk_at "sv"
 refine ⟨⟨by decide,by decide⟩,by decide,?_⟩
 obtain ⟨m0,b0,e0,em0,ev0,ee0,hb0⟩:=pick_end al e4 (c / 4)
 rw [em0]
 refine qe1 (SqL.of (zu _ _ hle)) ev0 ?_
 refine catA_go hu (zu _ _ hb0) (by simp) fun x H2 y2 hx=>?_
 have z2:=zu.trans y2
 walk_at "sv"
 refine ⟨⟨by decide,by decide⟩,by decide,?_⟩
 obtain ⟨m1,b1,e1,em1,ev1,ee1,hb1⟩:=pick_end al e4 (c / 16)
 rw [em1]
 refine qe1 (SqL.of (z2 _ _ hle)) ev1 ?_
 refine catA_go hx (z2 _ _ hb1) (by simp) fun p H3 y3 hp=>?_
 obtain ⟨kb0,kb1⟩:=kb k (List.mem_of_getElem? ek)
 exact q p (labOf k e0 e1) H3 (z2.trans y3) hp rfl (lab_t kb0 kb1 (eok _ (List.mem_of_getElem? ee0)) (eok _ (List.mem_of_getElem? ee1)))
def rwD (x:Tk):PyData:=.tuple [pointD x.lab,pointD x.sent,.bool x.ans,.int x.til]
theorem rw_dts {H:Hp}{vs:List V}{xs:List Tk}(h:All2 (RwAt H) vs xs):Dts H vs (xs.map rwD):=by
 induction h with
 | nil=>exact .nil
 | cons h _ ih =>
  obtain ⟨t,p,q,rfl,ht,hp,hq⟩:=h
  exact .cons (.tup (.inl ht) (.cons hp.dt (.cons hq.dt (.cons (.bl _) (.cons (.int _) .nil))))) ih
theorem rw_shaped (xs:List Tk):SeqAt.shaped (.list (xs.map rwD))=true:=by
 have pl:∀ ns:List Int,PyData.canLayAll0 (ns.map .int)=true:=qb2 PyData.int fun z=>by simp [PyData.canLay0]
 have pd:∀ ns:List Int,PyData.depthAll (ns.map .int)≤1:=qk1 PyData.int (n:=1) fun z=>by simp [PyData.depth]
 have a:=qb2 rwD (fun x=>by simp [rwD,pointD,PyData.canLay0,PyData.canLayAll0,pl]) xs
 have b:=qk1 rwD (n:=10) (fun x=>by
  have d1:=pd x.lab
  have d2:=pd x.sent
  simp [rwD,pointD,PyData.depth,PyData.depthAll]
  omega) xs
 exact shaped_of (by simp [PyData.canLay0,a]) (by simp only [PyData.depth]; omega)
theorem rw_eqv:∀ xs:List Tk,PyData.eqvAll (xs.map rwD) (xs.map rwD)=true
 | []=>by simp [PyData.eqvAll]
 | x::xs=>by
  have a:=(qx1 x.lab x.lab).mpr rfl
  have b:=(qx1 x.sent x.sent).mpr rfl
  rw [List.map_cons,PyData.eqvAll,rw_eqv xs]
  simp [rwD,PyData.eqv,PyData.eqvAll,a,b]
theorem rws_same {H:Hp}{Q:VK}{neg:Bool}{a b:Addr}{vs us:List V}{xs:List Tk}(ha:H a=some (.lst vs))(hb:H b=some (.lst us))(la:All2 (RwAt H) vs xs)(lb:All2 (RwAt H) us xs)(q:Q (.bl (!neg)) H):rEqD neg (.ref a) (.ref b) H Q:=by
 refine ⟨_,_,.lst (.inl ha) (rw_dts la),.lst (.inl hb) (rw_dts lb),rw_shaped xs,rw_shaped xs,?_⟩
 have e:PyData.eqv (.list (xs.map rwD)) (.list (xs.map rwD))=true:=by
  rw [PyData.eqv]
  exact rw_eqv xs
 rw [e]
 cases neg
 ·exact q
 ·exact q
theorem RwAt.same {H H':Hp}{v:V}{x:Tk}(h:RwAt H v x)(s:Same H H'):RwAt H' v x:=by
 obtain ⟨t,p,q,e,ht,hp,hq⟩:=h
 exact ⟨t,p,q,e,s _ _ ht,hp.same s,hq.same s⟩
section
variable {H:Hp}{Q:VK}
theorem tupN {xs:List V}(l:xs.length≤1000)(q:∀ t H',H t=none→Same H H'→H' t=some (.tup xs)→Q (.ref t) H'):TupR xs H Q:=TupR.go l fun t nt=>q t _ nt (qh nt _) qe
theorem lstN {xs:List V}(l:xs.length≤1000)(q:∀ t H',H t=none→Same H H'→H' t=some (.lst xs)→Q (.ref t) H'):LstR xs H Q:=LstR.go l fun t nt=>q t _ nt (qh nt _) qe
theorem ixL_any {u:Addr}{vs:List V}{x:Int}{n:Nat}(hu:H u=some (.lst vs))(l:vs.length=n)(b:0≤x∧x<(n:Int))(q:∀ v∈vs,Q v H):rIxL K (.ref u) (.int x) H Q:=by
 obtain ⟨m,em,lm⟩:=nat_of (n:=n) b.1 b.2
 obtain ⟨v,ev⟩:=at_of lm l
 rw [em]
 exact qe1 (SqL.of hu) ev (q v (List.mem_of_getElem? ev))
end
def Low (bs:List (Int×Int)):Prop:=∀ b∈bs,0≤b.1∧b.1≤b.2∧b.2<2 ^ 40
theorem Low.fair {bs:List (Int×Int)}(h:Low bs)(l:bs.length≤8):Fair bs:=by
 have e:(2:Int) ^ 40<2 ^ 400:=by decide +kernel
 refine ⟨l,fun b hb=>?_⟩
 obtain ⟨h1,h2,h3⟩:=h b hb
 exact ⟨h2,by omega,by omega⟩
def wordOr (df:Str):Rl→Str
 | .word z=>z
 | _=>df
def RtX (H:Hp)(bx:Addr→List (Int×Int))(v:V)(u:Ru):Prop:=∃ t,v=.ref t∧H t=some (.tup (u.1.told u.2))∧u.1.ok∧IsBox H u.2 (bx u.2)∧(bx u.2).length=6∧Fair (bx u.2)
theorem RtX.same {H H':Hp}{bx:Addr→List (Int×Int)}{v:V}{u:Ru}(h:RtX H bx v u)(s:Same H H'):RtX H' bx v u:=by
 obtain ⟨t,e,h1,h2,h3,h4⟩:=h
 exact ⟨t,e,s _ _ h1,h2,h3.same s,h4⟩
open Classical in
noncomputable def bxOf (H:Hp)(a:Addr):List (Int×Int):=Classical.epsilon fun bs=>IsBox H a bs∧bs.length=6∧Fair bs
theorem bxOf_at {H:Hp}{a:Addr}{bs:List (Int×Int)}(h:IsBox H a bs)(l:bs.length=6)(f:Fair bs):IsBox H a (bxOf H a)∧(bxOf H a).length=6∧Fair (bxOf H a):=Classical.epsilon_spec (p:=fun bs=>IsBox H a bs∧bs.length=6∧Fair bs) ⟨bs,h,l,f⟩
def RtL (H:Hp)(v:V)(u:Ru):Prop:=∃ t bs,v=.ref t∧H t=some (.tup (u.1.told u.2))∧u.1.ok∧IsBox H u.2 bs∧bs.length=6∧Low bs
theorem RtL.mono {H H':Hp}{v:V}{u:Ru}(h:RtL H v u)(k:∀ a xs,H a=some (.tup xs)→H' a=some (.tup xs)):RtL H' v u:=by
 obtain ⟨t,bs,e,h1,h2,h3,h4⟩:=h
 exact ⟨t,bs,e,k _ _ h1,h2,h3.mono k,h4⟩
theorem RtL.x {H:Hp}{v:V}{u:Ru}(h:RtL H v u):RtX H (bxOf H) v u:=by
 obtain ⟨t,bs,e,h1,h2,h3,h4,h5⟩:=h
 exact ⟨t,e,h1,h2,bxOf_at h3 h4 (h5.fair (by omega))⟩
theorem RtX.at {H:Hp}{bx:Addr→List (Int×Int)}{v:V}{u:Ru}(h:RtX H bx v u):RtAt H v u:=by
 obtain ⟨t,e,h1,h2,_⟩:=h
 exact ⟨t,e,h1,h2⟩
theorem calls_no {us:List Ru}(nc:∀ n p,(Rl.call n,p)∉us):qg1 us=[]:=by
 unfold qg1
 rw [List.filterMap_eq_nil_iff]
 intro u hu
 obtain ⟨r,p⟩:=u
 cases r with
 | word z=>rfl
 | back=>rfl
 | call n=>exact absurd hu (nc n p)
def dueW (df:Str)(fit:Ru→Bool):List Ru→Str
 | []=>df
 | u::us=>if fit u=true then wordOr df u.1 else dueW df fit us
theorem reads_main {us:List Ru}{fit:Ru→Bool}{df:Str}(nc:∀ n p,(Rl.call n,p)∉us){st:List Plc}{lk:List (Plc×Bool)}{w:Str}(h:Reads [(("main":Str),us)] fit df st lk w):(st=[]→w=df)∧∀ i,st=[(("main":Str),i)]→w=dueW df fit (us.drop i):=by
 have dr:∀ {i u},us[i]?=some u→us.drop i=u::us.drop (i+1):=fun {i u} e=>by
  obtain ⟨lt,e⟩:=List.getElem?_eq_some_iff.mp e
  rw [List.drop_eq_getElem_cons lt,e]
 have nl:∀ {i:Nat},us[i]?=none→us.drop i=[]:=fun {i} e=>List.drop_of_length_le (List.getElem?_eq_none_iff.mp e)
 induction h with
 | done=>exact ⟨fun _=>rfl,fun i e=>by cases e⟩
 | over hc e r ih =>
  obtain rfl:=List.mem_singleton.mp hc
  refine ⟨fun z=>(by cases z),fun j ej=>?_⟩
  injection ej with e1 e2
  injection e1 with _ e1
  subst e1 e2
  rw [nl e]
  exact ih.1 rfl
 | no hc e n r ih =>
  obtain rfl:=List.mem_singleton.mp hc
  refine ⟨fun z=>(by cases z),fun j ej=>?_⟩
  injection ej with e1 e2
  injection e1 with _ e1
  subst e1 e2
  rw [dr e,dueW,n,if_neg Bool.false_ne_true]
  exact ih.2 _ rfl
 | word hc e y =>
  obtain rfl:=List.mem_singleton.mp hc
  refine ⟨fun z=>(by cases z),fun j ej=>?_⟩
  injection ej with e1 e2
  injection e1 with _ e1
  subst e1 e2
  rw [dr e,dueW,y,if_pos rfl]
  rfl
 | back hc e y r ih =>
  obtain rfl:=List.mem_singleton.mp hc
  refine ⟨fun z=>(by cases z),fun j ej=>?_⟩
  injection ej with e1 e2
  injection e1 with _ e1
  subst e1 e2
  rw [dr e,dueW,y,if_pos rfl]
  show _=wordOr df _
  exact ih.1 rfl
 | call hc e y r ih =>
  obtain rfl:=List.mem_singleton.mp hc
  exact absurd (List.mem_of_getElem? e) (nc _ _)
theorem nok_main {us:List Ru}(nc:qg1 us=[]):NamesOk [(("main":Str),us)]:=by
 refine ⟨by simp,fun c hc n hn=>?_,by simp,fun c hc=>?_⟩
 ·obtain rfl:=List.mem_singleton.mp hc
  rw [nc] at hn
  cases hn
 ·obtain rfl:=List.mem_singleton.mp hc
  show PyData.strOk "main"=true
  decide +kernel
theorem lens_main {us:List Ru}(nc:qg1 us=[]):Lens [(("main":Str),us)] (fun _=>(us.length:Int)) (fun _=>0):=by
 refine ⟨fun c hc=>?_,fun c hc n hn=>?_⟩
 ·obtain rfl:=List.mem_singleton.mp hc
  rw [nc]
  simp
 ·obtain rfl:=List.mem_singleton.mp hc
  rw [nc] at hn
  cases hn
section
variable {cRu cWo cBa cCa cBo:Addr}
theorem book_main {H:Hp}{rl:Addr}{ts:List V}{us:List Ru}{df:Str}{Qf:VK}(hrl:H rl=some (.lst ts))(al:All2 (RtAt H) ts us)(nc:qg1 us=[])(l:us.length≤120)(k:∀ b H',Same H H'→IsBook cWo cBa cCa cBo H' b df [(("main":Str),us)] (fun _=>(us.length:Int))→Qf (.ref b) H') :
  LstOf K [.ref rl] H fun x H1=>TupR [.str "main",x] H1 fun x H1=>LstR [x] H1 fun x H1=>MakeR cBo (spBook cWo cBa cCa cBo) [.str df,x] H1 Qf:=by
 refine LstOf.lst (SqL.of hrl) fun l6 nl6=>?_
 have v3:=qh nl6 (.lst ts)
 have hl6:upd H l6 (.lst ts) l6=some (.lst ts):=qe
 generalize upd H l6 (.lst ts)=K6 at *
 refine TupR.go (by simp) fun t6 nt6=>?_
 have v4:=qh nt6 (.tup [.str "main",.ref l6])
 have ht6:upd K6 t6 (.tup [.str "main",.ref l6]) t6=some (.tup [.str "main",.ref l6]):=qe
 have hl64:=v4 _ _ hl6
 have v34:=v3.trans v4
 generalize upd K6 t6 (.tup [.str "main",.ref l6])=K7 at *
 refine LstR.go (by simp) fun l7 nl7=>?_
 have v5:=qh nl7 (.lst [.ref t6])
 have hl7:upd K7 l7 (.lst [.ref t6]) l7=some (.lst [.ref t6]):=qe
 have ht65:=v5 _ _ ht6
 have hl65:=v5 _ _ hl64
 have v35:=v34.trans v5
 generalize upd K7 l7 (.lst [.ref t6])=K8 at *
 intro b2 dx2 nb2 ndx2 nbd2
 have si2:=same_ins (o:=.own b2) (o':=.ins cBo dx2 []) nb2 ndx2 nbd2
 refine ⟨b2,dx2,l7,df,[.ref t6],[(("main":Str),us)],_,_,rfl,qe,si2 _ _ hl7,.cons ⟨t6,l6,ts,rfl,si2 _ _ ht65,si2 _ _ hl65,All2.imp al fun v u r=>r.same (v35.trans si2),by show us.length≤1000; omega⟩ .nil,nok_main nc,lens_main nc,by simp,by show (us.length:Int)≤120; omega,fun K9 kp2 bk2=>⟨rfl,?_⟩⟩
 exact k b2 K9 (v35.trans fun x o e=>kp2 x o (qy0 e nb2) (si2 _ _ e)) (bk2.same fr_same)
end
--CUT--
theorem two {ds:List Int}(h:ds.length=2):∃ a b,ds=[a,b]:=by
 match ds,h with
 | [a,b],_=>exact ⟨a,b,rfl⟩
def WdU (u:Ru):Prop:=∃ z,u.1=Rl.word z
def spRules49:Sp:=fun vs H Q _=>∃ (c:Int) (t:Addr),vs=[.int c,.ref t]∧EndsAt H t∧∀ rl ts us H',H rl=none→Same H H'→H' rl=some (.lst ts)→All2 (RtL H') ts us→us.length≤2→(∀ u∈us,WdU u)→Q (.ref rl) H'
theorem ok_rules49 (F:Fun K "_law_rules" "_law_rules" s__law_rules f fd)(g__law_stream:Fn P w K mg base "_law_stream" 1 ["_law_cell","_law_many"] spStream)(b_range:mg "range"=none)(b_min:mg "min"=none):FnOk P w K mg base CX0 2 f fd ["_law_cell","_law_ends_here"] spRules49:=by
 refine F.ok sc__law_rules (fun vs H Q E h=>?_) (fun cdv A outer s H vs Q E hr h=>?_)
 ·obtain ⟨_,_,rfl,_⟩:=h
  rfl
 obtain ⟨c,t,rfl,en,q⟩:=h
 obtain ⟨lk,le,ks,evs,es,ht,hlk,k2,kb,hle,al,e3,eok⟩:=id en
 refine ⟨_,(@qb _ _ _ _ _ (ql (i:=2) sc__law_rules.nd rfl (Or.inl rfl) (qi1 qd0)) (@qb _ _ _ _ _ (@ps_for _ _ _ _ _ _ _ _ PassesOwn.never rfl (pi_range1 rfl b_range (qa (qs0 qf1 (pv 0) qc) qd0)) (qn0 (i:=3) sc__law_rules.nd rfl (Or.inl rfl)) (@qb _ _ _ _ _ (ql (i:=4) sc__law_rules.nd rfl (Or.inl rfl) (qj1 g__law_stream hr (by decide) rfl (qa (qs0 qf2 (pv 0) (pv 3)) (qa qc qd0)))) (@qb _ _ _ _ _ (ql (i:=5) sc__law_rules.nd rfl (Or.inl rfl) (qs0 qf1 (qi qp (pv 4) qc (fun _ _=>rfl)) qc)) (@qb _ _ _ _ _ (ql (i:=6) sc__law_rules.nd rfl (Or.inl rfl) (qo (qa (pv 5) (qa (qh1 (call_minR rfl) rfl b_min bo_min (qa qc (qa (qs0 qf2 (pv 5) (qs0 qf1 (qs0 qy1 (qi qp (pv 4) qc (fun _ _=>rfl)) qc) qc)) qd0))) qd0)))) (@qb _ _ _ _ _ (ql (i:=7) sc__law_rules.nd rfl (Or.inl rfl) (qi qm (qi qp (qi qm (pv 1) qc (fun _ _=>rfl)) (qs0 qf1 (qi qp (pv 4) qc (fun _ _=>rfl)) qc) (fun _ _=>rfl)) qc (fun _ _=>rfl))) (@qb _ _ _ _ _ (ql (i:=8) sc__law_rules.nd rfl (Or.inl rfl) (qi qp (qi1 (qa (qo (qa qc (qa qc qd0))) (qa (qo (qa (pv 7) (qa (pv 7) qd0))) qd0))) (qs0 qf1 (qs0 qy1 (qi qp (pv 4) qc (fun _ _=>rfl)) qc) qc) (fun _ _=>rfl))) (@qb _ _ _ _ _ (ql (i:=9) sc__law_rules.nd rfl (Or.inl rfl) (qo (qa (pv 6) (qa (qo (qa qc (qa qc qd0))) (qa (qo (qa qc (qa qc qd0))) (qa (qo (qa qc (qa qc qd0))) (qa (pv 8) (qa (qo (qa qc (qa qc qd0))) qd0)))))))) (@qf _ _ _ (qw1 (pe_bm PySem.F.plainAttrs_list PySem.F.slot_list_append PySem.F.type_list_append mt_append (pv 2) (qa (qo (qa (qi qp (qi1 (qa qr1 (qa qr1 qd0))) (qs0 qf1 (qs0 qy1 (qi qp (pv 4) qc (fun _ _=>rfl)) qc) qc) (fun _ _=>rfl)) (qa (pv 9) qd0))) qd0)))))))))) (by intro _; rfl)) (@qf _ _ _ (qq0 (pv 2))))),?_⟩
 rw [st__law_rules]
 walk_at "sv"
 refine lstN (by simp) fun rl H0 nrl s0 hrl=>?_
 walk_at "sv"
 refine ⟨by decide,?_⟩
 have m3:=qz1 c (show (0:Int)<3 by decide)
 generalize c % 3=many at *
 refine RngR.go (by omega) (by omega) ?_
 refine ForR.range (fun i σ H'=>Same H H'∧∃ (ts:List V) (us:List Ru) (y1 y2 y3 y4 y5 y6 y7:Option V),σ=[some (.int c),some (.ref t),some (.ref rl),y1,y2,y3,y4,y5,y6,y7]∧H' rl=some (.lst ts)∧All2 (RtL H') ts us∧us.length=i∧∀ u∈us,WdU u) ⟨s0,[],[],_,_,_,_,_,_,_,rfl,hrl,.nil,rfl,fun u h=>by cases h⟩ (fun i σ H1 hi pv=>?_) (fun σ H1 pv=>?_)
 ·obtain ⟨sm,ts,us,y1,y2,y3,y4,y5,y6,y7,rfl,hrl1,al1,ul,wd⟩:=pv
  have tl:=All2.len al1
  walk_at "sv"
  refine ⟨_,2,rfl,by decide,fun ld ds H2 nd s2 hd dl _=>?_⟩
  obtain ⟨d0,d1,rfl⟩:=two dl
  have sm2:=sm.trans s2
  walk_at "sv"
  refine qe1 (i:=0) (SqL.of hd) rfl ?_
  walk_at "sv"
  refine ⟨by decide,?_⟩
  have l4:=qz1 d0 (show (0:Int)<4 by decide)
  generalize d0 % 4=low at *
  refine qe1 (i:=0) (SqL.of hd) rfl ?_
  walk_at "sv"
  refine ⟨⟨by decide,by decide⟩,by decide,?_⟩
  have l3:=qz1 (d0 / 4) (show (0:Int)<3 by decide)
  generalize d0 / 4 % 3=up at *
  walk_at "sv"
  have lh:low≤min 3 (low+up)∧min 3 (low+up)<4:=by omega
  generalize min 3 (low+up)=high at *
  refine tupN (by simp) fun p0 H3 n3 s3 h3=>?_
  have sm3:=sm2.trans s3
  have hd3:=s3 _ _ hd
  walk_at "sv"
  refine ixT_go (i:=1) (SqT.of (sm3 _ _ ht)) rfl ?_
  refine qe1 (i:=1) (SqL.of hd3) rfl ?_
  walk_at "sv"
  refine ⟨by decide,?_⟩
  obtain ⟨m0,ea,e0,em0,ev0,ee0,hea⟩:=pick_end al e3 d1
  rw [em0]
  refine qe1 (SqL.of (sm3 _ _ hle)) ev0 ?_
  refine ixT_go (i:=0) (SqT.of (sm3 _ _ hea)) rfl ?_
  obtain ⟨ad0,ad1,_,_⟩:=eok _ (List.mem_of_getElem? ee0)
  generalize e0.1=ad at *
  walk_at "sv"
  refine tupN (by simp) fun w0 H8 n8 s8 h8=>?_
  refine tupN (by simp) fun w1 H9 n9 s9 h9=>?_
  refine lstN (by simp) fun lw Hb nb sb hb=>?_
  have s8b:=(s8.trans s9).trans sb
  refine qe1 (i:=1) (SqL.of (s8b _ _ hd3)) rfl ?_
  walk_at "sv"
  refine ⟨⟨by decide,by decide⟩,by decide,?_⟩
  have hy:∀ v∈([.ref w0,.ref w1]:List V),∃ a lo hi,v=.ref a∧Hb a=some (.tup [.int lo,.int hi])∧0≤lo∧lo≤hi∧hi<4294967296:=fun v hv=>by
   simp only [List.mem_cons,List.not_mem_nil,or_false] at hv
   rcases hv with rfl | rfl
   ·exact ⟨_,_,_,rfl,sb _ _ (s9 _ _ h8),by decide,by decide,by decide⟩
   ·exact ⟨_,_,_,rfl,sb _ _ h9,ad0,Int.le_refl _,ad1⟩
  refine ixL_any (n:=2) hb rfl (qz1 (d1 / 4) (show (0:Int)<2 by decide)) fun v hv=>?_
  obtain ⟨p2,sl,sh,rfl,hp2,sb0,sb1,sb2⟩:=hy v hv
  clear hy hv h8 h9 hb
  walk_at "sv"
  refine tupN (by simp) fun p1 Hx nx sx hx=>?_
  refine tupN (by simp) fun p3 Hc nc sc hc=>?_
  refine tupN (by simp) fun p4 Hd nd' sd hd'=>?_
  refine tupN (by simp) fun p5 He ne se he=>?_
  refine tupN (by simp) fun pb Hf nf sf hf=>?_
  have scf:=(((sx.trans sc).trans sd).trans se).trans sf
  have sbf:=s8b.trans scf
  have box:IsBox Hf pb [(low,high),(0,255),(0,4294967295),(0,65535),(sl,sh),(0,65535)]:=⟨_,hf,.cons (sbf _ _ h3) (.cons (sf _ _ (se _ _ (sd _ _ (sc _ _ hx)))) (.cons (sf _ _ (se _ _ (sd _ _ hc))) (.cons (sf _ _ (se _ _ hd')) (.cons (scf _ _ hp2) (.cons (sf _ _ he) .nil)))))⟩
  have lowb:Low [(low,high),(0,255),(0,4294967295),(0,65535),(sl,sh),(0,65535)]:=fun b hb=>by
   simp only [List.mem_cons,List.not_mem_nil,or_false] at hb
   rcases hb with rfl | rfl | rfl | rfl | rfl | rfl
   ·exact ⟨l4.1,lh.1,Int.lt_trans lh.2 (by decide)⟩
   ·exact ⟨by decide,by decide,by decide⟩
   ·exact ⟨by decide,by decide,by decide⟩
   ·exact ⟨by decide,by decide,by decide⟩
   ·exact ⟨sb0,sb1,Int.lt_trans sb2 (by decide)⟩
   ·exact ⟨by decide,by decide,by decide⟩
  have bl:[(low,high),(0,255),(0,4294967295),(0,65535),(sl,sh),(0,65535)].length=6:=rfl
  generalize [(low,high),(0,255),(0,4294967295),(0,65535),(sl,sh),(0,65535)]=bs at *
  have s2f:=(s2.trans s3).trans sbf
  have hrlf:=s2f _ _ hrl1
  refine ⟨ty_lst hrlf,?_⟩
  refine lstN (by simp) fun lz Hg ng sg hg=>?_
  refine qe1 (i:=1) (SqL.of (sg _ _ (sbf _ _ hd3))) rfl ?_
  walk_at "sv"
  refine ⟨⟨by decide,by decide⟩,by decide,?_⟩
  have o1:(Rl.word "pass").ok:=⟨by decide,by decide,by decide,by decide +kernel⟩
  have o2:(Rl.word "stop").ok:=⟨by decide,by decide,by decide,by decide +kernel⟩
  refine ixL_any (n:=2) hg rfl (qz1 (d1 / 8) (show (0:Int)<2 by decide)) fun v hv=>?_
  obtain ⟨z,rfl,oz⟩:∃ z,v=.str z∧(Rl.word z).ok:=by
   simp only [List.mem_cons,List.not_mem_nil,or_false] at hv
   rcases hv with rfl | rfl
   ·exact ⟨_,rfl,o2⟩
   ·exact ⟨_,rfl,o1⟩
  refine tupN (by simp) fun tr Hh nh sh' hh=>?_
  have sgh:=sg.trans sh'
  have hrlh:=sgh _ _ hrlf
  have k1:=s2f.trans sgh
  refine app_go hrlh (by omega) ?_
  have new:RtL Hh (.ref tr) (.word z,pb):=⟨tr,bs,rfl,hh,oz,box.same sgh,bl,lowb⟩
  refine ⟨(sm.trans k1).put nrl,ts++[.ref tr],us++[(.word z,pb)],_,_,_,_,_,_,_,rfl,qe,All2.imp ((All2.imp al1 fun _ _ r=>r.mono fun _ _ e=>k1 _ _ e).snoc new) fun _ _ r=>r.mono (upd_tup hrlh),by rw [List.length_append,ul]; rfl,fun u hu=>?_⟩
  rcases List.mem_append.mp hu with hu | hu
  ·exact wd u hu
  ·obtain rfl:=List.mem_singleton.mp hu
   exact ⟨z,rfl⟩
 ·obtain ⟨sm,ts,us,y1,y2,y3,y4,y5,y6,y7,rfl,hrl1,al1,ul,wd⟩:=pv
  walk_at "sv"
  exact q rl ts us H1 nrl sm hrl1 al1 (by omega) wd
--CUT--
theorem ChgAt.upd {H:Hp}{D:Addr}{xs:List V}{o:HO}{v:V}{c:Chg}(h:ChgAt H v c)(hD:H D=some (.lst xs)):ChgAt (upd H D o) v c:=by
 obtain ⟨t,p,d,e,h1,⟨vs,h2,h2'⟩,h3,h4,h5,h6⟩:=h
 have ne:∀ {a:Addr} {zs:List V},H a=some (.tup zs)→a≠D:=fun ha e=>by
  rw [e,hD] at ha
  cases ha
 exact ⟨t,p,d,e,by rw [qu0 (ne h1)]; exact h1,⟨vs,by rw [qu0 (ne h2)]; exact h2,h2'.upd hD⟩,h3,h4,by rw [qu0 (ne h5)]; exact h5,h6⟩
structure ChgT (c:Chg):Prop where
 ad:0≤c.ad∧c.ad<4294967296
 side:PyData.strOk c.side=true
def chgD (c:Chg):PyData:=.tuple [.str c.side,boxD c.bs,.int c.ad,.tuple [.int c.lo,.int c.hi]]
theorem chg_dts {H:Hp}{vs:List V}{cs:List Chg}(h:All2 (ChgAt H) vs cs):Dts H vs (cs.map chgD):=by
 induction h with
 | nil=>exact .nil
 | cons h _ ih =>
  obtain ⟨t,p,d,rfl,h1,h2,_,_,h5,_⟩:=h
  exact .cons (.tup (.inl h1) (.cons (.str _) (.cons h2.dt (.cons (.int _) (.cons (.tup (.inl h5) (.cons (.int _) (.cons (.int _) .nil))) .nil))))) ih
theorem chg_lay:∀ {cs:List Chg},(∀ c∈cs,ChgT c)→PyData.canLayAll0 (cs.map chgD)=true
 | [],_=>by simp [PyData.canLayAll0]
 | c::cs,h=>by
  have h2:=(h c List.mem_cons_self).side
  have l:=boxD_lay c.bs
  rw [List.map_cons,PyData.canLayAll0.eq_2,chg_lay fun y hy=>h y (List.mem_cons_of_mem _ hy)]
  simp [chgD,PyData.canLay0,PyData.canLayAll0,h2,l]
theorem chg_shaped {cs:List Chg}(h:∀ c∈cs,ChgT c):SeqAt.shaped (.list (cs.map chgD))=true:=by
 have a:=chg_lay h
 have b:=qk1 chgD (n:=10) (fun c=>by
  have d:=boxD_deep c.bs
  simp [chgD,PyData.depth,PyData.depthAll]
  omega) cs
 exact shaped_of (by simp [PyData.canLay0,a]) (by simp only [PyData.depth]; omega)
theorem chg_eqv:∀ cs:List Chg,PyData.eqvAll (cs.map chgD) (cs.map chgD)=true
 | []=>by simp [PyData.eqvAll]
 | c::cs=>by
  have b:=(box_eqv c.bs c.bs).mpr rfl
  rw [List.map_cons,PyData.eqvAll,chg_eqv cs]
  simp [chgD,PyData.eqv,PyData.eqvAll,b]
theorem chgs_ne {H:Hp}{Q:VK}{a b:Addr}{vs us:List V}{cs:List Chg}(ha:H a=some (.lst vs))(hb:H b=some (.lst us))(la:All2 (ChgAt H) vs cs)(lb:All2 (ChgAt H) us cs)(ok:∀ c∈cs,ChgT c)(q:Q (.bl false) H):rEqD true (.ref a) (.ref b) H Q:=by
 refine ⟨_,_,.lst (.inl ha) (chg_dts la),.lst (.inl hb) (chg_dts lb),chg_shaped ok,chg_shaped ok,?_⟩
 have e:PyData.eqv (.list (cs.map chgD)) (.list (cs.map chgD))=true:=by
  rw [PyData.eqv]
  exact chg_eqv cs
 rw [if_pos rfl,e]
 exact q
theorem four {ds:List Int}(h:ds.length=4):∃ a b c d,ds=[a,b,c,d]:=by
 match ds,h with
 | [a,b,c,d],_=>exact ⟨a,b,c,d,rfl⟩
theorem from_ok:PyData.strOk "from"=true∧PyData.strOk "to"=true:=by decide +kernel
def spChgs49:Sp:=fun vs H Q _=>∃ (c:Int) (t:Addr),vs=[.int c,.ref t]∧EndsAt H t∧∀ l xs cs H',H l=none→Same H H'→H' l=some (.lst xs)→All2 (ChgAt H') xs cs→(∀ c∈cs,ChgT c∧c.hi<c.lo+100)→cs.length≤3→Q (.ref l) H'
theorem ok_chgs49 (F:Fun K "_law_changes" "_law_changes" s__law_changes f fd)(g__law_stream:Fn P w K mg base "_law_stream" 1 ["_law_cell","_law_many"] spStream)(b_range:mg "range"=none)(b_min:mg "min"=none)(b_max:mg "max"=none):FnOk P w K mg base CX0 2 f fd ["_law_cell","_law_ends_here"] spChgs49:=by
 refine F.ok sc__law_changes (fun vs H Q E h=>?_) (fun cdv A outer s H vs Q E hr h=>?_)
 ·obtain ⟨_,_,rfl,_⟩:=h
  rfl
 obtain ⟨c,t,rfl,en,q⟩:=h
 obtain ⟨lk,le,ks,evs,es,ht,hlk,k2,kb,hle,al,e3,eok⟩:=id en
 refine ⟨_,(@qb _ _ _ _ _ (ql (i:=2) sc__law_changes.nd rfl (Or.inl rfl) (qi1 qd0)) (@qb _ _ _ _ _ (@ps_for _ _ _ _ _ _ _ _ PassesOwn.never rfl (pi_range1 rfl b_range (qa (qs0 qf1 (pv 0) qc) qd0)) (qn0 (i:=3) sc__law_changes.nd rfl (Or.inl rfl)) (@qb _ _ _ _ _ (ql (i:=4) sc__law_changes.nd rfl (Or.inl rfl) (qj1 g__law_stream hr (by decide) rfl (qa (qs0 qf2 (pv 0) (pv 3)) (qa qc qd0)))) (@qb _ _ _ _ _ (ql (i:=5) sc__law_changes.nd rfl (Or.inl rfl) (qi qp (qi qm (pv 1) qc (fun _ _=>rfl)) (qs0 qf1 (qi qp (pv 4) qc (fun _ _=>rfl)) qc) (fun _ _=>rfl))) (@qb _ _ _ _ _ (ql (i:=6) sc__law_changes.nd rfl (Or.inl rfl) (qi qp (qi1 (qa (qo (qa qc (qa qc qd0))) (qa (qo (qa (qi qm (pv 5) qc (fun _ _=>rfl)) (qa (qi qm (pv 5) qc (fun _ _=>rfl)) qd0))) qd0))) (qs0 qf1 (qs0 qy1 (qi qp (pv 4) qc (fun _ _=>rfl)) qc) qc) (fun _ _=>rfl))) (@qb _ _ _ _ _ (ql (i:=7) sc__law_changes.nd rfl (Or.inl rfl) (qo (qa (qo (qa qc (qa qc qd0))) (qa (pv 6) (qa (qo (qa qc (qa qc qd0))) (qa (qo (qa qc (qa qc qd0))) (qa (qo (qa qc (qa qc qd0))) qd0))))))) (@qb _ _ _ _ _ (ql (i:=8) sc__law_changes.nd rfl (Or.inl rfl) (qi qp (qi1 (qa (qi qp (qi qm (pv 1) qc (fun _ _=>rfl)) (qs0 qf1 (qi qp (pv 4) qc (fun _ _=>rfl)) qc) (fun _ _=>rfl)) (qa (qo (qa (qs0 qf1 (qi qp (pv 4) qc (fun _ _=>rfl)) qc) (qa (qs0 qf1 (qi qp (pv 4) qc (fun _ _=>rfl)) qc) qd0))) qd0))) (qs0 qf1 (qs0 qy1 (qi qp (pv 4) qc (fun _ _=>rfl)) qc) qc) (fun _ _=>rfl))) (@qb _ _ _ _ _ (ql (i:=9) sc__law_changes.nd rfl (Or.inl rfl) (qh1 (call_maxR rfl) rfl b_max bo_max (qa qc (qa (qs0 op_sub (qi qm (pv 8) qc (fun _ _=>rfl)) (qs0 qf1 (qs0 qy1 (qi qp (pv 4) qc (fun _ _=>rfl)) qc) qc)) qd0)))) (@qb _ _ _ _ _ (ql (i:=10) sc__law_changes.nd rfl (Or.inl rfl) (qi qp (qi1 (qa qr1 (qa qr1 (qa qr1 qd0)))) (qs0 qf1 (qs0 qy1 (qi qp (pv 4) qc (fun _ _=>rfl)) qc) qc) (fun _ _=>rfl))) (@qf _ _ _ (qw1 (pe_bm PySem.F.plainAttrs_list PySem.F.slot_list_append PySem.F.type_list_append mt_append (pv 2) (qa (qo (qa (pv 10) (qa (pv 7) (qa (qi qm (pv 8) qc (fun _ _=>rfl)) (qa (qo (qa (pv 9) (qa (qh1 (call_minR rfl) rfl b_min bo_min (qa qc (qa (qs0 qf2 (pv 9) (qs0 qf1 (qs0 qy1 (qi qp (pv 4) qc (fun _ _=>rfl)) qc) qc)) qd0))) qd0))) qd0))))) qd0))))))))))) (by intro _; rfl)) (@qf _ _ _ (qq0 (pv 2))))),?_⟩
 rw [st__law_changes]
 walk_at "sv"
 refine lstN (by simp) fun D H0 nD s0 hD0=>?_
 walk_at "sv"
 refine ⟨by decide,?_⟩
 have m4:=qz1 c (show (0:Int)<4 by decide)
 generalize c % 4=many at *
 refine RngR.go (by omega) (by omega) ?_
 refine ForR.range (fun i σ H'=>Same H H'∧∃ (xs:List V) (cs:List Chg) (y1 y2 y3 y4 y5 y6 y7 y8:Option V),H' D=some (.lst xs)∧All2 (ChgAt H') xs cs∧cs.length=i∧(∀ c∈cs,ChgT c∧c.hi<c.lo+100)∧σ=[some (.int c),some (.ref t),some (.ref D),y1,y2,y3,y4,y5,y6,y7,y8]) ⟨s0,[],[],_,_,_,_,_,_,_,_,hD0,.nil,rfl,(fun b hb=>by cases hb),rfl⟩ (fun i σ H1 hi pv=>?_) (fun σ H1 pv=>?_)
 ·obtain ⟨sm,xs,cs,y1,y2,y3,y4,y5,y6,y7,y8,hD1,al1,cl,ct,rfl⟩:=pv
  have xl:=al1.len
  walk_at "sv"
  refine ⟨_,4,rfl,by decide,fun ld ds H2 nd s2 hd dl _=>?_⟩
  obtain ⟨d0,d1,d2,d3,rfl⟩:=four dl
  have sm2:=sm.trans s2
  walk_at "sv"
  refine ixT_go (i:=1) (SqT.of (sm2 _ _ ht)) rfl ?_
  refine qe1 (i:=0) (SqL.of hd) rfl ?_
  walk_at "sv"
  refine ⟨by decide,?_⟩
  obtain ⟨m0,ea,e0,em0,ev0,ee0,hea⟩:=pick_end al e3 d0
  rw [em0]
  refine qe1 (SqL.of (sm2 _ _ hle)) ev0 ?_
  obtain ⟨ad0,ad1,_,_⟩:=eok _ (List.mem_of_getElem? ee0)
  walk_at "sv"
  refine tupN (by simp) fun w0 H8 n8 s8 h8=>?_
  have hea8:=s8 _ _ (sm2 _ _ hea)
  refine ixT_go (i:=0) (SqT.of hea8) rfl ?_
  refine ixT_go (i:=0) (SqT.of hea8) rfl ?_
  generalize e0.1=ad at *
  refine tupN (by simp) fun w1 H9 n9 s9 h9=>?_
  refine lstN (by simp) fun lw Hb nb sb hb=>?_
  have s8b:=(s8.trans s9).trans sb
  have hdb:=s8b _ _ hd
  refine qe1 (i:=0) (SqL.of hdb) rfl ?_
  walk_at "sv"
  refine ⟨⟨by decide,by decide⟩,by decide,?_⟩
  have hy:∀ v∈([.ref w0,.ref w1]:List V),∃ a lo hi,v=.ref a∧Hb a=some (.tup [.int lo,.int hi])∧0≤lo∧lo≤hi∧hi<4294967296:=fun v hv=>by
   simp only [List.mem_cons,List.not_mem_nil,or_false] at hv
   rcases hv with rfl | rfl
   ·exact ⟨_,_,_,rfl,sb _ _ (s9 _ _ h8),by decide,by decide,by decide⟩
   ·exact ⟨_,_,_,rfl,sb _ _ h9,ad0,Int.le_refl _,ad1⟩
  refine ixL_any (n:=2) hb rfl (qz1 (d0 / 4) (show (0:Int)<2 by decide)) fun v hv=>?_
  obtain ⟨p2,sl,sh,rfl,hp2,sb0,sb1,sb2⟩:=hy v hv
  clear hy hv h8 h9 hb hea8 ad0 ad1
  walk_at "sv"
  refine tupN (by simp) fun p1 Hc nc sc hc=>?_
  refine tupN (by simp) fun p3 Hd nd' sd hd'=>?_
  refine tupN (by simp) fun p4 He ne se he=>?_
  refine tupN (by simp) fun p5 Hx nx sx hx=>?_
  refine tupN (by simp) fun pb Hf nf sf hf=>?_
  have scf:=(((sc.trans sd).trans se).trans sx).trans sf
  have sbf:=s8b.trans scf
  have box:IsBox Hf pb [(0,255),(sl,sh),(0,65535),(0,4294967295),(0,65535)]:=⟨_,hf,.cons (sf _ _ (sx _ _ (se _ _ (sd _ _ hc)))) (.cons (scf _ _ hp2) (.cons (sf _ _ (sx _ _ (se _ _ hd'))) (.cons (sf _ _ (sx _ _ he)) (.cons (sf _ _ hx) .nil))))⟩
  have lowb:Low [(0,255),(sl,sh),(0,65535),(0,4294967295),(0,65535)]:=fun b hb=>by
   simp only [List.mem_cons,List.not_mem_nil,or_false] at hb
   rcases hb with rfl | rfl | rfl | rfl | rfl
   ·exact ⟨by decide,by decide,by decide⟩
   ·exact ⟨sb0,sb1,Int.lt_trans sb2 (by decide)⟩
   ·exact ⟨by decide,by decide,by decide⟩
   ·exact ⟨by decide,by decide,by decide⟩
   ·exact ⟨by decide,by decide,by decide⟩
  have bl:[(0,255),(sl,sh),(0,65535),(0,4294967295),(0,65535)].length=5:=rfl
  generalize [(0,255),(sl,sh),(0,65535),(0,4294967295),(0,65535)]=bs at *
  have s2f:=s2.trans sbf
  have smf:=sm.trans s2f
  have hdf:=sbf _ _ hd
  clear hc hd' he hx hf hp2 hdb
  walk_at "sv"
  refine ixT_go (i:=1) (SqT.of (smf _ _ ht)) rfl ?_
  refine qe1 (i:=1) (SqL.of hdf) rfl ?_
  walk_at "sv"
  refine ⟨by decide,?_⟩
  obtain ⟨m1,eb,e1,em1,ev1,ee1,heb⟩:=pick_end al e3 d1
  rw [em1]
  refine qe1 (SqL.of (smf _ _ hle)) ev1 ?_
  refine qe1 (i:=2) (SqL.of hdf) rfl ?_
  walk_at "sv"
  refine ⟨by decide,?_⟩
  refine qe1 (i:=3) (SqL.of hdf) rfl ?_
  walk_at "sv"
  refine ⟨by decide,?_⟩
  refine tupN (by simp) fun en Hg ng sg hg=>?_
  refine lstN (by simp) fun lo Hh nh sh' hh=>?_
  have sgh:=sg.trans sh'
  have hdh:=sgh _ _ hdf
  refine qe1 (i:=1) (SqL.of hdh) rfl ?_
  walk_at "sv"
  refine ⟨⟨by decide,by decide⟩,by decide,?_⟩
  have hz:∀ v∈([.ref eb,.ref en]:List V),∃ a x y,v=.ref a∧Hh a=some (.tup [.int x,.int y])∧EndOk (x,y):=fun v hv=>by
   simp only [List.mem_cons,List.not_mem_nil,or_false] at hv
   rcases hv with rfl | rfl
   ·exact ⟨_,_,_,rfl,sgh _ _ (smf _ _ heb),eok _ (List.mem_of_getElem? ee1)⟩
   ·have w1:=qz1 d2 (show (0:Int)<4294967296 by decide)
    have w2:=qz1 d3 (show (0:Int)<65536 by decide)
    exact ⟨_,_,_,rfl,sh' _ _ hg,w1.1,w1.2,w2.1,w2.2⟩
  refine ixL_any (n:=2) hh rfl (qz1 (d1 / 4) (show (0:Int)<2 by decide)) fun v hv=>?_
  obtain ⟨ot,ax,dy,rfl,hot,ax0,ax1,dy0,dy1⟩:=hz v hv
  have ax0:0≤ax:=ax0
  have ax1:ax<4294967296:=ax1
  have dy0:0≤dy:=dy0
  have dy1:dy<65536:=dy1
  clear hz hv hg hh
  walk_at "sv"
  refine ixT_go (i:=1) (SqT.of hot) rfl ?_
  refine qe1 (i:=1) (SqL.of hdh) rfl ?_
  walk_at "sv"
  refine ⟨⟨by decide,by decide⟩,by decide,?_⟩
  have a3:=qz1 (d1 / 8) (show (0:Int)<3 by decide)
  generalize d1 / 8 % 3=a8 at *
  walk_at "sv"
  obtain ⟨lo',elo,lo0,lo1⟩:∃ x,max 0 (dy - a8)=x∧0≤x∧x<65536:=⟨_,rfl,by omega,by omega⟩
  rw [elo]
  clear elo
  refine lstN (by simp) fun lz Hi ni si hi'=>?_
  refine qe1 (i:=1) (SqL.of (si _ _ hdh)) rfl ?_
  walk_at "sv"
  refine ⟨⟨by decide,by decide⟩,by decide,?_⟩
  refine ixL_any (n:=3) hi' rfl (qz1 (d1 / 24) (show (0:Int)<3 by decide)) fun v hv=>?_
  obtain ⟨side,rfl,sok⟩:∃ z,v=.str z∧PyData.strOk z=true:=by
   simp only [List.mem_cons,List.not_mem_nil,or_false] at hv
   rcases hv with rfl | rfl | rfl
   ·exact ⟨_,rfl,from_ok.1⟩
   ·exact ⟨_,rfl,from_ok.1⟩
   ·exact ⟨_,rfl,from_ok.2⟩
  clear hv
  have s2i:=(s2f.trans sgh).trans si
  have hoti:=si _ _ hot
  have boxi:=box.same (sgh.trans si)
  walk_at "sv"
  refine ⟨ty_lst (s2i _ _ hD1),?_⟩
  refine ixT_go (i:=0) (SqT.of hoti) rfl ?_
  refine qe1 (i:=1) (SqL.of (si _ _ hdh)) rfl ?_
  walk_at "sv"
  refine ⟨⟨by decide,by decide⟩,by decide,?_⟩
  have b4:=qz1 (d1 / 72) (show (0:Int)<4 by decide)
  generalize d1 / 72 % 4=a72 at *
  walk_at "sv"
  obtain ⟨hi'',ehi,lohi,hi1,hi2⟩:∃ x,min 65535 (lo'+a72)=x∧lo'≤x∧x<65536∧x<lo'+100:=⟨_,rfl,by omega,by omega,by omega⟩
  rw [ehi]
  clear ehi
  refine tupN (by simp) fun dd Hj nj sj hdd=>?_
  refine tupN (by simp) fun tc Hk nk sk htc=>?_
  have sjk:=sj.trans sk
  have z18:=s2i.trans sjk
  have hD8:=z18 _ _ hD1
  refine app_go hD8 (by omega) ?_
  have new:ChgAt Hk (.ref tc) ⟨side,bs,ax,lo',hi''⟩:=⟨tc,pb,dd,rfl,htc,boxi.same sjk,bl,lowb.fair (by omega),sk _ _ hdd,lo0,lohi,hi1⟩
  refine ⟨(sm.trans z18).put nD,xs++[.ref tc],cs++[⟨side,bs,ax,lo',hi''⟩],_,_,_,_,_,_,_,_,qe,((al1.imp fun _ _ h=>h.same z18).snoc new).imp fun _ _ h=>h.upd hD8,by rw [List.length_append,cl]; rfl,fun x hx=>?_,rfl⟩
  rcases List.mem_append.mp hx with hx | hx
  ·exact ct x hx
  ·obtain rfl:=List.mem_singleton.mp hx
   exact ⟨⟨⟨ax0,ax1⟩,sok⟩,hi2⟩
 ·obtain ⟨sm,xs,cs,y1,y2,y3,y4,y5,y6,y7,y8,hD1,al1,cl,ct,rfl⟩:=pv
  walk_at "sv"
  exact q D xs cs H1 nD sm hD1 al1 ct (by omega)
--CUT--
def R6 (H:Hp)(v:V)(x:Tk):Prop:=∃ t p q,v=.ref t∧H t=some (.tup [.ref p,.ref q,.bl x.ans,.int x.til,.bl (decide (x.lab∈x.fw)),.bl (decide (x.back∈x.fw))])∧IsPt H p x.lab∧IsPt H q x.sent
theorem R6.to {H H':Hp}{v:V}{x:Tk}(h:R6 H v x)(k:∀ a xs,H a=some (.tup xs)→H' a=some (.tup xs)):R6 H' v x:=by
 obtain ⟨t,p,q,e,h1,h2,h3⟩:=h
 exact ⟨t,p,q,e,k _ _ h1,k _ _ h2,k _ _ h3⟩
theorem r6s_to {H H':Hp}{us:List V}{ts:List Tk}(h:All2 (R6 H) us ts)(k:∀ a xs,H a=some (.tup xs)→H' a=some (.tup xs)):All2 (R6 H') us ts:=All2.imp h fun _ _ r=>r.to k
theorem qv1 {H H':Hp}{us:List V}{ts:List Tk}(h:All2 (R6 H) us ts)(s:Same H H'):All2 (R6 H') us ts:=r6s_to h fun _ _ e=>s _ _ e
def ixK (ns:List Int):List Tk→Option Nat
 | []=>none
 | x::ts=>if qz0 ns x=true then some 0 else (ixK ns ts).map (·+1)
def ixI (ns:List Int)(ts:List Tk):Int:=match ixK ns ts with
 | some i=>(i:Int)
 | none=>-1
theorem ixK_cases (ns:List Int):∀ ts:List Tk,(ixK ns ts=none∧ts.find? (qz0 ns)=none)∨∃ i x,ixK ns ts=some i∧ts[i]?=some x∧qz0 ns x=true∧ts.find? (qz0 ns)=some x
 | []=>.inl ⟨rfl,rfl⟩
 | x::ts=>by
  by_cases h:qz0 ns x=true
  ·exact .inr ⟨0,x,if_pos h,rfl,h,by rw [List.find?_cons,h]⟩
  ·have h':qz0 ns x=false:=by simpa using h
   have e:ixK ns (x::ts)=(ixK ns ts).map (·+1):=if_neg h
   have f:(x::ts).find? (qz0 ns)=ts.find? (qz0 ns):=by rw [List.find?_cons,h']
   rw [e,f]
   rcases ixK_cases ns ts with ⟨a,b⟩ | ⟨i,y,a,b,c,d⟩
   ·exact .inl ⟨by rw [a]; rfl,b⟩
   ·exact .inr ⟨i+1,y,by rw [a]; rfl,b,c,d⟩
theorem ixK_at {ns:List Int}:∀ {ts:List Tk} {i:Nat} {x:Tk},ts[i]?=some x→qz0 ns x=true→(∀ j y,j<i→ts[j]?=some y→qz0 ns y=false)→ixK ns ts=some i
 | y::ts,0,x,e,h,_=>by
  have e:some y=some x:=e
  cases e
  exact if_pos h
 | y::ts,i+1,x,e,h,no=>by
  have n0:=no 0 y (Nat.succ_pos _) rfl
  have e2:ixK ns (y::ts)=(ixK ns ts).map (·+1):=if_neg (by rw [n0]; exact Bool.false_ne_true)
  rw [e2,ixK_at (ts:=ts) (i:=i) e h fun j z lj ez=>no (j+1) z (Nat.succ_lt_succ lj) ez]
  rfl
theorem ixK_no {ns:List Int}{ts:List Tk}(no:∀ (j:Nat) (y:Tk),ts[j]?=some y→qz0 ns y=false):ixK ns ts=none:=by
 rcases ixK_cases ns ts with ⟨a,_⟩ | ⟨i,x,_,b,c,_⟩
 ·exact a
 ·rw [no i x b] at c
  cases c
theorem ixI_neg (ns:List Int)(ts:List Tk):decide (ixI ns ts<0)=!isKey ts ns:=by
 unfold ixI isKey
 rcases ixK_cases ns ts with ⟨a,b⟩ | ⟨i,x,a,_,_,b⟩
 ·rw [a,b]
  rfl
 ·rw [a,b]
  exact decide_eq_false (by show ¬ ((i:Int)<0); omega)
theorem key_or {ns:List Int}{x:Tk}(h:qz0 ns x=true):ns=x.lab∨ns=x.back:=by
 unfold qz0 at h
 rw [Bool.or_eq_true,decide_eq_true_eq,decide_eq_true_eq] at h
 exact h.imp Eq.symm Eq.symm
theorem no_key {ns:List Int}{x:Tk}(h1:¬ ns=x.lab)(h2:¬ ns=x.back):qz0 ns x=false:=by
 unfold qz0
 rw [decide_eq_false (fun e=>h1 e.symm),decide_eq_false (fun e=>h2 e.symm)]
 rfl
theorem is_key {ns:List Int}{x:Tk}(h:ns=x.lab∨ns=x.back):qz0 ns x=true:=by
 unfold qz0
 rcases h with rfl | rfl
 ·rw [decide_eq_true rfl,Bool.true_or]
 ·rw [decide_eq_true (p:=x.back=x.back) rfl,Bool.or_true]
def spAtI:Sp:=fun vs H Q _=>∃ (l p:Addr) (us:List V) (ts:List Tk) (ns:List Int),vs=[.ref l,.ref p]∧H l=some (.lst us)∧All2 (R6 H) us ts∧(∀ x∈ts,x.sent.length=5)∧ts.length≤200∧IsPt H p ns∧∀ H',Same H H'→Q (.int (ixI ns ts)) H'
theorem ok_atI (F:Fun K "_law_at" "_law_at" s__law_at f fd)(g__law_flip:Fn P w K mg base "_law_flip" 1 ["_law_label_here"] spFlip)(b_range:mg "range"=none)(b_len:mg "len"=none):FnOk P w K mg base CX0 2 f fd ["_law_talks","_law_label_here"] spAtI:=by
 refine F.ok sc__law_at (fun vs H Q E h=>?_) (fun cdv A outer s H vs Q E hr h=>?_)
 ·obtain ⟨_,_,_,_,_,rfl,_⟩:=h
  rfl
 obtain ⟨l,p,us,ts,ns,rfl,hl,al,l5,few,hp,q⟩:=h
 have len:=All2.len al
 refine ⟨_,(@qb _ _ _ _ _ (@ps_for _ _ _ _ _ _ _ _ PassesOwn.never rfl (pi_range1 rfl b_range (qa (qh1 call_lenR rfl b_len bo_len (qa (pv 0) qd0)) qd0)) (qn0 (i:=2) sc__law_at.nd rfl (Or.inl rfl)) (@qf _ _ _ (@qo1 _ _ _ _ _ _ _ _ (PW.pt (pw_or (qv (op_eqD hr.units) (pv 1) (qi qm (qi qp (pv 0) (pv 2) (fun _ _=>rfl)) qc (fun _ _=>rfl)) (qa1 _)) (pw_or1 (qv (op_eqD hr.units) (pv 1) (qj1 g__law_flip hr (by decide) rfl (qa (qi qm (qi qp (pv 0) (pv 2) (fun _ _=>rfl)) qc (fun _ _=>rfl)) qd0)) (qa1 _))))) (@qf _ _ _ (qq0 (pv 2))) qw)) (by intro _; rfl)) (@qf _ _ _ (qq0 (pe_un un_neg qc)))),?_⟩
 rw [st__law_at]
 walk_at "sv"
 refine LenR.lst (SqL.of hl) ?_
 refine RngR.go (by omega) (by omega) ?_
 rw [Int.toNat_natCast]
 refine ForR.range (fun i σ H'=>Same H H'∧(∀ j y,j<i→ts[j]?=some y→qz0 ns y=false)∧∃ y,σ=[some (.ref l),some (.ref p),y]) ⟨Same.refl _,fun j y h=>absurd h (Nat.not_lt_zero _),_,rfl⟩ (fun i σ H1 hi pv=>?_) (fun σ H1 pv=>?_)
 ·obtain ⟨sm,no,y,rfl⟩:=pv
  obtain ⟨v,ev⟩:∃ v,us[i]?=some v:=⟨us[i],List.getElem?_eq_getElem hi⟩
  obtain ⟨x,ex,t,p1,q1,rfl,ht,hp1,hq1⟩:=All2.at al ev
  rw [Int.zero_add]
  walk_at "sv"
  refine qe1 (SqL.of (sm _ _ hl)) ev ?_
  walk_at "sv"
  refine ixT_go (i:=0) (SqT.of (sm _ _ ht)) rfl ?_
  refine ⟨_,_,(hp.same sm).dt,(hp1.same sm).dt,qr0 _,qr0 _,?_⟩
  rw [if_neg Bool.false_ne_true,qp1 (qx1 ns x.lab)]
  walk_at "sv"
  refine BrO.dec (fun e1=>?_) fun e1=>?_
  ·walk_at "sv"
   have:=q H1 sm
   unfold ixI at this
   rw [ixK_at ex (is_key (.inl e1)) no] at this
   exact this
  ·walk_at "sv"
   refine qe1 (SqL.of (sm _ _ hl)) ev ?_
   walk_at "sv"
   refine ixT_go (i:=1) (SqT.of (sm _ _ ht)) rfl ?_
   refine spFlip.go (hq1.same sm) (l5 x (List.mem_of_getElem? ex)) fun r H2 nr s2 hr2=>?_
   refine ⟨_,_,((hp.same sm).same s2).dt,hr2.dt,qr0 _,qr0 _,?_⟩
   rw [if_neg Bool.false_ne_true,qp1 (qx1 ns (flipL x.sent))]
   walk_at "sv"
   refine BrS.dec (fun e2=>?_) fun e2=>?_
   ·walk_at "sv"
    have:=q H2 (sm.trans s2)
    unfold ixI at this
    rw [ixK_at ex (is_key (.inr e2)) no] at this
    exact this
   ·walk_at "sv"
    refine ⟨sm.trans s2,fun j z lj ez=>?_,_,rfl⟩
    rcases Nat.lt_succ_iff_lt_or_eq.mp lj with lj | rfl
    ·exact no j z lj ez
    ·rw [ex] at ez
     cases ez
     exact no_key e1 e2
 ·obtain ⟨sm,no,y,rfl⟩:=pv
  walk_at "sv"
  have:=q H1 sm
  unfold ixI at this
  rw [ixK_no fun j z ez=>no j z (by have:=(List.getElem?_eq_some_iff.mp ez).1; omega) ez] at this
  exact this
structure Fi (B:Tb)(i:Nat):Prop where
 ok:TsOk B.ts
 few:(B.ts.length:Int)≤B.most
 most:B.most≤6
 sh:0≤B.short∧B.short≤1000000000
 lo:0≤B.long∧B.long≤1000000000
 tm:0≤B.time∧B.time≤(i:Int) * 2000000000
 til:∀ z∈B.ts,B.time≤z.til∧z.til≤B.time+1000000000
 lab:∀ z∈B.ts,LabT z.lab∧LabT z.sent∧z.fw.length≤i
theorem Fi.up {B:Tb}{i:Nat}(h:Fi B i):Fi B (i+1):=⟨h.ok,h.few,h.most,h.sh,h.lo,⟨h.tm.1,by have:=h.tm.2; omega⟩,h.til,fun z hz=>⟨(h.lab z hz).1,(h.lab z hz).2.1,Nat.le_succ_of_le (h.lab z hz).2.2⟩⟩
theorem addK_len (ks:List (List Int))(k:List Int):(addK ks k).length≤ks.length+1:=by
 unfold addK
 split
 ·omega
 ·rw [List.length_append,List.length_singleton]
  exact Nat.le_refl _
def Nx (B B':Tb):Prop:=B'=B∨(∃ ns ms,B'=B.begin ns ms∧ns.length=5∧ms.length=5∧LabT ns∧LabT ms∧¬ B.most≤B.ts.length∧qt1 B.ts ns ms=true)∨(∃ ns last x,B'=B.go ns last x∧B.ts.find? (qz0 ns)=some x)∨∃ m,B'=B.at m∧B.time≤m∧m≤B.time+1000000007
theorem Fi.go {B:Tb}{i:Nat}{ns:List Int}{last:Bool}{x:Tk}(h:Fi B i)(fx:B.ts.find? (qz0 ns)=some x):Fi (B.go ns last x) (i+1):=by
 have hx:=List.mem_of_find?_eq_some fx
 obtain ⟨okp,_⟩:=putT_ok (y:=x.go B ns last) h.ok hx rfl rfl
 have s1:=h.sh
 have s2:=h.lo
 have mem:∀ z∈putT B.ts (x.go B ns last),(B.time≤z.til∧z.til≤B.time+1000000000)∧LabT z.lab∧LabT z.sent∧z.fw.length≤i+1:=fun z hz=>by
  obtain ⟨u,hu,e⟩:=List.mem_map.mp hz
  have e:(if u.lab=(x.go B ns last).lab then x.go B ns last else u)=z:=e
  split at e
  ·subst e
   obtain ⟨a,b,c⟩:=h.lab x hx
   refine ⟨?_,a,b,?_⟩
   ·show B.time≤B.time+(if _ then B.long else B.short)∧B.time+(if _ then B.long else B.short)≤B.time+1000000000
    split <;> omega
   ·show (if last=true then addK x.fw ns else x.fw).length≤i+1
    have:=addK_len x.fw ns
    split <;> omega
  ·subst e
   exact ⟨h.til u hu,(h.lab u hu).1,(h.lab u hu).2.1,Nat.le_succ_of_le (h.lab u hu).2.2⟩
 have len:(putT B.ts (x.go B ns last)).length=B.ts.length:=List.length_map _
 have f:=h.few
 have tm:0≤B.time∧B.time≤((i+1:Nat):Int) * 2000000000:=h.up.tm
 by_cases o:(x.go B ns last).over=true
 ·have e:(B.go ns last x).ts=(putT B.ts (x.go B ns last)).filter (x.go B ns last).not:=if_pos o
  refine ⟨?_,?_,h.most,h.sh,h.lo,tm,?_,?_⟩ <;> rw [e]
  ·exact okp.filter _
  ·have:=List.length_filter_le (x.go B ns last).not (putT B.ts (x.go B ns last))
   show (_:Int)≤B.most
   omega
  ·exact fun z hz=>(mem z (List.mem_filter.mp hz).1).1
  ·exact fun z hz=>(mem z (List.mem_filter.mp hz).1).2
 ·have e:(B.go ns last x).ts=putT B.ts (x.go B ns last):=if_neg o
  refine ⟨?_,?_,h.most,h.sh,h.lo,tm,?_,?_⟩ <;> rw [e]
  ·exact okp
  ·show (_:Int)≤B.most
   omega
  ·exact fun z hz=>(mem z hz).1
  ·exact fun z hz=>(mem z hz).2
theorem Fi.next {B B':Tb}{i:Nat}(h:Fi B i)(n:Nx B B'):Fi B' (i+1)∧B'.short=B.short∧B'.long=B.long∧B'.most=B.most:=by
 rcases n with rfl | ⟨ns,ms,rfl,l5,m5,ln,lm,nf,fr⟩ | ⟨ns,last,x,rfl,fx⟩ | ⟨m,rfl,m1,m2⟩
 ·exact ⟨h.up,rfl,rfl,rfl⟩
 ·have s1:=h.sh
  have f:=h.few
  have f5:=h.most
  refine ⟨⟨ok_snoc h.ok (by omega) l5 m5 fr,?_,h.most,h.sh,h.lo,h.up.tm,fun z hz=>?_,fun z hz=>?_⟩,rfl,rfl,rfl⟩
  ·show ((B.ts++[_]).length:Int)≤B.most
   rw [List.length_append,List.length_singleton]
   omega
  ·rcases List.mem_append.mp hz with hz | hz
   ·exact h.til z hz
   ·rw [List.mem_singleton] at hz
    subst hz
    show B.time≤B.time+B.short∧B.time+B.short≤B.time+1000000000
    omega
  ·rcases List.mem_append.mp hz with hz | hz
   ·exact h.up.lab z hz
   ·rw [List.mem_singleton] at hz
    subst hz
    exact ⟨ln,lm,Nat.zero_le _⟩
 ·exact ⟨h.go fx,rfl,rfl,rfl⟩
 ·refine ⟨⟨h.ok.filter _,?_,h.most,h.sh,h.lo,?_,fun z hz=>?_,fun z hz=>h.up.lab z (List.mem_filter.mp hz).1⟩,rfl,rfl,rfl⟩
  ·have:=List.length_filter_le (Tk.stands m) B.ts
   have f:=h.few
   show ((B.ts.filter (Tk.stands m)).length:Int)≤B.most
   omega
  ·have:=h.tm
   show 0≤m∧m≤((i+1:Nat):Int) * 2000000000
   omega
  ·obtain ⟨hz,st⟩:=List.mem_filter.mp hz
   have:=of_decide_eq_true st
   have t:=h.til z hz
   show m≤z.til∧z.til≤m+1000000000
   omega
theorem put_split {ts:List Tk}{i:Nat}{x y:Tk}(nd:(keysL ts).Nodup)(e:ts[i]?=some x)(el:y.lab=x.lab):putT ts y=ts.take i++[y]++ts.drop (i+1)∧(putT ts y).filter y.not=ts.take i++ts.drop (i+1):=by
 have nl:(ts.map Tk.lab).Nodup:=nd.sublist (labs_sub ts)
 obtain ⟨hi,rfl⟩:=List.getElem?_eq_some_iff.mp e
 have sp:ts=ts.take i++ts[i]::ts.drop (i+1):=by rw [List.getElem_cons_drop,List.take_append_drop]
 rw [sp,List.map_append,List.map_cons] at nl
 obtain ⟨_,nd2,dj⟩:=List.nodup_append.mp nl
 have a1:∀ z∈ts.take i,¬ z.lab=y.lab:=fun z hz c=>dj _ (List.mem_map_of_mem hz) _ List.mem_cons_self (c.trans el)
 have a2:∀ z∈ts.drop (i+1),¬ z.lab=y.lab:=fun z hz c=>(List.nodup_cons.mp nd2).1 (by rw [← el,← c]; exact List.mem_map_of_mem hz)
 have m1:(ts.take i).map (fun z=>if z.lab=y.lab then y else z)=ts.take i:=by
  refine (List.map_congr_left fun z hz=>?_).trans (List.map_id _)
  exact if_neg (a1 z hz)
 have m2:(ts.drop (i+1)).map (fun z=>if z.lab=y.lab then y else z)=ts.drop (i+1):=by
  refine (List.map_congr_left fun z hz=>?_).trans (List.map_id _)
  exact if_neg (a2 z hz)
 have p:putT ts y=ts.take i++[y]++ts.drop (i+1):=by
  unfold putT
  conv=>lhs; rw [sp]
  rw [List.map_append,List.map_cons,m1,m2,if_pos el.symm,List.append_assoc]
  rfl
 refine ⟨p,?_⟩
 rw [p,List.filter_append,List.filter_append]
 have f1:(ts.take i).filter y.not=ts.take i:=List.filter_eq_self.mpr fun z hz=>by
  unfold Tk.not
  rw [decide_eq_false (a1 z hz)]
  rfl
 have f2:(ts.drop (i+1)).filter y.not=ts.drop (i+1):=List.filter_eq_self.mpr fun z hz=>by
  unfold Tk.not
  rw [decide_eq_false (a2 z hz)]
  rfl
 have f3:[y].filter y.not=[]:=by
  unfold Tk.not
  rw [List.filter_cons_of_neg (by rw [decide_eq_true rfl]; decide)]
  rfl
 rw [f1,f2,f3,List.append_nil]
theorem lab_back {ts:List Tk}(nd:(keysL ts).Nodup){x:Tk}(hx:x∈ts):x.lab≠x.back:=by
 obtain ⟨i,e⟩:=List.getElem?_of_mem hx
 exact fun z=>(key_fresh nd e).2.2 z.symm
theorem addK_mem {ks:List (List Int)}{k z:List Int}:z∈addK ks k↔z∈ks∨z=k:=by
 unfold addK
 split
 ·rename_i h
  exact ⟨.inl,fun o=>o.elim id fun e=>e▸h⟩
 ·rw [List.mem_append,List.mem_singleton]
theorem all2_take {α β:Type}{R:α→β→Prop}{xs:List α}{ys:List β}(h:All2 R xs ys):∀ n:Nat,All2 R (xs.take n) (ys.take n)∧All2 R (xs.drop n) (ys.drop n):=by
 induction h with
 | nil=>exact fun n=>by rw [List.take_nil,List.take_nil,List.drop_nil,List.drop_nil]; exact ⟨.nil,.nil⟩
 | cons r t ih =>
  intro n
  cases n with
  | zero=>exact ⟨.nil,.cons r t⟩
  | succ n=>exact ⟨.cons r (ih n).1,(ih n).2⟩
theorem Fi.f200 {B:Tb}{i:Nat}(h:Fi B i):B.ts.length<200:=by
 have:=h.few
 have:=h.most
 omega
theorem Fi.sent {B:Tb}{i:Nat}(h:Fi B i):∀ x∈B.ts,x.sent.length=5:=fun x hx=>(h.ok.five x hx).2
def spIn49:Sp:=fun vs H Q _=>∃ (b p:Addr) (bs:List (Int×Int)) (ns:List Int),vs=[.ref b,.ref p]∧IsBox H b bs∧ns.length≤8∧IsPt H p ns∧∀ H',Same H H'→Q (.bl (inBox bs ns)) H'
theorem ok_in49 (F:Fun K "_law_in" "_law_in" s__law_in f fd)(b_zip:mg "zip"=none)(b_all:mg "all"=none):FnOk P w K mg base CX0 1 f fd ["_law_box","_law_point"] spIn49:=by
 refine F.ok sc__law_in (fun vs H Q E h=>?_) (fun cdv A outer s H vs Q E hr h=>?_)
 ·obtain ⟨_,_,_,_,rfl,_⟩:=h
  rfl
 obtain ⟨b,p,bs,ns,rfl,⟨vs,hpb,hb⟩,n8,hp,q⟩:=h
 have hp1:H p=some (.tup (ns.map V.int)):=hp
 refine ⟨_,(@qf _ _ _ (qq0 (qh1 (call_all rfl) rfl b_all bo_all (qa (pe_comp (T:=["_law_one","_law_number"]) (cap:=[]) rfl (COk.of (out:=qg s__law_in) (N:=["_law_box","_law_point"]) rfl rfl (by decide +kernel)) (pi_zip rfl b_zip (qa (pv 0) (qa (pv 1) qd0))) (fun _ _ _=>(pg_tupK (K:=K) (n:=2) rfl rfl (qb1 (qn0 (i:=0) (show List.Nodup (["_law_one","_law_number"]:List Str) by decide +kernel) rfl (Or.inl rfl)) (qb1 (qn0 (i:=1) (show List.Nodup (["_law_one","_law_number"]:List Str) by decide +kernel) rfl (Or.inl rfl)) pgs_nil)))) (fun _ _ _=>pifs_nil) (fun _ _ _=>(pe_chain op_le op_le (qi (ix_tupK (K:=K) rfl) (pv 0) qc (fun _ _=>rfl)) (pv 1) (qi (ix_tupK (K:=K) rfl) (pv 0) qc (fun _ _=>rfl))))) qd0)))),?_⟩
 rw [st__law_in]
 walk_at "sv"
 refine ZipR.go (SqT.of hpb) (SqT.of hp1) ?_
 refine CmpR.pairs (inV H) itz (by rw [List.length_zip,List.length_map]; omega) (fun H' sm=>⟨sm.seqT (SqT.of hpb),sm.seqT (SqT.of hp1)⟩) (fun x H' Q' hx sm q'=>?_) (fun D H2 hD s2 hl1=>?_)
 ·obtain ⟨x1,x2⟩:=x
  obtain ⟨m1,m2⟩:=List.of_mem_zip hx
  obtain ⟨a,lo,hi,rfl,_,ha⟩:=hb.mem m1
  obtain ⟨n,_,rfl⟩:=List.mem_map.mp m2
  rw [inV_at ha] at q'
  walk_at "sv"
  refine ixT_go (i:=0) (SqT.of (sm _ _ ha)) rfl ?_
  walk_at "sv"
  by_cases c1:lo≤n
  ·rw [decide_eq_true c1]
   walk_at "sv"
   refine ixT_go (i:=1) (SqT.of (sm _ _ ha)) rfl ?_
   walk_at "sv"
   have e:liesIn (lo,hi) n=decide (n≤hi):=by
    unfold liesIn
    rw [decide_eq_true (show (lo,hi).1≤n from c1),Bool.true_and]
   rw [← e]
   exact q' H' (Same.refl _)
  ·rw [decide_eq_false c1]
   walk_at "sv"
   have e:liesIn (lo,hi) n=false:=by
    unfold liesIn
    rw [decide_eq_false (show ¬ (lo,hi).1≤n from c1),Bool.false_and]
   have z:=q' H' (Same.refl _)
   rw [e] at z
   exact z
 rw [ins_of hb] at hl1
 walk_at "sv"
 refine all_go (SqL.of hl1) ?_
 exact q H2 s2
theorem ixI_cases (ns:List Int)(ts:List Tk):(ixI ns ts=-1∧ts.find? (qz0 ns)=none)∨∃ (i:Nat) (x:Tk),ixI ns ts=(i:Int)∧ts[i]?=some x∧qz0 ns x=true∧ts.find? (qz0 ns)=some x:=by
 unfold ixI
 rcases ixK_cases ns ts with ⟨a,b⟩ | ⟨i,x,a,b,c,d⟩
 ·rw [a]
  exact .inl ⟨rfl,b⟩
 ·rw [a]
  exact .inr ⟨i,x,rfl,b,c,d⟩
def spTurn49:Sp:=fun vs H Q _=>∃ (l p:Addr) (us:List V) (ts:List Tk) (ns:List Int),vs=[.ref l,.ref p]∧H l=some (.lst us)∧All2 (R6 H) us ts∧TsOk ts∧IsPt H p ns∧∀ H',Same H H'→Q (.int (qm1 ts ns)) H'
theorem ok_turn49 (F:Fun K "_law_turn" "_law_turn" s__law_turn f fd)(g__law_at:Fn P w K mg base "_law_at" 2 ["_law_talks","_law_label_here"] spAtI)(b_int:mg "int"=none):FnOk P w K mg base CX0 3 f fd ["_law_talks","_law_label_here"] spTurn49:=by
 refine F.ok sc__law_turn (fun vs H Q E h=>?_) (fun cdv A outer s H vs Q E hr h=>?_)
 ·obtain ⟨_,_,_,_,_,rfl,_⟩:=h
  rfl
 obtain ⟨l,p,us,ts,ns,rfl,hl,al,ok,hp,q⟩:=h
 refine ⟨_,(@qb _ _ _ _ _ (ql (i:=2) sc__law_turn.nd rfl (Or.inl rfl) (qj1 g__law_at hr (by decide) rfl (qa (pv 0) (qa (pv 1) qd0)))) (@qb _ _ _ _ _ (@qo1 _ _ _ _ _ _ _ _ (qv op_lt (pv 2) qc (qa1 _)) (@qf _ _ _ (qq0 qc)) qw) (@qb _ _ _ _ _ (@qo1 _ _ _ _ _ _ _ _ (qv (op_neD hr.units) (pv 1) (qi qm (qi qp (pv 0) (pv 2) (fun _ _=>rfl)) qc (fun _ _=>rfl)) (qa1 _)) (@qf _ _ _ (qq0 qc)) qw) (@qf _ _ _ (qq0 (qs0 qf2 qc (pe_callTy call_intB rfl b_int bo_int (qa (qi qm (qi qp (pv 0) (pv 2) (fun _ _=>rfl)) qc (fun _ _=>rfl)) qd0)))))))),?_⟩
 rw [st__law_turn]
 walk_at "sv"
 refine ⟨l,p,us,ts,ns,rfl,hl,al,fun x hx=>(ok.five x hx).2,ok.few,hp,fun H1 s1=>?_⟩
 have z:=q H1 s1
 unfold qm1 at z
 walk_at "sv"
 rcases ixI_cases ns ts with ⟨ei,fn⟩ | ⟨i,x,ei,ex,hk,fx⟩
 ·rw [ei,show decide ((-1:Int)<0)=true from rfl]
  rw [fn] at z
  walk_at "sv"
  exact z
 rw [ei,decide_eq_false (show ¬ (i:Int)<0 by omega)]
 rw [fx] at z
 have z:Q (.int (if ns=x.back then 3 else if x.ans=true then 2 else 1)) H1:=z
 obtain ⟨v,ev,tx,px,qx,rfl,htx,hpx,hqx⟩:=All2.ix al ex
 have lb:=lab_back ok.keys (List.mem_of_getElem? ex)
 walk_at "sv"
 refine qe1 (SqL.of (s1 _ _ hl)) ev ?_
 walk_at "sv"
 refine ixT_go (i:=0) (SqT.of (s1 _ _ htx)) rfl ?_
 refine ⟨_,_,(hp.same s1).dt,(hpx.same s1).dt,qr0 _,qr0 _,?_⟩
 rw [if_pos rfl,qp1 (qx1 ns x.lab)]
 walk_at "sv"
 by_cases e1:ns=x.lab
 ·rw [decide_eq_true e1]
  rw [if_neg fun y=>lb (e1.symm.trans y)] at z
  walk_at "sv"
  refine qe1 (SqL.of (s1 _ _ hl)) ev ?_
  walk_at "sv"
  refine ixT_go (i:=2) (SqT.of (s1 _ _ htx)) rfl ?_
  walk_at "sv"
  refine IntB.go ?_
  walk_at "sv"
  cases ea:x.ans with
  | true =>
   rw [ea] at z
   exact z
  | false =>
   rw [ea] at z
   exact z
 ·rw [decide_eq_false e1]
  rw [if_pos ((key_or hk).resolve_left e1)] at z
  walk_at "sv"
  exact z
--CUT--
theorem gtup4 {K:PySem.W.Frag}{a:Addr}{x y z u:V}{i j k l:Nat}{σ:L2.St}{H:Hp}{R:L2.St→Hp→Prop}(h:SqT K H a [x,y,z,u])(q:R ((((σ.set i (some x)).set j (some y)).set k (some z)).set l (some u)) H) :
  gTup K 4 (gCons (gName i) (gCons (gName j) (gCons (gName k) (gCons (gName l) gNil)))) (.ref a) σ H R:=⟨a,_,rfl,h,rfl,_,_,rfl,_,_,rfl,_,_,rfl,_,_,rfl,rfl,q⟩
theorem sl_tupK {X:Cx}{K:PySem.W.Frag}(h:X.K=K):SlR X (rSlT K):=h▸sl_tup
theorem op_catAK {X:Cx}{K:PySem.W.Frag}(h:X.K=K):OpR X (binaryOp .Add) (rCatA K):=h▸op_catA
def doorsL (ns:List Int)(c:Chg):List (List Int):=(List.range (c.hi+1 - c.lo).toNat).map fun (i:Nat)=>chgL c.side ns c.ad (c.lo+(i:Int))
def someOf (ns:List Int):List Chg→List (List Int)
 | []=>[ns]
 | c::cs=>if inBox c.bs ns=true then doorsL ns c else someOf ns cs
theorem some_eq {ts:List Tk}{ns:List Int}(z:qm1 ts ns=0):∀ cs:List Chg,(someOf ns cs).find? (qt1 ts ns)=choiceOf ts ns cs
 | []=>by
  unfold choiceOf
  rw [if_neg fun h=>h z]
  show ([ns]:List (List Int)).find? _=if qt1 ts ns ns=true then some ns else none
  rw [List.find?_cons]
  cases qt1 ts ns ns <;> rfl
 | c::cs=>by
  have ih:=some_eq z cs
  unfold choiceOf at ih ⊢
  rw [if_neg fun h=>h z] at ih ⊢
  show (if inBox c.bs ns=true then doorsL ns c else someOf ns cs).find? _=_
  rw [List.find?_cons]
  by_cases h:inBox c.bs ns=true
  ·rw [if_pos h,h]
   rfl
  ·rw [if_neg h,ih,Bool.eq_false_iff.mpr h]
theorem some_len {ns:List Int}(n5:ns.length=5):∀ cs:List Chg,∀ ms∈someOf ns cs,ms.length=5
 | [],ms,h=>by
  obtain rfl:=List.mem_singleton.mp h
  exact n5
 | c::cs,ms,h=>by
  have h:ms∈if inBox c.bs ns=true then doorsL ns c else someOf ns cs:=h
  split at h
  ·obtain ⟨i,_,rfl⟩:=List.mem_map.mp h
   exact chg_len n5
  ·exact some_len n5 cs ms h
theorem find_at {α:Type}{p:α→Bool}:∀ {xs:List α} {i:Nat} {x:α},xs[i]?=some x→(∀ m∈xs.take i,p m=false)→p x=true→xs.find? p=some x
 | y::xs,0,x,e,_,h=>by
  obtain rfl:y=x:=Option.some.inj e
  rw [List.find?_cons,h]
 | y::xs,i+1,x,e,no,h=>by
  rw [List.find?_cons,no y List.mem_cons_self]
  exact find_at (i:=i) e (fun m hm=>no m (List.mem_cons_of_mem _ hm)) h
theorem drop_rev {α:Type}{xs:List α}{i:Nat}{x:α}(h:xs.reverse[i]?=some x):xs.drop (xs.length - (i+1))=x::xs.drop (xs.length - i)∧x∈xs:=by
 have l:i<xs.length:=by
  have:=(List.getElem?_eq_some_iff.mp h).1
  rwa [List.length_reverse] at this
 rw [List.getElem?_reverse l] at h
 obtain ⟨lt,e⟩:=List.getElem?_eq_some_iff.mp h
 refine ⟨?_,List.mem_of_getElem? h⟩
 rw [show xs.length - (i+1)=xs.length - 1 - i by omega,List.drop_eq_getElem_cons lt,e,show xs.length - 1 - i+1=xs.length - i by omega]
theorem all2_rev {α β:Type}{R:α→β→Prop}{xs:List α}{ys:List β}(h:All2 R xs ys):All2 R xs.reverse ys.reverse:=by
 induction h with
 | nil=>exact .nil
 | cons r _ ih =>
  rw [List.reverse_cons,List.reverse_cons]
  exact ih.snoc r
theorem PtV.same {H H':Hp}{v:V}{k:List Int}(h:PtV H v k)(s:Same H H'):PtV H' v k:=by
 obtain ⟨a,e,h⟩:=h
 exact ⟨a,e,h.same s⟩
def spChoice49:Sp:=fun vs H Q _=>∃ (lc l p:Addr) (xs us:List V) (cs:List Chg) (ts:List Tk) (ns:List Int),vs=[.ref lc,.ref l,.ref p]∧H lc=some (.lst xs)∧All2 (ChgAt H) xs cs∧H l=some (.lst us)∧All2 (R6 H) us ts∧TsOk ts∧IsPt H p ns∧ns.length=5∧qm1 ts ns=0∧(∀ c∈cs,c.hi<c.lo+100)∧∀ u H',Same H H'→LabV H' u (choiceOf ts ns cs)→Q u H'
theorem doors_all {H:Hp}{ns:List Int}{c:Chg}{ws:List V}(h:All2 (fun v u=>∃ d r,v=.int d∧u=.ref r∧H r=some (.tup ((chgL c.side ns c.ad d).map V.int))) (rngV c.lo (c.hi+1 - c.lo).toNat) ws):All2 (PtV H) ws (doorsL ns c):=by
 have l:=All2.len h
 rw [rngV_length] at l
 refine all2_ix (by rw [doorsL,List.length_map,List.length_range]; omega) fun i u x eu ex=>?_
 obtain ⟨v,ev,d,r,rfl,rfl,hr⟩:=All2.ix h eu
 have hi:i<(c.hi+1 - c.lo).toNat:=by
  have:=(List.getElem?_eq_some_iff.mp eu).1
  omega
 rw [rngV_get hi] at ev
 cases ev
 unfold doorsL at ex
 rw [List.getElem?_map,List.getElem?_range hi] at ex
 cases ex
 exact ⟨r,rfl,hr⟩
theorem ok_choice49 (F:Fun K "_law_choice" "_law_choice" s__law_choice f fd)(g__law_in:Fn P w K mg base "_law_in" 1 ["_law_box","_law_point"] spIn49)(g__law_at:Fn P w K mg base "_law_at" 2 ["_law_talks","_law_label_here"] spAtI)(g__law_flip:Fn P w K mg base "_law_flip" 1 ["_law_label_here"] spFlip)(b_range:mg "range"=none)(b_reversed:mg "reversed"=none):FnOk P w K mg base CX0 3 f fd ["_law_changes_here","_law_talks","_law_label_here"] spChoice49:=by
 refine F.ok sc__law_choice (fun vs H Q E h=>?_) (fun cdv A outer s H vs Q E hr h=>?_)
 ·obtain ⟨_,_,_,_,_,_,_,_,rfl,_⟩:=h
  rfl
 obtain ⟨lc,l,p,xs,us,cs,ts,ns,rfl,hlc,al,hl,rows,ok,hp,n5,tz,c100,q⟩:=h
 obtain ⟨k,sa,sn,r,fr,rfl⟩:=five n5
 have hp':H p=some (.tup [.int k,.int sa,.int sn,.int r,.int fr]):=hp
 have xl:=All2.len al
 refine ⟨_,(@qb _ _ _ _ _ (ql (i:=3) sc__law_choice.nd rfl (Or.inl rfl) (qi1 (qa (pv 2) qd0))) (@qb _ _ _ _ _ (@ps_for _ _ _ _ _ _ _ _ PassesOwn.never rfl (pi_rev rfl b_reversed (qa (pv 0) qd0)) (pg_tup rfl (qb1 (qn0 (i:=4) sc__law_choice.nd rfl (Or.inl rfl)) (qb1 (qn0 (i:=5) sc__law_choice.nd rfl (Or.inl rfl)) (qb1 (qn0 (i:=6) sc__law_choice.nd rfl (Or.inr rfl)) (qb1 (qn0 (i:=7) sc__law_choice.nd rfl (Or.inl rfl)) pgs_nil))))) (@qf _ _ _ (@qo1 _ _ _ _ _ _ _ _ (PW.pt (pw_and (pt_val (qj1 g__law_in hr (by decide) rfl (qa (pv 5) (qa (pv 2) qd0)))) (pw_and1 (qv op_eq (pv 4) qr1 (qa1 _))))) (@qf _ _ _ (ps_setComp (T:=["_law_door"]) (cap:=[6,2]) (i:=3) rfl (COk.of (out:=qg s__law_choice) (N:=["_law_changes_here","_law_talks","_law_label_here","_law_some","_law_side","_law_box","_law_address","_law_doors","_law_sent","_law_key"]) rfl rfl (by decide +kernel)) sc__law_choice.nd rfl (Or.inl rfl) (pi_range2 rfl b_range (qa (qi qm (pv 7) qc (fun _ _=>rfl)) (qa (qs0 qf2 (qi qm (pv 7) qc (fun _ _=>rfl)) qc) qd0))) (fun _ _ _=>(qn0 (i:=0) (show List.Nodup (["_law_door","_law_address","_law_label_here"]:List Str) by decide +kernel) rfl (Or.inl rfl))) (fun _ _ _=>pifs_nil) (fun _ _ _=>(qs0 (op_catAK (K:=K) rfl) (qo (qa (qi (ix_tupK (K:=K) rfl) (pv 2) qc (fun _ _=>rfl)) (qa (pv 1) (qa (pv 0) qd0)))) (pe_slice (sl_tupK (K:=K) rfl) (pv 2) (po_some qc) po_none))))) (@qf _ _ _ (@qo1 _ _ _ _ _ _ _ _ (pt_val (qj1 g__law_in hr (by decide) rfl (qa (pv 5) (qa (pv 2) qd0)))) (@qf _ _ _ (ps_setComp (T:=["_law_door"]) (cap:=[2,6]) (i:=3) rfl (COk.of (out:=qg s__law_choice) (N:=["_law_changes_here","_law_talks","_law_label_here","_law_some","_law_side","_law_box","_law_address","_law_doors","_law_sent","_law_key"]) rfl rfl (by decide +kernel)) sc__law_choice.nd rfl (Or.inl rfl) (pi_range2 rfl b_range (qa (qi qm (pv 7) qc (fun _ _=>rfl)) (qa (qs0 qf2 (qi qm (pv 7) qc (fun _ _=>rfl)) qc) qd0))) (fun _ _ _=>(qn0 (i:=0) (show List.Nodup (["_law_door","_law_label_here","_law_address"]:List Str) by decide +kernel) rfl (Or.inl rfl))) (fun _ _ _=>pifs_nil) (fun _ _ _=>(qs0 (op_catAK (K:=K) rfl) (pe_slice (sl_tupK (K:=K) rfl) (pv 1) po_none (po_some qc)) (qo (qa (pv 2) (qa (pv 0) qd0))))))) qw)))) (by intro _; rfl)) (@qb _ _ _ _ _ (@ps_for _ _ _ _ _ _ _ _ PassesOwn.never rfl (qd2 (pv 3)) (qn0 (i:=8) sc__law_choice.nd rfl (Or.inl rfl)) (@qb _ _ _ _ _ (ql (i:=9) sc__law_choice.nd rfl (Or.inl rfl) (qj1 g__law_flip hr (by decide) rfl (qa (pv 8) qd0))) (@qf _ _ _ (@qo1 _ _ _ _ _ _ _ _ (PW.pt (pw_and (qv (op_neD hr.units) (pv 9) (pv 2) (qa1 _)) (pw_and1 (qv op_lt (qj1 g__law_at hr (by decide) rfl (qa (pv 1) (qa (pv 9) qd0))) qc (qa1 _))))) (@qf _ _ _ (qq0 (pv 8))) qw))) (by intro _; rfl)) (@qf _ _ _ (qq0 pe_non))))),?_⟩
 rw [st__law_choice]
 refine qt fun N go=>?_
 walk_at "sv"
 refine lstN (by simp) fun so H1 nso s1 hso=>?_
 refine go _ _ ?_
 clear go
 refine qt fun N go=>?_
 walk_at "sv"
 refine RevR.go (SqL.of (s1 _ _ hlc)) ?_
 refine ForR.items itv (fun i σ H'=>Same H H'∧∃ (so:Addr) (vs:List V) (y1 y2 y3 y4 y5 y6:Option V),H' so=some (.lst vs)∧All2 (PtV H') vs (someOf [k,sa,sn,r,fr] (cs.drop (cs.length - i)))∧σ=[some (.ref lc),some (.ref l),some (.ref p),some (.ref so),y1,y2,y3,y4,y5,y6]) ⟨s1,so,_,_,_,_,_,_,_,hso,by rw [Nat.sub_zero,List.drop_length]; exact .cons ⟨p,rfl,hp.same s1⟩ .nil,rfl⟩ (fun i σ H' pv=>SqL.of (pv.1 _ _ hlc)) (fun i x σ H2 hx pv=>?_) (fun σ H2 pv=>?_)
 ·clear go
  obtain ⟨sm,so',vs,y1,y2,y3,y4,y5,y6,hso',alv,rfl⟩:=pv
  obtain ⟨c,ec,tc,pb,dd,rfl,htc,hb,b5,fb,hdd,lo0,lohi,hi1⟩:=(all2_rev al).at hx
  obtain ⟨dr,mc⟩:=drop_rev ec
  have c1:=c100 c mc
  refine gtup4 (SqT.of (sm _ _ htc)) ?_
  have fin:∀ (so2:Addr) (ws:List V) (H3:Hp),Same H2 H3→H3 so2=some (.lst ws)→All2 (PtV H3) ws (if inBox c.bs [k,sa,sn,r,fr]=true then doorsL [k,sa,sn,r,fr] c else someOf [k,sa,sn,r,fr] (cs.drop (cs.length - i)))→Same H H3∧∃ (so:Addr) (vs:List V) (y1' y2' y3' y4' y5' y6':Option V),H3 so=some (.lst vs)∧All2 (PtV H3) vs (someOf [k,sa,sn,r,fr] (cs.drop (cs.length - (i+1))))∧[some (.ref lc),some (.ref l),some (.ref p),some (.ref so2),some (.str c.side),some (.ref pb),some (.int c.ad),some (.ref dd),y5,y6]=[some (.ref lc),some (.ref l),some (.ref p),some (.ref so),y1',y2',y3',y4',y5',y6']:=fun so2 ws H3 s3 h2 aw=>by
   refine ⟨sm.trans s3,so2,ws,_,_,_,_,_,_,h2,?_,rfl⟩
   rw [dr]
   exact aw
  walk_at "sv"
  refine ⟨pb,p,c.bs,[k,sa,sn,r,fr],rfl,hb.same sm,by show 5≤8; decide,hp.same sm,fun H3 s3=>?_⟩
  have s03:=sm.trans s3
  cases ei:inBox c.bs [k,sa,sn,r,fr] with
  | true =>
   walk_at "sv"
   by_cases es:c.side="from"
   ·rw [decide_eq_true es]
    walk_at "sv"
    refine ixT_go (i:=0) (SqT.of (s03 _ _ hdd)) rfl ?_
    walk_at "sv"
    refine ixT_go (i:=1) (SqT.of (s03 _ _ hdd)) rfl ?_
    walk_at "sv"
    refine Rng2R.go ⟨by omega,by omega,by omega,by omega⟩ ?_
    refine CmpR.rel (fun D' H' v u=>∃ d r',v=.int d∧u=.ref r'∧r'≠D'∧H' r'=some (.tup ((chgL c.side [k,sa,sn,r,fr] c.ad d).map V.int))) (fun D' H' H'' x v kp z=>?_) itr (by rw [rngV_length]; omega) (fun _ _=>trivial) (fun D' v H' ys Q' hv nD' s5 hD' kk=>?_) fun D4 H4 ws4 nD4 s4 hD4 al4=>?_
    ·obtain ⟨d,r',e1,e2,n,h⟩:=z
     exact ⟨d,r',e1,e2,n,kp _ _ n h⟩
    ·obtain ⟨j,_,rfl⟩:=List.mem_map.mp hv
     have hp5:=s5 _ _ (s03 _ _ hp')
     walk_at "sv"
     refine ixT_go (i:=0) (SqT.of hp5) rfl ?_
     walk_at "sv"
     refine tupN (by simp) fun tu H6 n6 s6 h6=>?_
     refine PartR.go ?_
     refine slT_drop (k:=2) (s6 _ _ hp5) (by show 2<5; decide) fun tv n7=>?_
     have s7:=qh n7 (.tup ([.int k,.int sa,.int sn,.int r,.int fr].drop (2+1)))
     refine catA_go (s7 _ _ h6) qe (by show 3+2≤1000; decide) fun tw H8 s8 h8=>?_
     have s58:=(s6.trans s7).trans s8
     refine kk _ _ s58 ⟨_,tw,rfl,rfl,fun e=>?_,?_⟩
     ·rw [e,s58 _ _ hD'] at h8
      cases h8
     ·show H8 tw=some (.tup (List.map V.int (if c.side="from" then _ else _)))
      rw [if_pos es]
      exact h8
    ·walk_at "sv"
     have:=doors_all (ns:=[k,sa,sn,r,fr]) (c:=c) (All2.imp al4 fun v u z=>by
      obtain ⟨d,r',e1,e2,_,h⟩:=z
      exact ⟨d,r',e1,e2,h⟩)
     exact fin D4 ws4 H4 (s3.trans s4) hD4 (by rw [ei,if_pos rfl]; exact this)
   ·rw [decide_eq_false es]
    walk_at "sv"
    refine ⟨pb,p,c.bs,[k,sa,sn,r,fr],rfl,hb.same s03,by show 5≤8; decide,hp.same s03,fun H3b s3b=>?_⟩
    rw [ei]
    have s03b:=s03.trans s3b
    walk_at "sv"
    refine ixT_go (i:=0) (SqT.of (s03b _ _ hdd)) rfl ?_
    walk_at "sv"
    refine ixT_go (i:=1) (SqT.of (s03b _ _ hdd)) rfl ?_
    walk_at "sv"
    refine Rng2R.go ⟨by omega,by omega,by omega,by omega⟩ ?_
    refine CmpR.rel (fun D' H' v u=>∃ d r',v=.int d∧u=.ref r'∧r'≠D'∧H' r'=some (.tup ((chgL c.side [k,sa,sn,r,fr] c.ad d).map V.int))) (fun D' H' H'' x v kp z=>?_) itr (by rw [rngV_length]; omega) (fun _ _=>trivial) (fun D' v H' ys Q' hv nD' s5 hD' kk=>?_) fun D4 H4 ws4 nD4 s4 hD4 al4=>?_
    ·obtain ⟨d,r',e1,e2,n,h⟩:=z
     exact ⟨d,r',e1,e2,n,kp _ _ n h⟩
    ·obtain ⟨j,_,rfl⟩:=List.mem_map.mp hv
     have hp5:=s5 _ _ (s03b _ _ hp')
     walk_at "sv"
     refine PartR.go ?_
     refine slT_take (k:=3) hp5 (by show 3<5; decide) fun tv n7=>?_
     have s7:=qh n7 (.tup ([.int k,.int sa,.int sn,.int r,.int fr].take 3))
     have h7:upd H' tv (.tup ([.int k,.int sa,.int sn,.int r,.int fr].take 3)) tv=some (.tup [.int k,.int sa,.int sn]):=qe
     generalize upd H' tv (.tup ([.int k,.int sa,.int sn,.int r,.int fr].take 3))=H7 at *
     walk_at "sv"
     refine tupN (by simp) fun tu H6 n6 s6 h6=>?_
     refine catA_go (s6 _ _ h7) h6 (by show 3+2≤1000; decide) fun tw H8 s8 h8=>?_
     have s58:=(s7.trans s6).trans s8
     refine kk _ _ s58 ⟨_,tw,rfl,rfl,fun e=>?_,?_⟩
     ·rw [e,s58 _ _ hD'] at h8
      cases h8
     ·show H8 tw=some (.tup (List.map V.int (if c.side="from" then _ else _)))
      rw [if_neg es]
      exact h8
    ·walk_at "sv"
     have:=doors_all (ns:=[k,sa,sn,r,fr]) (c:=c) (All2.imp al4 fun v u z=>by
      obtain ⟨d,r',e1,e2,_,h⟩:=z
      exact ⟨d,r',e1,e2,h⟩)
     exact fin D4 ws4 H4 ((s3.trans s3b).trans s4) hD4 (by rw [ei,if_pos rfl]; exact this)
  | false =>
   walk_at "sv"
   refine ⟨pb,p,c.bs,[k,sa,sn,r,fr],rfl,hb.same s03,by show 5≤8; decide,hp.same s03,fun H4 s4=>?_⟩
   rw [ei]
   have s34:=s3.trans s4
   walk_at "sv"
   exact fin so' vs H4 s34 (s34 _ _ hso') (by rw [ei,if_neg Bool.false_ne_true]; exact All2.imp alv fun _ _ z=>PtV.same z s34)
 ·obtain ⟨sm,so',vs,y1,y2,y3,y4,y5,y6,hso',alv,rfl⟩:=pv
  rw [List.length_reverse,xl,Nat.sub_self,List.drop_zero] at alv
  refine go _ _ ?_
  clear go hso nso s1
  walk_at "sv"
  have nk:isKey ts [k,sa,sn,r,fr]=false:=by
   unfold isKey
   rw [turn_key.mp tz]
   rfl
  rw [← some_eq tz] at q
  refine IlR.go (SqL.of hso') ?_
  refine ForR.items itl (fun i σ H'=>Same H2 H'∧(∀ m∈(someOf [k,sa,sn,r,fr] cs).take i,qt1 ts [k,sa,sn,r,fr] m=false)∧∃ (z5 z6:Option V),σ=[some (.ref lc),some (.ref l),some (.ref p),some (.ref so'),y1,y2,y3,y4,z5,z6]) ⟨Same.refl _,(fun m hm=>by cases hm),_,_,rfl⟩ (fun i σ H' pv=>SqL.of (pv.1 _ _ hso')) (fun i x σ H3 hx pv=>?_) (fun σ H3 pv=>?_)
  ·obtain ⟨s3,no,z5,z6,rfl⟩:=pv
   obtain ⟨ms,em,pm,rfl,hpm⟩:=alv.at hx
   have m5:ms.length=5:=some_len (ns:=[k,sa,sn,r,fr]) rfl cs ms (List.mem_of_getElem? em)
   have s03:=sm.trans s3
   have fe:qt1 ts [k,sa,sn,r,fr] ms=(!decide ([k,sa,sn,r,fr]=flipL ms) && !isKey ts (flipL ms)):=by
    unfold qt1
    rw [nk,Bool.not_false,Bool.and_true]
   walk_at "sv"
   refine spFlip.go (hpm.same s3) m5 fun rk H4 nr s4 hr4=>?_
   have s04:=s03.trans s4
   walk_at "sv"
   refine ⟨_,_,hr4.dt,(hp.same s04).dt,qr0 _,qr0 _,?_⟩
   rw [if_pos rfl,qp1 (qx1 (flipL ms) [k,sa,sn,r,fr])]
   have nxt:∀ H5,Same H4 H5→qt1 ts [k,sa,sn,r,fr] ms=false→Same H2 H5∧(∀ m∈(someOf [k,sa,sn,r,fr] cs).take (i+1),qt1 ts [k,sa,sn,r,fr] m=false)∧∃ (z5 z6:Option V),[some (.ref lc),some (.ref l),some (.ref p),some (.ref so'),y1,y2,y3,y4,some (.ref pm),some (.ref rk)]=[some (.ref lc),some (.ref l),some (.ref p),some (.ref so'),y1,y2,y3,y4,z5,z6]:=fun H5 s5 e=>by
    refine ⟨(s3.trans s4).trans s5,fun m hm=>?_,_,_,rfl⟩
    rw [List.take_add_one,em] at hm
    rcases List.mem_append.mp hm with hm | hm
    ·exact no m hm
    ·obtain rfl:=List.mem_singleton.mp hm
     exact e
   by_cases e1:flipL ms=[k,sa,sn,r,fr]
   ·rw [decide_eq_true e1]
    walk_at "sv"
    exact nxt H4 (Same.refl _) (by rw [fe,decide_eq_true e1.symm]; rfl)
   rw [decide_eq_false e1]
   walk_at "sv"
   refine ⟨l,rk,us,ts,flipL ms,rfl,s04 _ _ hl,qv1 rows s04,fun x hx=>(ok.five x hx).2,ok.few,hr4,fun H5 s5=>?_⟩
   walk_at "sv"
   rw [ixI_neg]
   cases ek:isKey ts (flipL ms) with
   | true =>
    walk_at "sv"
    exact nxt H5 s5 (by rw [fe,ek,Bool.not_true,Bool.and_false])
   | false =>
    walk_at "sv"
    refine q (.ref pm) H5 (s04.trans s5) ?_
    rw [find_at em no (by rw [fe,ek,decide_eq_false fun z=>e1 z.symm]; rfl)]
    exact ⟨pm,rfl,(hpm.same s3).same (s4.trans s5)⟩
  ·obtain ⟨s3,no,z5,z6,rfl⟩:=pv
   walk_at "sv"
   refine q .non H3 (sm.trans s3) ?_
   rw [List.take_of_length_le (by rw [All2.len alv]; exact Nat.le_refl _)] at no
   rw [List.find?_eq_none.mpr fun x hx=>by rw [no x hx]; exact Bool.false_ne_true]
   rfl
--CUT--
theorem gtup6 {a:Addr}{x y z u v o:V}{i j k l m n:Nat}{σ:L2.St}{H:Hp}{R:L2.St→Hp→Prop}(h:SqT K H a [x,y,z,u,v,o])(q:R ((((((σ.set i (some x)).set j (some y)).set k (some z)).set l (some u)).set m (some v)).set n (some o)) H) :
  gTup K 6 (gCons (gName i) (gCons (gName j) (gCons (gName k) (gCons (gName l) (gCons (gName m) (gCons (gName n) gNil)))))) (.ref a) σ H R:=⟨a,_,rfl,h,rfl,_,_,rfl,_,_,rfl,_,_,rfl,_,_,rfl,_,_,rfl,_,_,rfl,rfl,q⟩
theorem go_lab {x:Tk}{B:Tb}{ns:List Int}{last:Bool}(lb:x.lab≠x.back)(e:ns=x.lab):(x.go B ns last).ans=x.ans∧decide (x.lab∈(x.go B ns last).fw)=(decide (x.lab∈x.fw) || last)∧decide (x.back∈(x.go B ns last).fw)=decide (x.back∈x.fw):=by
 subst e
 unfold Tk.go
 refine ⟨?_,?_,?_⟩
 ·show (x.ans || decide (x.lab=x.back))=x.ans
  rw [decide_eq_false lb,Bool.or_false]
 ·show decide (x.lab∈if last=true then addK x.fw x.lab else x.fw)=_
  cases last with
  | true=>rw [if_pos rfl,Bool.or_true,decide_eq_true (addK_mem.mpr (.inr rfl))]
  | false=>rw [if_neg Bool.false_ne_true,Bool.or_false]
 ·show decide (x.back∈if last=true then addK x.fw x.lab else x.fw)=_
  cases last with
  | true =>
   rw [if_pos rfl]
   exact decide_eq_decide.mpr (addK_mem.trans ⟨fun o=>o.resolve_right fun z=>lb z.symm,.inl⟩)
  | false=>rw [if_neg Bool.false_ne_true]
theorem go_back {x:Tk}{B:Tb}{ns:List Int}{last:Bool}(lb:x.lab≠x.back)(e:ns=x.back):(x.go B ns last).ans=true∧decide (x.lab∈(x.go B ns last).fw)=decide (x.lab∈x.fw)∧decide (x.back∈(x.go B ns last).fw)=(decide (x.back∈x.fw) || last):=by
 subst e
 unfold Tk.go
 refine ⟨?_,?_,?_⟩
 ·show (x.ans || decide (x.back=x.back))=true
  rw [decide_eq_true (p:=x.back=x.back) rfl,Bool.or_true]
 ·show decide (x.lab∈if last=true then addK x.fw x.back else x.fw)=_
  cases last with
  | true =>
   rw [if_pos rfl]
   exact decide_eq_decide.mpr (addK_mem.trans ⟨fun o=>o.resolve_right lb,.inl⟩)
  | false=>rw [if_neg Bool.false_ne_true]
 ·show decide (x.back∈if last=true then addK x.fw x.back else x.fw)=_
  cases last with
  | true=>rw [if_pos rfl,Bool.or_true,decide_eq_true (addK_mem.mpr (.inr rfl))]
  | false=>rw [if_neg Bool.false_ne_true,Bool.or_false]
theorem BrA.both {b c:Bool}{u:TT}{σ:L2.St}{H:Hp}{Q:Bool→Hp→Prop}(h:∀ Q':Bool→Hp→Prop,Q' c H→u σ H Q')(q:Q (b && c) H):BrA b u σ H Q:=by
 cases b with
 | true=>exact h Q q
 | false=>exact q
theorem spanAt (a:Bool)(B:Tb):∃ m:Nat,(if a=true then (1:Int) else 0)=(m:Int)∧[V.int B.short,V.int B.long,V.int B.most][m]?=some (.int (if a=true then B.long else B.short)):=by
 cases a
 ·exact ⟨0,rfl,rfl⟩
 ·exact ⟨1,rfl,rfl⟩
theorem go_ts {B:Tb}{ns:List Int}{last:Bool}{i:Nat}{x:Tk}(nd:(keysL B.ts).Nodup)(ex:B.ts[i]?=some x):(B.go ns last x).ts=B.ts.take i++(if (x.go B ns last).over=true then [] else [x.go B ns last])++B.ts.drop (i+1):=by
 have psp:=put_split (y:=x.go B ns last) nd ex rfl
 by_cases o:(x.go B ns last).over=true
 ·rw [if_pos o,List.append_nil]
  exact (if_pos o).trans psp.2
 ·rw [if_neg o]
  exact (if_neg o).trans psp.1
def spGoing49:Sp:=fun vs H Q _=>∃ (l p sp:Addr) (us:List V) (B:Tb) (ns:List Int) (last:Bool) (i:Nat) (x:Tk),vs=[.ref l,.int (i:Int),.ref p,.bl last,.int B.time,.ref sp]∧H l=some (.lst us)∧All2 (R6 H) us B.ts∧TsOk B.ts∧H sp=some (.tup [.int B.short,.int B.long,.int B.most])∧IsPt H p ns∧B.ts[i]?=some x∧qz0 ns x=true ∧
 ∀ t r l' us' H',H l'=none→Same H H'→H' t=some (.tup [.ref r,.ref l'])→AnsAt H' (.ref r) ⟨"pass",some (if ns=x.back then flipL x.lab else x.sent),B.go ns last x⟩→H' l'=some (.lst us')→All2 (R6 H') us' (B.go ns last x).ts→Q (.ref t) H'
theorem ok_going49 (F:Fun K "_law_going" "_law_going" s__law_going f fd)(g__law_flip:Fn P w K mg base "_law_flip" 1 ["_law_label_here"] spFlip)(b_int:mg "int"=none):FnOk P w K mg base CX0 2 f fd ["_law_talks","_law_at_here","_law_label_here","_law_last","_law_time","_law_spans"] spGoing49:=by
 refine F.ok sc__law_going (fun vs H Q E h=>?_) (fun cdv A outer s H vs Q E hr h=>?_)
 ·obtain ⟨_,_,_,_,_,_,_,_,_,rfl,_⟩:=h
  rfl
 obtain ⟨l,p,sp,us,B,ns,last,i,x,rfl,hl,rows,ok,hsp,hp,ex,hk,q⟩:=h
 obtain ⟨v,ev,tx,px,qx,rfl,htx,hpx,hqx⟩:=All2.ix rows ex
 have xm:=List.mem_of_getElem? ex
 have lb:=lab_back ok.keys xm
 have ul:=All2.len rows
 have few:=ok.few
 refine ⟨_,(@qb _ _ _ _ _ (ps_asg (qi qp (pv 0) (pv 1) (fun _ _=>rfl)) (pg_tup rfl (qb1 (qn0 (i:=6) sc__law_going.nd rfl (Or.inl rfl)) (qb1 (qn0 (i:=7) sc__law_going.nd rfl (Or.inl rfl)) (qb1 (qn0 (i:=8) sc__law_going.nd rfl (Or.inl rfl)) (qb1 (qn0 (i:=9) sc__law_going.nd rfl (Or.inl rfl)) (qb1 (qn0 (i:=10) sc__law_going.nd rfl (Or.inl rfl)) (qb1 (qn0 (i:=11) sc__law_going.nd rfl (Or.inl rfl)) pgs_nil)))))))) (@qb _ _ _ _ _ (ql (i:=12) sc__law_going.nd rfl (Or.inl rfl) (pv 7)) (@qb _ _ _ _ _ (@qo1 _ _ _ _ _ _ _ _ (qv (op_eqD hr.units) (pv 2) (pv 6) (qa1 _)) (@qf _ _ _ (ql (i:=10) sc__law_going.nd rfl (Or.inl rfl) (pe_or (pv 10) (pe_one (pv 3))))) (@qb _ _ _ _ _ (ql (i:=12) sc__law_going.nd rfl (Or.inl rfl) (qj1 g__law_flip hr (by decide) rfl (qa (pv 6) qd0))) (@qb _ _ _ _ _ (ql (i:=8) sc__law_going.nd rfl (Or.inl rfl) pe_bl) (@qf _ _ _ (ql (i:=11) sc__law_going.nd rfl (Or.inl rfl) (pe_or (pv 11) (pe_one (pv 3)))))))) (@qb _ _ _ _ _ (ql (i:=13) sc__law_going.nd rfl (Or.inl rfl) (qi1 (qa (qo (qa (pv 6) (qa (pv 7) (qa (pv 8) (qa (qs0 qf2 (pv 4) (qi qm (pv 5) (pe_callTy call_intB rfl b_int bo_int (qa (pv 8) qd0)) (fun _ _=>rfl))) (qa (pv 10) (qa (pv 11) qd0))))))) qd0))) (@qb _ _ _ _ _ (@qo1 _ _ _ _ _ _ _ _ (PW.pt (pw_and (pt_val (pv 10)) (pw_and1 (pt_val (pv 11))))) (@qf _ _ _ (ql (i:=13) sc__law_going.nd rfl (Or.inl rfl) (qi1 qd0))) qw) (@qf _ _ _ (qq0 (qo (qa (qo (qa qr1 (qa (pv 12) qd0))) (qa (qs0 op_catQ (qs0 op_catQ (pe_slice sl_list (pv 0) po_none (po_some (pv 1))) (pv 13)) (pe_slice sl_list (pv 0) (po_some (qs0 qf2 (pv 1) qc)) po_none)) qd0)))))))))),?_⟩
 rw [st__law_going]
 refine qt fun N go=>?_
 walk_at "sv"
 refine qe1 (SqL.of hl) ev ?_
 refine gtup6 (SqT.of htx) ?_
 refine go _ _ ?_
 clear go
 refine qt fun N go=>?_
 walk_at "sv"
 refine go _ _ ?_
 clear go
 refine qt fun N go=>?_
 suffices rest:∀ (an on bk:Bool) (ro:Addr) (H1:Hp),Same H H1→(x.go B ns last).ans=an→decide (x.lab∈(x.go B ns last).fw)=on→decide (x.back∈(x.go B ns last).fw)=bk→IsPt H1 ro (if ns=x.back then flipL x.lab else x.sent)→N [some (.ref l),some (.int (i:Int)),some (.ref p),some (.bl last),some (.int B.time),some (.ref sp),some (.ref px),some (.ref qx),some (.bl an),some (.int x.til),some (.bl on),some (.bl bk),some (.ref ro),none] H1 by
  clear go
  walk_at "sv"
  refine ⟨_,_,hp.dt,hpx.dt,qr0 _,qr0 _,?_⟩
  rw [if_neg Bool.false_ne_true,qp1 (qx1 ns x.lab)]
  walk_at "sv"
  refine BrS.dec (fun e1=>?_) fun e1=>?_
  ·obtain ⟨ga,gl,gb⟩:=go_lab (B:=B) (last:=last) lb e1
   walk_at "sv"
   refine BrOV.or (c:=last) (fun Q' q'=>by walk_at "sv"; exact q') ?_
   exact rest _ _ _ qx H (Same.refl _) ga gl gb (by rw [if_neg fun z=>lb (e1.symm.trans z)]; exact hqx)
  ·have e2:ns=x.back:=(key_or hk).resolve_left e1
   obtain ⟨ga,gl,gb⟩:=go_back (B:=B) (last:=last) lb e2
   walk_at "sv"
   refine spFlip.go hpx (ok.five x xm).1 fun rd H3 nrd s3 hd3=>?_
   walk_at "sv"
   refine BrOV.or (c:=last) (fun Q' q'=>by walk_at "sv"; exact q') ?_
   exact rest _ _ _ rd H3 s3 ga gl gb (by rw [if_pos e2]; exact hd3)
 intro an on bk ro H1 s1 ga gl gb hro
 have ov:(x.go B ns last).over=(on && bk):=by
  unfold Tk.over
  show (decide (x.lab∈(x.go B ns last).fw) && decide (x.back∈(x.go B ns last).fw))=_
  rw [gl,gb]
 refine go _ _ ?_
 clear go
 refine qt fun N go=>?_
 walk_at "sv"
 refine IntB.go ?_
 walk_at "sv"
 obtain ⟨m,em,evm⟩:=spanAt an B
 rw [em]
 refine ixT_go (SqT.of (s1 _ _ hsp)) evm ?_
 walk_at "sv"
 refine tupN (by simp) fun tt H2 ntt s2 htt=>?_
 refine lstN (by simp) fun lt H3 nlt s3 hlt=>?_
 refine go _ _ ?_
 clear go
 have s13:=(s1.trans s2).trans s3
 have row:R6 H3 (.ref tt) (x.go B ns last):=by
  refine ⟨tt,px,qx,rfl,?_,s13 _ _ hpx,s13 _ _ hqx⟩
  have e3:(x.go B ns last).til=B.time+(if (x.go B ns last).ans=true then B.long else B.short):=rfl
  show H3 tt=some (.tup [.ref px,.ref qx,.bl (x.go B ns last).ans,.int (x.go B ns last).til,.bl (decide (x.lab∈(x.go B ns last).fw)),.bl (decide (x.back∈(x.go B ns last).fw))])
  rw [gl,gb,e3,ga]
  exact s3 _ _ htt
 refine qt fun N go=>?_
 suffices rest:∀ (lk:Addr) (ws:List V) (H4:Hp),Same H3 H4→H4 lk=some (.lst ws)→All2 (R6 H4) ws (if (x.go B ns last).over=true then [] else [x.go B ns last])→N [some (.ref l),some (.int (i:Int)),some (.ref p),some (.bl last),some (.int B.time),some (.ref sp),some (.ref px),some (.ref qx),some (.bl an),some (.int x.til),some (.bl on),some (.bl bk),some (.ref ro),some (.ref lk)] H4 by
  clear go
  walk_at "sv"
  refine BrA.both (c:=bk) (fun Q' q'=>by walk_at "sv"; exact q') ?_
  rw [← ov]
  cases eo:(x.go B ns last).over with
  | true =>
   rw [eo] at rest
   walk_at "sv"
   refine lstN (by simp) fun lk H4 nlk s4 hlk=>?_
   exact rest lk [] H4 s4 hlk .nil
  | false =>
   rw [eo] at rest
   walk_at "sv"
   exact rest lt _ H3 (Same.refl _) hlt (.cons row .nil)
 intro lk ws H4 s4 hlk aw
 have s14:=s13.trans s4
 have hro4:=(hro.same (s2.trans s3)).same s4
 refine go _ _ ?_
 clear go
 walk_at "sv"
 refine tupN (by simp) fun ta H5 nta s5 hta=>?_
 have s15:=s14.trans s5
 refine PartR.go ?_
 refine slTakeA_go (SqL.of (s15 _ _ hl)) fun l6 nl6=>?_
 have z6:=qh nl6 (.lst (us.take i))
 have hl6:upd H5 l6 (.lst (us.take i)) l6=some (.lst (us.take i)):=qe
 generalize upd H5 l6 (.lst (us.take i))=H6 at *
 walk_at "sv"
 have wl:ws.length≤1:=by
  rw [All2.len aw]
  split
  ·exact Nat.zero_le _
  ·exact Nat.le_refl _
 refine catQ_go (SqL.of hl6) (SqL.of (z6 _ _ (s5 _ _ hlk))) (by rw [List.length_take]; omega) fun l7 nl7=>?_
 have z7:=qh nl7 (.lst (us.take i++ws))
 have hl7:upd H6 l7 (.lst (us.take i++ws)) l7=some (.lst (us.take i++ws)):=qe
 generalize upd H6 l7 (.lst (us.take i++ws))=H7 at *
 have s17:=s15.trans (z6.trans z7)
 walk_at "sv"
 rw [show (i:Int)+1=((i+1:Nat):Int) from rfl]
 refine PartR.go ?_
 refine slDropA_go (SqL.of (s17 _ _ hl)) fun l8 nl8=>?_
 have z8:=qh nl8 (.lst (us.drop (i+1)))
 have hl8:upd H7 l8 (.lst (us.drop (i+1))) l8=some (.lst (us.drop (i+1))):=qe
 generalize upd H7 l8 (.lst (us.drop (i+1)))=H8 at *
 refine catQ_go (SqL.of (z8 _ _ hl7)) (SqL.of hl8) (by rw [List.length_append,List.length_take,List.length_drop]; omega) fun l9 nl9=>?_
 have z9:=qh nl9 (.lst (us.take i++ws++us.drop (i+1)))
 have hl9:upd H8 l9 (.lst (us.take i++ws++us.drop (i+1))) l9=some (.lst (us.take i++ws++us.drop (i+1))):=qe
 generalize upd H8 l9 (.lst (us.take i++ws++us.drop (i+1)))=H9 at *
 refine tupN (by simp) fun t Ha nt sa ht=>?_
 have s5a:=(((z6.trans z7).trans z8).trans z9).trans sa
 have s1a:=s15.trans s5a
 refine q t ta l9 _ Ha ((s17.trans z8).free nl9) s1a ht ⟨ta,.ref ro,rfl,s5a _ _ hta,ro,rfl,(hro4.same s5).same s5a⟩ (sa _ _ hl9) ?_
 rw [go_ts ok.keys ex]
 have aa:=all2_take (qv1 rows s1a)
 exact ((aa i).1.app (qv1 aw (s5.trans s5a))).app (aa (i+1)).2
--CUT--
theorem go_new {B:Tb}{ns ms:List Int}{last:Bool}(nf:B.ts.find? (qz0 ns)=none)(nb:¬ ns=flipL ms):(B.begin ns ms).go ns last ⟨ns,ms,false,B.time+B.short,[]⟩={ B with ts:=B.ts++[⟨ns,ms,false,B.time+B.short,if last=true then [ns] else []⟩] }:=by
 have eg:Tk.go ⟨ns,ms,false,B.time+B.short,[]⟩ (B.begin ns ms) ns last=⟨ns,ms,false,B.time+B.short,if last=true then [ns] else []⟩:=by
  unfold Tk.go
  have e:decide (ns=Tk.back ⟨ns,ms,false,B.time+B.short,[]⟩)=false:=decide_eq_false nb
  simp only [e,Bool.or_false,Bool.false_eq_true,if_false]
  rfl
 have ov:Tk.over ⟨ns,ms,false,B.time+B.short,if last=true then [ns] else []⟩=false:=by
  unfold Tk.over
  rw [Bool.and_eq_false_iff]
  refine .inr (decide_eq_false fun h=>nb ?_)
  have h:flipL ms∈(if last=true then [ns] else []):=h
  split at h
  ·exact (List.mem_singleton.mp h).symm
  ·cases h
 unfold Tb.go
 rw [eg,ov,if_neg Bool.false_ne_true]
 unfold putT Tb.begin
 simp only
 rw [List.map_append,List.map_singleton,if_pos rfl]
 congr 2
 conv=>rhs; rw [← List.map_id B.ts]
 refine List.map_congr_left fun z hz=>?_
 rw [if_neg fun e=>?_]
 ·rfl
 ·have:=List.find?_eq_none.mp nf z hz
  unfold qz0 at this
  rw [decide_eq_true (p:=z.lab=ns) e,Bool.true_or] at this
  exact this rfl
theorem turn_pos {ts:List Tk}{ns:List Int}:decide (0<qm1 ts ns)=isKey ts ns:=by
 unfold qm1 isKey
 split
 ·rename_i e
  rw [e]
  rfl
 ·rename_i x e
  rw [e]
  refine decide_eq_true ?_
  split
  ·decide
  ·split <;> decide
def spDue49:Sp:=fun vs H Q _=>∃ (rl lc l sp pc p:Addr) (df:Str) (ts xs us:List V) (ru:List Ru) (bx:Addr→List (Int×Int)) (cs:List Chg) (B:Tb) (ns:List Int) (last:Bool),vs=[.ref rl,.str df,.ref lc,.ref l,.ref sp,.ref pc]∧H rl=some (.lst ts)∧All2 (RtX H bx) ts ru∧(∀ u∈ru,WdU u)∧H lc=some (.lst xs)∧All2 (ChgAt H) xs cs∧(∀ c∈cs,c.hi<c.lo+100)∧H l=some (.lst us)∧All2 (R6 H) us B.ts∧TsOk B.ts∧(B.ts.length:Int)≤B.most ∧
 H sp=some (.tup [.int B.short,.int B.long,.int B.most])∧H pc=some (.tup [.int B.time,.ref p,.bl last])∧IsPt H p ns∧ns.length=5 ∧
 ∀ t r l' us' H',(l'=l∨H l'=none)→Same H H'→H' t=some (.tup [.ref r,.ref l'])→AnsAt H' (.ref r) (takeT B cs ns last (dueW df (fun u=>inBox (bx u.2) (qm1 B.ts ns::ns)) ru))→H' l'=some (.lst us')→All2 (R6 H') us' (takeT B cs ns last (dueW df (fun u=>inBox (bx u.2) (qm1 B.ts ns::ns)) ru)).tab.ts→Q (.ref t) H'
theorem new_fw {ns ms:List Int}{last:Bool}(nb:¬ ns=flipL ms):decide (ns∈(if last=true then [ns] else []))=last∧decide (flipL ms∈(if last=true then [ns] else []))=false:=by
 cases last with
 | true=>exact ⟨decide_eq_true List.mem_cons_self,decide_eq_false fun h=>nb (List.mem_singleton.mp h).symm⟩
 | false=>exact ⟨rfl,rfl⟩
theorem ok_due49 (F:Fun K "_law_due" "_law_due" s__law_due f fd)(g__law_turn:Fn P w K mg base "_law_turn" 3 ["_law_talks","_law_label_here"] spTurn49)(g__law_in:Fn P w K mg base "_law_in" 1 ["_law_box","_law_point"] spIn49)(g__law_going:Fn P w K mg base "_law_going" 2 ["_law_talks","_law_at_here","_law_label_here","_law_last","_law_time","_law_spans"] spGoing49)(g__law_at:Fn P w K mg base "_law_at" 2 ["_law_talks","_law_label_here"] spAtI)(g__law_choice:Fn P w K mg base "_law_choice" 3 ["_law_changes_here","_law_talks","_law_label_here"] spChoice49)
  (b_reversed:mg "reversed"=none) (b_len:mg "len"=none):FnOk P w K mg base CX0 4 f fd ["_law_rules_here","_law_default","_law_changes_here","_law_talks","_law_spans","_law_parcel_here"] spDue49:=by
 refine F.ok sc__law_due (fun vs H Q E h=>?_) (fun cdv A outer s H vs Q E hr h=>?_)
 ·obtain ⟨_,_,_,_,_,_,_,_,_,_,_,_,_,_,_,_,rfl,_⟩:=h
  rfl
 obtain ⟨rl,lc,l,sp,pc,p,df,ts,xs,us,ru,bx,cs,B,ns,last,rfl,hrl,al,wd,hlc,alc,c100,hl,rows,ok,few,hsp,hpc,hp,n5,q⟩:=h
 have ul:=All2.len rows
 have f200:=ok.few
 refine ⟨_,(@qb _ _ _ _ _ (ps_asg (pv 5) (pg_tup rfl (qb1 (qn0 (i:=6) sc__law_due.nd rfl (Or.inl rfl)) (qb1 (qn0 (i:=7) sc__law_due.nd rfl (Or.inl rfl)) (qb1 (qn0 (i:=8) sc__law_due.nd rfl (Or.inl rfl)) pgs_nil))))) (@qb _ _ _ _ _ (ql (i:=9) sc__law_due.nd rfl (Or.inl rfl) (qj1 g__law_turn hr (by decide) rfl (qa (pv 3) (qa (pv 7) qd0)))) (@qb _ _ _ _ _ (@ps_for _ _ _ _ _ _ _ _ PassesOwn.never rfl (pi_rev rfl b_reversed (qa (pv 0) qd0)) (pg_tup rfl (qb1 (qn0 (i:=10) sc__law_due.nd rfl (Or.inl rfl)) (qb1 (qn0 (i:=11) sc__law_due.nd rfl (Or.inl rfl)) pgs_nil))) (@qf _ _ _ (@qo1 _ _ _ _ _ _ _ _ (pt_val (qj1 g__law_in hr (by decide) rfl (qa (pv 11) (qa (qs0 op_catA (qo (qa (pv 9) qd0)) (pv 7)) qd0)))) (@qf _ _ _ (ql (i:=1) sc__law_due.nd rfl (Or.inl rfl) (pv 10))) qw)) (by intro _; rfl)) (@qb _ _ _ _ _ (@qo1 _ _ _ _ _ _ _ _ (qv op_eq (pv 1) qr1 (qa1 _)) (@qf _ _ _ (qq0 (qo (qa (qo (qa qr1 (qa pe_non qd0))) (qa (pv 3) qd0))))) qw) (@qb _ _ _ _ _ (@qo1 _ _ _ _ _ _ _ _ (qv op_gt (pv 9) qc (qa1 _)) (@qf _ _ _ (qq0 (qj1 g__law_going hr (by decide) rfl (qa (pv 3) (qa (qj1 g__law_at hr (by decide) rfl (qa (pv 3) (qa (pv 7) qd0))) (qa (pv 7) (qa (pv 8) (qa (pv 6) (qa (pv 4) qd0))))))))) qw) (@qb _ _ _ _ _ (ql (i:=12) sc__law_due.nd rfl (Or.inl rfl) (qj1 g__law_choice hr (by decide) rfl (qa (pv 2) (qa (pv 3) (qa (pv 7) qd0))))) (@qb _ _ _ _ _ (@qo1 _ _ _ _ _ _ _ _ (PW.pt (pw_or (qv op_eq (qh1 call_lenR rfl b_len bo_len (qa (pv 3) qd0)) (qi qm (pv 4) qc (fun _ _=>rfl)) (qa1 _)) (pw_or1 (qv op_isN (pv 12) pe_non (qa1 _))))) (@qf _ _ _ (qq0 (qo (qa (qo (qa qr1 (qa pe_non qd0))) (qa (pv 3) qd0))))) qw) (@qf _ _ _ (qq0 (qo (qa (qo (qa qr1 (qa (pv 12) qd0))) (qa (qs0 op_catQ (pv 3) (qi1 (qa (qo (qa (pv 7) (qa (pv 12) (qa pe_bl (qa (qs0 qf2 (pv 6) (qi qm (pv 4) qc (fun _ _=>rfl))) (qa (pv 8) (qa pe_bl qd0))))))) qd0))) qd0)))))))))))),?_⟩
 rw [st__law_due]
 refine qt fun N go=>?_
 walk_at "sv"
 refine gtup3 (SqT.of hpc) ?_
 refine go _ _ ?_
 clear go
 refine qt fun N go=>?_
 walk_at "sv"
 refine ⟨l,p,us,B.ts,ns,rfl,hl,rows,ok,hp,fun H1 s1=>?_⟩
 walk_at "sv"
 refine go _ _ ?_
 clear go
 obtain ⟨fit,efit⟩:∃ g,g=fun u:Ru=>inBox (bx u.2) (qm1 B.ts ns::ns):=⟨_,rfl⟩
 rw [← efit] at q
 refine qt fun N go=>?_
 walk_at "sv"
 refine RevR.go (SqL.of (s1 _ _ hrl)) ?_
 refine ForR.items itv (fun i σ H'=>Same H H'∧∃ (y1 y2:Option V),σ=[some (.ref rl),some (.str (dueW df fit (ru.drop (ru.length - i)))),some (.ref lc),some (.ref l),some (.ref sp),some (.ref pc),some (.int B.time),some (.ref p),some (.bl last),some (.int (qm1 B.ts ns)),y1,y2,none]) ⟨s1,_,_,by rw [Nat.sub_zero,List.drop_length]; rfl⟩ (fun i σ H' pv=>SqL.of (pv.1 _ _ hrl)) (fun i x σ H2 hx pv=>?_) (fun σ H2 pv=>?_)
 ·clear go
  obtain ⟨sm,y1,y2,rfl⟩:=pv
  obtain ⟨u,eu,tr,rfl,htr,_,hb,b6,fb⟩:=(all2_rev al).at hx
  obtain ⟨dr,mu⟩:=drop_rev eu
  obtain ⟨z,ez⟩:=wd u mu
  have htr':H tr=some (.tup [.str z,.ref u.2]):=by
   rw [htr,ez]
   rfl
  refine gtup2 (SqT.of (sm _ _ htr')) ?_
  walk_at "sv"
  refine tupN (by simp) fun t1 H3 nt1 s3 ht1=>?_
  have s03:=sm.trans s3
  refine catA_go ht1 (s03 _ _ hp) (by rw [List.length_map,n5]; show 1+5≤1000; decide) fun t2 H4 s4 ht2=>?_
  have s04:=s03.trans s4
  refine ⟨u.2,t2,bx u.2,qm1 B.ts ns::ns,rfl,hb.same s04,by rw [List.length_cons,n5]; decide,ht2,fun H5 s5=>?_⟩
  have s05:=s04.trans s5
  walk_at "sv"
  have ef:fit u=inBox (bx u.2) (qm1 B.ts ns::ns):=by rw [efit]
  rw [dr,dueW,← ef]
  cases fit u with
  | true =>
   walk_at "sv"
   exact ⟨s05,_,_,by rw [ez]; rfl⟩
  | false =>
   walk_at "sv"
   exact ⟨s05,_,_,rfl⟩
 ·obtain ⟨sm,y1,y2,rfl⟩:=pv
  have tl:=All2.len al
  rw [List.length_reverse,tl,Nat.sub_self,List.drop_zero]
  refine go _ _ ?_
  clear go s1
  generalize dueW df fit ru=word at *
  refine qt fun N go=>?_
  walk_at "sv"
  refine BrS.dec (fun st=>?_) (fun st=>?_)
  ·have e:takeT B cs ns last word=⟨"stop",none,B⟩:=if_pos st
   rw [e] at q
   walk_at "sv"
   refine tupN (by simp) fun r H3 nr s3 hr3=>?_
   refine tupN (by simp) fun t H4 nt s4 ht=>?_
   have s24:=s3.trans s4
   exact q t r l us H4 (.inl rfl) (sm.trans s24) ht ⟨r,.non,rfl,s4 _ _ hr3,rfl⟩ (s24 _ _ (sm _ _ hl)) (qv1 rows (sm.trans s24))
  walk_at "sv"
  refine go _ _ ?_
  clear go
  refine qt fun N go=>?_
  walk_at "sv"
  rw [turn_pos]
  rcases ixI_cases ns B.ts with ⟨ei,fn⟩ | ⟨i,x,ei,ex,hk,fx⟩
  rotate_left
  ·have k:isKey B.ts ns=true:=by
    unfold isKey
    rw [fx]
    rfl
   have e:takeT B cs ns last word=⟨"pass",some (if ns=x.back then flipL x.lab else x.sent),B.go ns last x⟩:=by
    unfold takeT
    rw [if_neg st,fx]
   rw [e] at q
   rw [k]
   walk_at "sv"
   refine ⟨l,p,us,B.ts,ns,rfl,sm _ _ hl,qv1 rows sm,fun x hx=>(ok.five x hx).2,ok.few,hp.same sm,fun H3 s3=>?_⟩
   have s03:=sm.trans s3
   rw [ei]
   walk_at "sv"
   exact ⟨l,p,sp,us,B,ns,last,i,x,rfl,s03 _ _ hl,qv1 rows s03,ok,s03 _ _ hsp,hp.same s03,ex,hk,fun t r l' us' H4 nl' s4 ht an hl' rw'=>q t r l' us' H4 (.inr (s03.free nl')) (s03.trans s4) ht an hl' rw'⟩
  have k:isKey B.ts ns=false:=by
   unfold isKey
   rw [fn]
   rfl
  have e:takeT B cs ns last word=begT B cs ns last:=by
   unfold takeT
   rw [if_neg st,fn]
  rw [e] at q
  rw [k]
  walk_at "sv"
  refine go _ _ ?_
  clear go
  refine qt fun N go=>?_
  walk_at "sv"
  refine ⟨lc,l,p,xs,us,cs,B.ts,ns,rfl,sm _ _ hlc,All2.imp alc fun _ _ z=>z.same sm,sm _ _ hl,qv1 rows sm,ok,hp.same sm,n5,turn_key.mpr fn,c100,fun u H3 s3 lab=>?_⟩
  have s03:=sm.trans s3
  walk_at "sv"
  refine go _ _ ?_
  clear go
  have full:begT B cs ns last=⟨"full",none,B⟩→∀ t r H4,Same H3 H4→H4 t=some (.tup [.ref r,.ref l])→H4 r=some (.tup [.str "full",.non])→Q (.ref t) H4:=fun e t r H4 s4 ht hr4=>by
   rw [e] at q
   exact q t r l us H4 (.inl rfl) (s03.trans s4) ht ⟨r,.non,rfl,hr4,rfl⟩ (s4 _ _ (s03 _ _ hl)) (qv1 rows (s03.trans s4))
  walk_at "sv"
  refine LenR.lst (SqL.of (s03 _ _ hl)) ?_
  walk_at "sv"
  refine ixT_go (i:=2) (SqT.of (s03 _ _ hsp)) rfl ?_
  rw [ul]
  walk_at "sv"
  by_cases em:(B.ts.length:Int)=B.most
  ·rw [decide_eq_true em]
   walk_at "sv"
   refine tupN (by simp) fun r H4 nr s4 hr4=>?_
   refine tupN (by simp) fun t H5 nt s5 ht=>?_
   exact full (if_pos (by omega)) t r H5 (s4.trans s5) ht (s5 _ _ hr4)
  rw [decide_eq_false em]
  walk_at "sv"
  have nfu:¬ B.most≤(B.ts.length:Int):=by omega
  cases ec:choiceOf B.ts ns cs with
  | none =>
   rw [ec] at lab
   obtain rfl:u=.non:=lab
   walk_at "sv"
   refine tupN (by simp) fun r H4 nr s4 hr4=>?_
   refine tupN (by simp) fun t H5 nt s5 ht=>?_
   exact full (by unfold begT; rw [if_neg nfu,ec]) t r H5 (s4.trans s5) ht (s5 _ _ hr4)
  | some ms =>
   rw [ec] at lab
   obtain ⟨qd,rfl,hq⟩:=lab
   obtain ⟨frs,m5⟩:=choice_free n5 ec
   have nb:¬ ns=flipL ms:=by
    unfold qt1 at frs
    rw [Bool.and_eq_true,Bool.and_eq_true,Bool.not_eq_true',decide_eq_false_iff_not] at frs
    exact frs.1.1
   obtain ⟨nf1,nf2⟩:=new_fw (last:=last) nb
   have e:begT B cs ns last=⟨"pass",some ms,{ B with ts:=B.ts++[⟨ns,ms,false,B.time+B.short,if last=true then [ns] else []⟩] }⟩:=by
    unfold begT
    rw [if_neg nfu,ec]
    show Ans.mk _ _ _=_
    rw [go_new fn nb]
   rw [e] at q
   rw [show decide (V.ref qd=V.non)=false from decide_eq_false (by intro c; cases c)]
   walk_at "sv"
   refine tupN (by simp) fun r H4 nr s4 hr4=>?_
   have s04:=s03.trans s4
   refine ixT_go (i:=0) (SqT.of (s04 _ _ hsp)) rfl ?_
   walk_at "sv"
   refine tupN (by simp) fun tt H5 ntt s5 htt=>?_
   refine lstN (by simp) fun l6 H6 nl6 s6 hl6=>?_
   have s06:=(s04.trans s5).trans s6
   refine catQ_go (SqL.of (s06 _ _ hl)) (SqL.of hl6) (by rw [List.length_singleton]; omega) fun l7 nl7=>?_
   have z7:=qh nl7 (.lst (us++[.ref tt]))
   have hl7:upd H6 l7 (.lst (us++[.ref tt])) l7=some (.lst (us++[.ref tt])):=qe
   generalize upd H6 l7 (.lst (us++[.ref tt]))=H7 at *
   refine tupN (by simp) fun t H8 nt s8 ht=>?_
   have s58:=(s6.trans z7).trans s8
   have s48:=s5.trans s58
   have s08:=s04.trans s48
   refine q t r l7 _ H8 (.inr (s06.free nl7)) s08 ht ⟨r,.ref qd,rfl,s48 _ _ hr4,qd,rfl,(hq.same s4).same s48⟩ (s8 _ _ hl7) ?_
   refine (qv1 rows s08).snoc ⟨tt,p,qd,rfl,?_,hp.same s08,(hq.same s4).same s48⟩
   have htt:=s58 _ _ htt
   show H8 tt=some (.tup [.ref p,.ref qd,.bl false,.int (B.time+B.short),.bl (decide (ns∈(if last=true then [ns] else []))),.bl (decide (flipL ms∈(if last=true then [ns] else [])))])
   rw [nf1,nf2]
   exact htt
--CUT--
theorem r6s_nil {H:Hp}{Q:VK}{neg:Bool}{a b:Addr}{us:List V}{xs:List Tk}(ha:H a=some (.lst us))(hb:H b=some (.lst []))(la:All2 (R6 H) us xs)(q:Q (.bl (if neg=true then !decide (us=[]) else decide (us=[]))) H):rEqD neg (.ref a) (.ref b) H Q:=by
 let rD:Tk→PyData:=fun x=>.tuple [pointD x.lab,pointD x.sent,.bool x.ans,.int x.til,.bool (decide (x.lab∈x.fw)),.bool (decide (x.back∈x.fw))]
 have dts:Dts H us (xs.map rD):=by
  clear ha q
  induction la with
  | nil=>exact .nil
  | cons h _ ih =>
   obtain ⟨t,p,q,rfl,ht,hp,hq⟩:=h
   exact .cons (.tup (.inl ht) (.cons hp.dt (.cons hq.dt (.cons (.bl _) (.cons (.int _) (.cons (.bl _) (.cons (.bl _) .nil))))))) ih
 have pl:∀ ns:List Int,PyData.canLayAll0 (ns.map .int)=true:=qb2 PyData.int fun z=>by simp [PyData.canLay0]
 have pd:∀ ns:List Int,PyData.depthAll (ns.map .int)≤1:=qk1 PyData.int (n:=1) fun z=>by simp [PyData.depth]
 have l1:=qb2 rD (fun x=>by simp [rD,pointD,PyData.canLay0,PyData.canLayAll0,pl]) xs
 have l2:=qk1 rD (n:=10) (fun x=>by
  have d1:=pd x.lab
  have d2:=pd x.sent
  simp [rD,pointD,PyData.depth,PyData.depthAll]
  omega) xs
 refine ⟨_,.list [],.lst (.inl ha) dts,.lst (.inl hb) .nil,shaped_of (by simp [PyData.canLay0,l1]) (by simp only [PyData.depth]; omega),by decide,?_⟩
 have e:PyData.eqv (.list (xs.map rD)) (.list [])=decide (us=[]):=by
  cases la with
  | nil=>rfl
  | cons _ _=>simp [PyData.eqv,PyData.eqvAll]
 rw [e]
 exact q
def spParcel49:Sp:=fun vs H Q _=>∃ (l ld te:Addr) (us:List V) (B:Tb) (n:Nat) (d0 d1 d2 d3 d4:Int),vs=[.ref l,.int B.time,.ref ld,.ref te]∧H l=some (.lst us)∧All2 (R6 H) us B.ts∧Fi B n∧H ld=some (.lst [.int d0,.int d1,.int d2,.int d3,.int d4])∧EndsAt H te ∧
 ∀ pc p m lab last H',Same H H'→H' pc=some (.tup [.int m,.ref p,.bl last])→B.time≤m→m≤B.time+1000000007→IsPt H' p lab→LabT lab→Q (.ref pc) H'
theorem ok_parcel49 (F:Fun K "_law_parcel" "_law_parcel" s__law_parcel f fd)(g__law_label:Fn P w K mg base "_law_label" 1 ["_law_draw","_law_ends_here"] spLabel)(g__law_flip:Fn P w K mg base "_law_flip" 1 ["_law_label_here"] spFlip)(b_len:mg "len"=none)(b_max:mg "max"=none):FnOk P w K mg base CX0 2 f fd ["_law_talks","_law_time","_law_draws","_law_ends_here"] spParcel49:=by
 refine F.ok sc__law_parcel (fun vs H Q E h=>?_) (fun cdv A outer s H vs Q E hr h=>?_)
 ·obtain ⟨_,_,_,_,_,_,_,_,_,_,_,rfl,_⟩:=h
  rfl
 obtain ⟨l,ld,te,us,B,n,d0,d1,d2,d3,d4,rfl,hl,rows,fi,hd,en,q⟩:=h
 refine ⟨_,(@qb _ _ _ _ _ (ql (i:=4) sc__law_parcel.nd rfl (Or.inl rfl) (qj1 g__law_label hr (by decide) rfl (qa (qi qp (pv 2) qc (fun _ _=>rfl)) (qa (pv 3) qd0)))) (@qb _ _ _ _ _ (@qo1 _ _ _ _ _ _ _ _ (PW.pt (pw_and (qv op_eq (qs0 qf1 (qi qp (pv 2) qc (fun _ _=>rfl)) qc) qc (qa1 _)) (pw_and1 (qv (op_neD hr.units) (pv 0) (qi1 qd0) (qa1 _))))) (@qb _ _ _ _ _ (ql (i:=5) sc__law_parcel.nd rfl (Or.inl rfl) (qi qp (pv 0) (qs0 qf1 (qi qp (pv 2) qc (fun _ _=>rfl)) (qh1 call_lenR rfl b_len bo_len (qa (pv 0) qd0))) (fun _ _=>rfl))) (@qf _ _ _ (ql (i:=4) sc__law_parcel.nd rfl (Or.inl rfl) (qi qp (qi1 (qa (qi qm (pv 5) qc (fun _ _=>rfl)) (qa (qj1 g__law_flip hr (by decide) rfl (qa (qi qm (pv 5) qc (fun _ _=>rfl)) qd0)) qd0))) (qs0 qf1 (qs0 qy1 (qi qp (pv 2) qc (fun _ _=>rfl)) qc) qc) (fun _ _=>rfl))))) qw) (@qb _ _ _ _ _ (@qo1 _ _ _ _ _ _ _ _ (qv op_eq (qs0 qf1 (qi qp (pv 2) qc (fun _ _=>rfl)) qc) qc (qa1 _)) (@qf _ _ _ (ql (i:=1) sc__law_parcel.nd rfl (Or.inl rfl) (qs0 qf2 (pv 1) (qs0 qf1 (qs0 qy1 (qi qp (pv 2) qc (fun _ _=>rfl)) qc) qc)))) qw) (@qb _ _ _ _ _ (@qo1 _ _ _ _ _ _ _ _ (PW.pt (pw_and (qv op_eq (qs0 qf1 (qi qp (pv 2) qc (fun _ _=>rfl)) qc) qc (qa1 _)) (pw_and1 (qv (op_neD hr.units) (pv 0) (qi1 qd0) (qa1 _))))) (@qf _ _ _ (ql (i:=1) sc__law_parcel.nd rfl (Or.inl rfl) (qh1 (call_maxR rfl) rfl b_max bo_max (qa (pv 1) (qa (qs0 qf2 (qi qm (qi qp (pv 0) (qs0 qf1 (qi qp (pv 2) qc (fun _ _=>rfl)) (qh1 call_lenR rfl b_len bo_len (qa (pv 0) qd0))) (fun _ _=>rfl)) qc (fun _ _=>rfl)) (qs0 qf1 (qs0 qy1 (qi qp (pv 2) qc (fun _ _=>rfl)) qc) qc)) qd0))))) qw) (@qf _ _ _ (qq0 (qo (qa (pv 1) (qa (pv 4) (qa (pe_cmpR op_eq (qs0 qf1 (qi qp (pv 2) qc (fun _ _=>rfl)) qc) qc (qa1 _)) qd0)))))))))),?_⟩
 rw [st__law_parcel]
 have pick:∀ {H1:Hp} {Q':VK},Same H H1→us≠[]→(∀ tx px qx x,x∈B.ts→H1 tx=some (.tup [.ref px,.ref qx,.bl x.ans,.int x.til,.bl (decide (x.lab∈x.fw)),.bl (decide (x.back∈x.fw))])→IsPt H1 px x.lab→IsPt H1 qx x.sent→Q' (.ref tx) H1)→0<(us.length:Int)∧rIxL K (.ref l) (.int (d0 % (us.length:Int))) H1 Q':=fun {H1 Q'} s1 ne k=>by
  have wp:(0:Int)<(us.length:Int):=by
   have:=List.length_pos_iff.mpr ne
   omega
  refine ⟨wp,ixL_any (s1 _ _ hl) rfl (qz1 d0 wp) fun v hv=>?_⟩
  obtain ⟨j,ej⟩:=List.getElem?_of_mem hv
  obtain ⟨x,ex,tx,px,qx,rfl,htx,hpx,hqx⟩:=All2.at rows ej
  exact k tx px qx x (List.mem_of_getElem? ex) (s1 _ _ htx) (hpx.same s1) (hqx.same s1)
 refine qt fun N go=>?_
 walk_at "sv"
 refine qe1 (i:=0) (SqL.of hd) rfl ?_
 refine ⟨d0,te,rfl,en,fun p0 lab0 H1 s1 hp0 n5 lt0=>?_⟩
 walk_at "sv"
 refine go _ _ ?_
 clear go
 refine qt fun N go=>?_
 suffices rest:∀ (p:Addr) (lab:List Int) (H2:Hp) (yt:Option V),Same H H2→IsPt H2 p lab→LabT lab→N [some (.ref l),some (.int B.time),some (.ref ld),some (.ref te),some (.ref p),yt] H2 by
  clear go
  walk_at "sv"
  refine qe1 (i:=1) (SqL.of (s1 _ _ hd)) rfl ?_
  walk_at "sv"
  refine ⟨by decide,?_⟩
  walk_at "sv"
  by_cases c1:d1 % 2=1
  ·rw [decide_eq_true c1]
   walk_at "sv"
   refine lstN (by simp) fun le H2 nle s2 hle=>?_
   have s02:=s1.trans s2
   refine r6s_nil (neg:=true) (s02 _ _ hl) hle (qv1 rows s02) ?_
   walk_at "sv"
   by_cases e:us=[]
   ·rw [decide_eq_true e]
    walk_at "sv"
    exact rest p0 lab0 H2 _ s02 (hp0.same s2) lt0
   ·rw [decide_eq_false e]
    walk_at "sv"
    refine qe1 (i:=0) (SqL.of (s02 _ _ hd)) rfl ?_
    walk_at "sv"
    refine LenR.lst (SqL.of (s02 _ _ hl)) ?_
    walk_at "sv"
    refine pick s02 e fun tx px qx x mx htx hpx hqx=>?_
    obtain ⟨f1,f2⟩:=fi.ok.five x mx
    obtain ⟨g1,g2,_⟩:=fi.lab x mx
    walk_at "sv"
    refine ixT_go (i:=0) (SqT.of htx) rfl ?_
    refine ixT_go (i:=1) (SqT.of htx) rfl ?_
    refine spFlip.go hqx f2 fun r H5 nr s5 hr5=>?_
    walk_at "sv"
    refine lstN (by simp) fun l2 H6 nl2 s6 hl2=>?_
    have s46:=s5.trans s6
    refine qe1 (i:=1) (SqL.of (s46 _ _ (s02 _ _ hd))) rfl ?_
    walk_at "sv"
    refine ⟨⟨by decide,by decide⟩,by decide,?_⟩
    refine ixL_any (n:=2) hl2 rfl (qz1 (d1 / 2) (show (0:Int)<2 by decide)) fun v hv=>?_
    simp only [List.mem_cons,List.not_mem_nil,or_false] at hv
    rcases hv with rfl | rfl
    ·walk_at "sv"
     exact rest px x.lab H6 _ (s02.trans s46) (hpx.same s46) g1
    ·walk_at "sv"
     exact rest r (flipL x.sent) H6 _ (s02.trans s46) (hr5.same s6) g2.flip
  ·rw [decide_eq_false c1]
   walk_at "sv"
   exact rest p0 lab0 H1 _ s1 hp0 lt0
 clear hp0 n5 lt0 s1
 intro p lab H2 yt s2 hp lt
 have hd2:=s2 _ _ hd
 refine go _ _ ?_
 clear go
 refine qt fun N go=>?_
 suffices rest:∀ m:Int,B.time≤m→m≤B.time+9→N [some (.ref l),some (.int m),some (.ref ld),some (.ref te),some (.ref p),yt] H2 by
  clear go
  walk_at "sv"
  refine qe1 (i:=2) (SqL.of hd2) rfl ?_
  walk_at "sv"
  refine ⟨by decide,?_⟩
  walk_at "sv"
  refine BrS.dec (fun _=>?_) fun _=>?_
  ·walk_at "sv"
   refine qe1 (i:=2) (SqL.of hd2) rfl ?_
   walk_at "sv"
   refine ⟨⟨by decide,by decide⟩,by decide,?_⟩
   have m9:=qz1 (d2 / 4) (show (0:Int)<9 by decide)
   walk_at "sv"
   exact rest _ (by omega) (by omega)
  ·walk_at "sv"
   exact rest _ (Int.le_refl _) (by omega)
 intro m m1 m2
 refine go _ _ ?_
 clear go
 refine qt fun N go=>?_
 suffices rest:∀ (m':Int) (H3:Hp),Same H2 H3→B.time≤m'→m'≤B.time+1000000007→N [some (.ref l),some (.int m'),some (.ref ld),some (.ref te),some (.ref p),yt] H3 by
  clear go
  walk_at "sv"
  refine qe1 (i:=2) (SqL.of hd2) rfl ?_
  walk_at "sv"
  refine ⟨by decide,?_⟩
  walk_at "sv"
  by_cases c1:d2 % 8=3
  ·rw [decide_eq_true c1]
   walk_at "sv"
   refine lstN (by simp) fun le H3 nle s3 hle=>?_
   have s03:=s2.trans s3
   refine r6s_nil (neg:=true) (s03 _ _ hl) hle (qv1 rows s03) ?_
   walk_at "sv"
   by_cases e:us=[]
   ·rw [decide_eq_true e]
    walk_at "sv"
    exact rest m H3 s3 m1 (by omega)
   ·rw [decide_eq_false e]
    walk_at "sv"
    refine qe1 (i:=0) (SqL.of (s03 _ _ hd)) rfl ?_
    walk_at "sv"
    refine LenR.lst (SqL.of (s03 _ _ hl)) ?_
    walk_at "sv"
    refine pick s03 e fun tx px qx x mx htx hpx hqx=>?_
    walk_at "sv"
    refine ixT_go (i:=3) (SqT.of htx) rfl ?_
    walk_at "sv"
    refine qe1 (i:=2) (SqL.of (s03 _ _ hd)) rfl ?_
    walk_at "sv"
    refine ⟨⟨by decide,by decide⟩,by decide,?_⟩
    have m8:=qz1 (d2 / 8) (show (0:Int)<2 by decide)
    generalize d2 / 8 % 2=a8 at *
    obtain ⟨t1,t2⟩:=fi.til x mx
    walk_at "sv"
    exact rest _ H3 s3 (by omega) (by omega)
  ·rw [decide_eq_false c1]
   walk_at "sv"
   exact rest m H2 (Same.refl _) m1 (by omega)
 clear m1 m2
 intro m' H3 s3 m1 m2
 refine go _ _ ?_
 clear go
 walk_at "sv"
 refine qe1 (i:=3) (SqL.of (s3 _ _ hd2)) rfl ?_
 walk_at "sv"
 refine ⟨by decide,?_⟩
 walk_at "sv"
 refine tupN (by simp) fun pc H4 npc s4 hpc=>?_
 exact q pc p m' lab _ H4 ((s2.trans s3).trans s4) hpc m1 m2 ((hp.same s3).same s4) lt
--CUT--
theorem strs_inj {H:Hp}{vs:List V}{bs cs:List (Int×Int)}(h:Strs H vs bs)(k:Strs H vs cs):bs=cs:=by
 induction h generalizing cs with
 | nil =>
  cases k
  rfl
 | cons e _ ih =>
  cases k with
  | cons e' k =>
   rw [e] at e'
   cases e'
   rw [ih k]
theorem box_inj {H:Hp}{p:Addr}{bs cs:List (Int×Int)}(h:IsBox H p bs)(k:IsBox H p cs):bs=cs:=by
 obtain ⟨vs,e,h⟩:=h
 obtain ⟨us,e',k⟩:=k
 rw [e] at e'
 cases e'
 exact strs_inj h k
def wh6:List (Int×Int):=[(0,3),(0,255),(0,4294967295),(0,65535),(0,4294967295),(0,65535)]
theorem wh_in {t:Int}{lab:List Int}(h0:0≤t)(h1:t≤3)(h:LabT lab):inBox wh6 (t::lab)=true:=by
 obtain ⟨k,s,n,r,f,rfl,a,b,c,d,e⟩:=h
 have z:∀ lo hi x:Int,lo≤x→x≤hi→liesIn (lo,hi) x=true:=fun lo hi x h1 h2=>by
  unfold liesIn
  rw [decide_eq_true (show (lo,hi).1≤x from h1),decide_eq_true (show x≤(lo,hi).2 from h2)]
  rfl
 show (liesIn (0,3) t && (liesIn (0,255) k && (liesIn (0,4294967295) s && (liesIn (0,65535) n && (liesIn (0,4294967295) r && (liesIn (0,65535) f && true))))))=true
 rw [z 0 3 t h0 h1,z 0 255 k a.1 (by omega),z 0 4294967295 s b.1 (by omega),z 0 65535 n c.1 (by omega),z 0 4294967295 r d.1 (by omega),z 0 65535 f e.1 (by omega)]
 rfl
theorem turn_in (ts:List Tk)(ns:List Int):0≤qm1 ts ns∧qm1 ts ns≤3:=by
 unfold qm1
 split
 ·decide
 ·split
  ·decide
  ·split <;> decide
theorem due_back {df:Str}{fit:Ru→Bool}{wb:Addr}(h:fit (.back,wb)=true)(rest:List Ru):∀ us:List Ru,dueW df fit (us++(Rl.back,wb)::rest)=dueW df fit us
 | []=>by
  show (if fit (.back,wb)=true then _ else _)=_
  rw [if_pos h]
  rfl
 | u::us=>by
  show (if fit u=true then _ else dueW df fit (us++(Rl.back,wb)::rest))=_
  rw [due_back h rest us]
  rfl
theorem reads_inner {us:List Ru}{fit:Ru→Bool}{df:Str}{wb:Addr}(nc:∀ n p,(Rl.call n,p)∉us)(fw:fit (.call "inner",wb)=true){st:List Plc}{lk:List (Plc×Bool)}{w:Str}(h:Reads [(("main":Str),[(Rl.call "inner",wb)]),(("inner":Str),us)] fit df st lk w):(st=[]→w=df)∧(st=[(("main":Str),1)]→w=df)∧(∀ i,st=[(("inner":Str),i),(("main":Str),1)]→w=dueW df fit (us.drop i))∧(st=[(("main":Str),0)]→w=dueW df fit us):=by
 have dr:∀ {i u},us[i]?=some u→us.drop i=u::us.drop (i+1):=fun {i u} e=>by
  obtain ⟨lt,e⟩:=List.getElem?_eq_some_iff.mp e
  rw [List.drop_eq_getElem_cons lt,e]
 have nl:∀ {i:Nat},us[i]?=none→us.drop i=[]:=fun {i} e=>List.drop_of_length_le (List.getElem?_eq_none_iff.mp e)
 have ne:¬ ("main":Str)="inner":=by decide
 have nm:∀ c:Str×List Ru,c∈[(("main":Str),[(Rl.call "inner",wb)]),(("inner":Str),us)]→(c.1="main"→c.2=[(Rl.call "inner",wb)])∧(c.1="inner"→c.2=us):=fun c hc=>by
  simp only [List.mem_cons,List.not_mem_nil,or_false] at hc
  rcases hc with rfl | rfl
  ·exact ⟨fun _=>rfl,fun z=>absurd z ne⟩
  ·exact ⟨fun z=>absurd z.symm ne,fun _=>rfl⟩
 induction h with
 | done=>exact ⟨fun _=>rfl,(fun e=>by cases e),(fun i e=>by cases e),fun e=>by cases e⟩
 | over hc e r ih =>
  refine ⟨fun z=>(by cases z),fun z=>?_,fun j z=>?_,fun z=>?_⟩
  ·injection z with z1 z2
   exact ih.1 z2
  ·injection z with z1 z2
   injection z1 with z1 z3
   subst z3
   rw [(nm _ hc).2 z1] at e
   rw [nl e]
   exact ih.2.1 z2
  ·injection z with z1 z2
   injection z1 with z1 z3
   subst z3
   rw [(nm _ hc).1 z1] at e
   cases e
 | no hc e n r ih =>
  refine ⟨fun z=>(by cases z),fun z=>?_,fun j z=>?_,fun z=>?_⟩
  ·injection z with z1 z2
   injection z1 with z1 z3
   subst z3
   rw [(nm _ hc).1 z1] at e
   cases e
  ·injection z with z1 z2
   injection z1 with z1 z3
   subst z3
   rw [(nm _ hc).2 z1] at e
   rw [dr e,dueW,n,if_neg Bool.false_ne_true]
   exact ih.2.2.1 _ (by rw [z1,z2])
  ·injection z with z1 z2
   injection z1 with z1 z3
   subst z3
   rw [(nm _ hc).1 z1] at e
   cases e
   rw [fw] at n
   cases n
 | word hc e y =>
  refine ⟨fun z=>(by cases z),fun z=>?_,fun j z=>?_,fun z=>?_⟩
  ·injection z with z1 z2
   injection z1 with z1 z3
   subst z3
   rw [(nm _ hc).1 z1] at e
   cases e
  ·injection z with z1 z2
   injection z1 with z1 z3
   subst z3
   rw [(nm _ hc).2 z1] at e
   rw [dr e,dueW,y,if_pos rfl]
   rfl
  ·injection z with z1 z2
   injection z1 with z1 z3
   subst z3
   rw [(nm _ hc).1 z1] at e
   cases e
 | back hc e y r ih =>
  refine ⟨fun z=>(by cases z),fun z=>?_,fun j z=>?_,fun z=>?_⟩
  ·injection z with z1 z2
   injection z1 with z1 z3
   subst z3
   rw [(nm _ hc).1 z1] at e
   cases e
  ·injection z with z1 z2
   injection z1 with z1 z3
   subst z3
   rw [(nm _ hc).2 z1] at e
   rw [dr e,dueW,y,if_pos rfl]
   exact ih.2.1 z2
  ·injection z with z1 z2
   injection z1 with z1 z3
   subst z3
   rw [(nm _ hc).1 z1] at e
   cases e
 | call hc e y r ih =>
  refine ⟨fun z=>(by cases z),fun z=>?_,fun j z=>?_,fun z=>?_⟩
  ·injection z with z1 z2
   injection z1 with z1 z3
   subst z3
   rw [(nm _ hc).1 z1] at e
   cases e
  ·injection z with z1 z2
   injection z1 with z1 z3
   subst z3
   rw [(nm _ hc).2 z1] at e
   exact absurd (List.mem_of_getElem? e) (nc _ _)
  ·injection z with z1 z2
   injection z1 with z1 z3
   subst z3
   rw [(nm _ hc).1 z1] at e
   cases e
   have:=ih.2.2.1 0 (by rw [z1,z2])
   rw [List.drop_zero] at this
   exact this
section
variable {cRu cWo cBa cCa cBo:Addr}
def spBook49 (cWo cBa cCa cBo:Addr):Sp:=fun vs H Q _=>∃ (df:Str) (rl:Addr) (way:Int) (ts:List V) (us:List Ru),vs=[.str df,.ref rl,.int way]∧H rl=some (.lst ts)∧All2 (RtL H) ts us∧us.length≤2∧(∀ u∈us,WdU u) ∧
 ∀ b cs len rank bx H',Same H H'→IsBook cWo cBa cCa cBo H' b df cs len→BOk cs len rank→BoxesAt H' cs bx→All2 (RtX H' bx) ts us→(∀ t lab dn wd,0≤t→t≤3→LabT lab→Reads cs (fun u=>inBox (bx u.2) (t::lab)) df [("main",0)] dn wd→wd=dueW df (fun u=>inBox (bx u.2) (t::lab)) us)→Q (.ref b) H'
def len2 (n:Nat)(z:Str):Int:=if z="main" then 1+(n:Int) else (n:Int)
def rank2 (z:Str):Nat:=if z="main" then 1 else 0
theorem two_ok {us:List Ru}{wb:Addr}(nc:qg1 us=[])(l:us.length≤100)(uok:∀ u∈us,u.1.ok):BOk [(("main":Str),[(Rl.call "inner",wb)]),(("inner":Str),us)] (len2 us.length) rank2:=by
 have ne:¬ ("inner":Str)="main":=by decide
 have mm:∀ {p:Str×List Ru→Prop},p ("main",[(Rl.call "inner",wb)])→p ("inner",us)→∀ c∈[(("main":Str),[(Rl.call "inner",wb)]),(("inner":Str),us)],p c:=fun {p} h1 h2 c hc=>by
  simp only [List.mem_cons,List.not_mem_nil,or_false] at hc
  rcases hc with rfl | rfl
  ·exact h1
  ·exact h2
 have cm:qg1 [((Rl.call "inner",wb):Ru)]=[("inner":Str)]:=rfl
 refine ⟨⟨by
  show List.Nodup [("main":Str),"inner"]
  decide,?_,by simp,mm (show PyData.strOk "main"=true by decide +kernel) (show PyData.strOk "inner"=true by decide +kernel)⟩,⟨?_,?_⟩,List.mem_cons_self,?_,?_⟩
 ·exact mm (fun n hn=>by
   rw [cm] at hn
   obtain rfl:=List.mem_singleton.mp hn
   exact List.mem_cons_of_mem _ List.mem_cons_self) fun n hn=>by
   rw [nc] at hn
   cases hn
 ·refine mm ?_ ?_
  ·rw [cm]
   show len2 us.length "main"=1+(len2 us.length "inner"+0)
   unfold len2
   rw [if_pos rfl,if_neg ne]
   omega
  ·rw [nc]
   show len2 us.length "inner"=(us.length:Int)+0
   unfold len2
   rw [if_neg ne]
   omega
 ·exact mm (fun n hn=>by
   rw [cm] at hn
   obtain rfl:=List.mem_singleton.mp hn
   show rank2 "inner"<rank2 "main"
   unfold rank2
   rw [if_pos rfl,if_neg ne]
   decide) fun n hn=>by
   rw [nc] at hn
   cases hn
 ·unfold len2
  rw [if_pos rfl]
  omega
 ·refine mm ⟨by show 1≤1000; decide,fun u hu=>?_⟩ ⟨by show us.length≤1000; omega,uok⟩
  obtain rfl:=List.mem_singleton.mp hu
  exact ⟨by decide,by decide +kernel⟩
theorem rtL_ok {H:Hp}{ts:List V}{us:List Ru}(al:All2 (RtL H) ts us):∀ u∈us,u.1.ok:=fun u hu=>by
 obtain ⟨i,ei⟩:=List.getElem?_of_mem hu
 obtain ⟨v,_,t,bs,_,_,o,_⟩:=All2.ix al ei
 exact o
theorem rtX_bx {H:Hp}{bx:Addr→List (Int×Int)}{ts:List V}{us:List Ru}(al:All2 (RtX H bx) ts us):∀ u∈us,IsBox H u.2 (bx u.2)∧(bx u.2).length=6∧Fair (bx u.2):=fun u hu=>by
 obtain ⟨i,ei⟩:=List.getElem?_of_mem hu
 obtain ⟨v,_,t,_,_,_,h⟩:=All2.ix al ei
 exact h
theorem ok_book49 (F:Fun K "_law_book" "_law_book" s__law_book f fd)(gi_Book:FnI P w K mg base cBo 5 ["self","default","chains"] (spBook cWo cBa cCa cBo))(m_Book:mg "Book"=some (.ref cBo))(b_list:mg "list"=none):FnOk P w K mg base CX0 7 f fd ["_law_default","_law_rules_here","_law_way"] (spBook49 cWo cBa cCa cBo):=by
 refine F.ok sc__law_book (fun vs H Q E h=>?_) (fun cdv A outer s H vs Q E hr h=>?_)
 ·obtain ⟨_,_,_,_,_,rfl,_⟩:=h
  rfl
 obtain ⟨df,rl,way,ts,us,rfl,hrl,al,ul,wd,q⟩:=h
 have nc:∀ n p,(Rl.call n,p)∉us:=fun n p h=>by
  obtain ⟨z,e⟩:=wd _ h
  cases e
 have uok:=rtL_ok al
 have tl:=All2.len al
 refine ⟨_,(@qb _ _ _ _ _ (@ql _ _ (3) _ _ _ _ sc__law_book.nd rfl (Or.inl rfl) (@qo _ _ _ _ _ (@qa _ _ _ _ _ (@qo _ _ _ _ _ (@qa _ _ _ _ _ qc (@qa _ _ _ _ _ qc qd0 (by rfl)) (by rfl))) (@qa _ _ _ _ _ (@qo _ _ _ _ _ (@qa _ _ _ _ _ qc (@qa _ _ _ _ _ qc qd0 (by rfl)) (by rfl))) (@qa _ _ _ _ _ (@qo _ _ _ _ _ (@qa _ _ _ _ _ qc (@qa _ _ _ _ _ qc qd0 (by rfl)) (by rfl))) (@qa _ _ _ _ _ (@qo _ _ _ _ _ (@qa _ _ _ _ _ qc (@qa _ _ _ _ _ qc qd0 (by rfl)) (by rfl))) (@qa _ _ _ _ _ (@qo _ _ _ _ _ (@qa _ _ _ _ _ qc (@qa _ _ _ _ _ qc qd0 (by rfl)) (by rfl))) (@qa _ _ _ _ _ (@qo _ _ _ _ _ (@qa _ _ _ _ _ qc (@qa _ _ _ _ _ qc qd0 (by rfl)) (by rfl))) qd0 (by rfl)) (by rfl)) (by rfl)) (by rfl)) (by rfl)) (by rfl))) (by rfl) (by walk_at "o")) (@qb _ _ _ _ _ (@qo1 _ _ _ _ _ _ _ _ (@qv _ _ _ _ _ _ _ _ op_eq (pv 2) qc (qa1 _)) (@qf _ _ _ (@qq0 _ _ _ _ (@pe_new _ _ _ _ _ _ _ _ _ _ _ _ gi_Book hr (by decide) rfl m_Book (@qa _ _ _ _ _ (pv 0) (@qa _ _ _ _ _ (@qi1 _ _ _ _ (@qa _ _ _ _ _ (@qo _ _ _ _ _ (@qa _ _ _ _ _ qr1 (@qa _ _ _ _ _ (@pe_callTy _ _ _ _ _ _ _ _ _ call_listR rfl b_list bo_list (@qa _ _ _ _ _ (pv 1) qd0 (by rfl)) (by decide) (by decide) (by rfl) (by rfl)) qd0 (by rfl)) (by rfl))) qd0 (by rfl))) qd0 (by rfl)) (by rfl)) (by decide) (by rfl) (by rfl)))) qw) (@qb _ _ _ _ _ (@ql _ _ (4) _ _ _ _ sc__law_book.nd rfl (Or.inl rfl) (@pe_callTy _ _ _ _ _ _ _ _ _ call_listR rfl b_list bo_list (@qa _ _ _ _ _ (pv 1) qd0 (by rfl)) (by decide) (by decide) (by rfl) (by rfl)) (by rfl) (by walk_at "o")) (@qb _ _ _ _ _ (@qo1 _ _ _ _ _ _ _ _ (@qv _ _ _ _ _ _ _ _ op_eq (pv 2) qc (qa1 _)) (@qf _ _ _ (@ql _ _ (4) _ _ _ _ sc__law_book.nd rfl (Or.inl rfl) (@qs0 _ _ _ _ _ _ _ _ op_catQ (pv 4) (@qi1 _ _ _ _ (@qa _ _ _ _ _ (@qo _ _ _ _ _ (@qa _ _ _ _ _ qr1 (@qa _ _ _ _ _ (pv 3) qd0 (by rfl)) (by rfl))) (@qa _ _ _ _ _ (@qo _ _ _ _ _ (@qa _ _ _ _ _ qr1 (@qa _ _ _ _ _ (pv 3) qd0 (by rfl)) (by rfl))) qd0 (by rfl)) (by rfl)))) (by rfl) (by walk_at "o"))) qw) (@qf _ _ _ (@qq0 _ _ _ _ (@pe_new _ _ _ _ _ _ _ _ _ _ _ _ gi_Book hr (by decide) rfl m_Book (@qa _ _ _ _ _ (pv 0) (@qa _ _ _ _ _ (@qi1 _ _ _ _ (@qa _ _ _ _ _ (@qo _ _ _ _ _ (@qa _ _ _ _ _ qr1 (@qa _ _ _ _ _ (@qi1 _ _ _ _ (@qa _ _ _ _ _ (@qo _ _ _ _ _ (@qa _ _ _ _ _ qr1 (@qa _ _ _ _ _ (pv 3) (@qa _ _ _ _ _ qr1 qd0 (by rfl)) (by rfl)) (by rfl))) qd0 (by rfl))) qd0 (by rfl)) (by rfl))) (@qa _ _ _ _ _ (@qo _ _ _ _ _ (@qa _ _ _ _ _ qr1 (@qa _ _ _ _ _ (pv 4) qd0 (by rfl)) (by rfl))) qd0 (by rfl)) (by rfl))) qd0 (by rfl)) (by rfl)) (by decide) (by rfl) (by rfl)))))))),?_⟩
 rw [st__law_book]
 refine qt fun N go=>?_
 walk_at "sv"
 refine tupN (by simp) fun p0 H0 n0 s0 h0=>?_
 refine tupN (by simp) fun p1 H1 n1 s1 h1=>?_
 refine tupN (by simp) fun p2 H2 n2 s2 h2=>?_
 refine tupN (by simp) fun p3 H3 n3 s3 h3=>?_
 refine tupN (by simp) fun p4 H4 n4 s4 h4=>?_
 refine tupN (by simp) fun p5 H5 n5 s5 h5=>?_
 refine tupN (by simp) fun wb H6 n6 s6 h6=>?_
 have s06:=(((((s0.trans s1).trans s2).trans s3).trans s4).trans s5).trans s6
 have box:IsBox H6 wb wh6:=⟨_,h6,.cons (s6 _ _ (s5 _ _ (s4 _ _ (s3 _ _ (s2 _ _ (s1 _ _ h0)))))) (.cons (s6 _ _ (s5 _ _ (s4 _ _ (s3 _ _ (s2 _ _ h1))))) (.cons (s6 _ _ (s5 _ _ (s4 _ _ (s3 _ _ h2)))) (.cons (s6 _ _ (s5 _ _ (s4 _ _ h3))) (.cons (s6 _ _ (s5 _ _ h4)) (.cons (s6 _ _ h5) .nil)))))⟩
 have low:Low wh6:=fun b hb=>by
  unfold wh6 at hb
  simp only [List.mem_cons,List.not_mem_nil,or_false] at hb
  rcases hb with rfl | rfl | rfl | rfl | rfl | rfl <;> exact ⟨by decide,by decide,by decide⟩
 have hrl6:=s06 _ _ hrl
 have al6:All2 (RtL H6) ts us:=All2.imp al fun _ _ r=>r.mono fun _ _ e=>s06 _ _ e
 refine go _ _ ?_
 clear go h0 h1 h2 h3 h4 h5 h6
 refine qt fun N go=>?_
 walk_at "sv"
 refine BrS.dec (fun _=>?_) fun _=>?_
 ·walk_at "sv"
  have x6:All2 (RtX H6 (bxOf H6)) ts us:=All2.imp al6 fun _ _ r=>r.x
  refine book_main hrl6 (All2.imp x6 fun _ _ r=>r.at) (calls_no nc) (by omega) fun b H7 s7 bk=>?_
  refine q b _ _ (fun _=>0) (bxOf H6) H7 (s06.trans s7) bk ⟨nok_main (calls_no nc),lens_main (calls_no nc),by simp,by show (us.length:Int)≤120; omega,fun c hc=>by
   obtain rfl:=List.mem_singleton.mp hc
   exact ⟨by show us.length≤1000; omega,uok⟩⟩ (fun c hc u hu=>?_) (All2.imp x6 fun _ _ r=>r.same s7) fun t lab dn wd' t0 t3 lt rd=>?_
  ·obtain rfl:=List.mem_singleton.mp hc
   obtain ⟨a,b⟩:=rtX_bx x6 u hu
   exact ⟨a.same s7,b⟩
  ·have:=(reads_main nc rd).2 0 rfl
   rw [List.drop_zero] at this
   exact this
 walk_at "sv"
 refine go _ _ ?_
 clear go
 refine qt fun N go=>?_
 walk_at "sv"
 refine LstOf.lst (SqL.of hrl6) fun li nli=>?_
 have s7:=qh nli (.lst ts)
 have hli:upd H6 li (.lst ts) li=some (.lst ts):=qe
 generalize upd H6 li (.lst ts)=H7 at *
 walk_at "sv"
 refine go _ _ ?_
 clear go
 have al7:All2 (RtL H7) ts us:=All2.imp al6 fun _ _ r=>r.mono fun _ _ e=>s7 _ _ e
 have box7:=box.same s7
 refine qt fun N go=>?_
 suffices rest:∀ (lj:Addr) (ts':List V) (us':List Ru) (H8:Hp),Same H7 H8→H8 lj=some (.lst ts')→All2 (RtL H8) ts' us'→us'.length≤4→(∀ n p,(Rl.call n,p)∉us')→(∀ fit:Ru→Bool,fit (.back,wb)=true→dueW df fit us'=dueW df fit us)→(∀ u∈us,u∈us')→N [some (.str df),some (.ref rl),some (.int way),some (.ref wb),some (.ref lj)] H8 by
  clear go
  walk_at "sv"
  refine BrS.dec (fun _=>?_) fun _=>?_
  ·walk_at "sv"
   refine tupN (by simp) fun ta Ha na sa ha=>?_
   refine tupN (by simp) fun tb Hb nb sb hb=>?_
   refine lstN (by simp) fun lc Hc nc' sc hc=>?_
   have s7c:=(sa.trans sb).trans sc
   refine catQ_go (SqL.of (s7c _ _ hli)) (SqL.of hc) (by show ts.length+2≤_; omega) fun lj nlj=>?_
   have sd:=qh nlj (.lst (ts++[.ref ta,.ref tb]))
   have s7d:=s7c.trans sd
   have bd:=box7.same s7d
   refine rest lj _ (us++[(Rl.back,wb),(Rl.word "stop",wb)]) _ s7d qe (((All2.imp al7 fun _ _ r=>r.mono fun _ _ e=>s7d _ _ e).app (.cons ⟨ta,wh6,rfl,sd _ _ (sc _ _ (sb _ _ ha)),True.intro,bd,rfl,low⟩ (.cons ⟨tb,wh6,rfl,sd _ _ (sc _ _ hb),⟨by decide,by decide,by decide,by decide +kernel⟩,bd,rfl,low⟩ .nil)))) (by rw [List.length_append]; show us.length+2≤4; omega) (fun n p h=>?_) (fun fit h=>due_back h _ us) fun u hu=>List.mem_append_left _ hu
   rcases List.mem_append.mp h with h | h
   ·exact nc n p h
   ·simp at h
  ·walk_at "sv"
   exact rest li ts us H7 (Same.refl _) hli al7 (by omega) nc (fun _ _=>rfl) fun u hu=>hu
 intro lj ts' us' H8 s8 hlj al8 u4 nc' due sub
 have box8:=box7.same s8
 have hrl8:=s8 _ _ (s7 _ _ hrl6)
 have al0:All2 (RtL H8) ts us:=All2.imp al7 fun _ _ r=>r.mono fun _ _ e=>s8 _ _ e
 refine go _ _ ?_
 clear go
 walk_at "sv"
 refine tupN (by simp) fun tc Hc n1 sc hc=>?_
 refine lstN (by simp) fun lm Hd n2 sd hd=>?_
 refine tupN (by simp) fun tm He n3 se he=>?_
 refine tupN (by simp) fun ti Hf n4 sf hf=>?_
 refine lstN (by simp) fun lb Hg n5 sg hg=>?_
 have s8g:=(((sc.trans sd).trans se).trans sf).trans sg
 have bxg:=box8.same s8g
 have alg:All2 (RtL Hg) ts' us':=All2.imp al8 fun _ _ r=>r.mono fun _ _ e=>s8g _ _ e
 have xg:All2 (RtX Hg (bxOf Hg)) ts' us':=All2.imp alg fun _ _ r=>r.x
 have x0:All2 (RtX Hg (bxOf Hg)) ts us:=All2.imp al0 fun _ _ r=>RtL.x (r.mono fun _ _ e=>s8g _ _ e)
 have ew:bxOf Hg wb=wh6:=box_inj (bxOf_at bxg rfl (low.fair (by decide))).1 bxg
 have tl':=All2.len al8
 have ok2:=two_ok (wb:=wb) (calls_no nc') (by omega) (rtL_ok al8)
 intro b dx nb ndx nbd
 have si:=same_ins (o:=.own b) (o':=.ins cBo dx []) nb ndx nbd
 refine ⟨b,dx,lb,df,[.ref tm,.ref ti],[(("main":Str),[(Rl.call "inner",wb)]),(("inner":Str),us')],len2 us'.length,rank2,rfl,qe,si _ _ hg,.cons ⟨tm,lm,[.ref tc],rfl,si _ _ (sg _ _ (sf _ _ he)),si _ _ (sg _ _ (sf _ _ (se _ _ hd))),.cons ⟨tc,rfl,si _ _ (sg _ _ (sf _ _ (se _ _ (sd _ _ hc)))),by decide,by decide +kernel⟩ .nil,by show 1≤1000; decide⟩ (.cons ⟨ti,lj,ts',rfl,si _ _ (sg _ _ hf),si _ _ (s8g _ _ hlj),All2.imp xg fun _ _ r=>r.at.same si,by show us'.length≤1000; omega⟩ .nil),ok2.nok,ok2.lens,ok2.main,ok2.most,fun Hz kz bkz=>⟨rfl,?_⟩⟩
 have sz:Same Hg Hz:=fun x o e=>kz x o (qy0 e nb) (si _ _ e)
 have s0z:=(((s06.trans s7).trans s8).trans s8g).trans sz
 walk_at "sv"
 refine q b _ _ rank2 (bxOf Hg) Hz s0z (bkz.same fr_same) ok2 (fun c hc u hu=>?_) (All2.imp x0 fun _ _ r=>r.same sz) fun t lab dn wd' t0 t3 lt rd=>?_
 ·simp only [List.mem_cons,List.not_mem_nil,or_false] at hc
  rcases hc with rfl | rfl
  ·obtain rfl:=List.mem_singleton.mp hu
   obtain ⟨a,b⟩:=bxOf_at bxg rfl (low.fair (by decide))
   exact ⟨a.same sz,b⟩
  ·obtain ⟨a,b⟩:=rtX_bx xg u hu
   exact ⟨a.same sz,b⟩
 ·have fb:inBox (bxOf Hg wb) (t::lab)=true:=by
   rw [ew]
   exact wh_in t0 t3 lt
  have:=(reads_inner nc' fb rd).2.2.2 rfl
  rw [this]
  exact due _ fb
end
--CUT--
noncomputable def hv (H:Hp)(he:Addr):Hp:=sol H (fun a=>a=he)
section
variable {H H':Hp}{he:Addr}{o:HO}
theorem qg2:Same (hv H he) H:=sol_low
theorem qe2 (s:Same H H'):Same (hv H he) (hv H' he):=sol_same s
theorem hv_upd:Same (hv H he) (hv (upd H he o) he):=fun a u e=>by
 obtain ⟨n,e,so⟩:=sol_out e
 exact sol_of n ((qu0 n).trans e) so
theorem hv_lst {a:Addr}{xs:List V}(n:a≠he)(e:H a=some (.lst xs)):hv H he a=some (.lst xs):=sol_of n e (.inl True.intro)
theorem hv_tup {a:Addr}{xs hs:List V}(hh:H he=some (.lst hs))(e:H a=some (.tup xs)):hv H he a=some (.tup xs):=sol_of (fun z=>by
 rw [z,hh] at e
 cases e) e (.inr (.inl ⟨_,rfl⟩))
theorem call_hv {hs:List V}(hh:H he=some (.lst hs)):(∀ a,a=he→Mut (H a))∧Same (hv H he) (cutH H fun a=>a=he)∧∀ H2,(∀ b,hidB H (fun a=>a=he) b→H2 b=none)→glueH H (fun a=>a=he) H2 he=some (.lst hs)∧H2 he=none∧Same H2 (glueH H (fun a=>a=he) H2):=by
 have hm:∀ a,a=he→Mut (H a):=fun a z=>by
  rw [z,hh]
  exact True.intro
 refine ⟨hm,fun a o e=>?_,fun H2 fr=>⟨(glue_in (S:=fun a=>a=he) (.inl rfl)).trans hh,fr he (.inl rfl),fun a o e=>?_⟩⟩
 ·obtain ⟨n,e,so⟩:=sol_out e
  rw [cut_out]
  ·exact e
  ·rintro (z | ⟨c,_,e'⟩)
   ·exact n z
   ·rw [e] at e'
    cases e'
    rcases so with m | ⟨xs,z⟩ | ⟨ob,u,z⟩
    ·exact m
    ·cases z
    ·cases z
 ·rw [glue_out fun z=>by
   rw [fr a z] at e
   cases e]
  exact e
end
section
variable {cRu cWo cBa cCa cBo C_Talk C_Table C_Gate:Addr}{H H':Hp}{g he:Addr}{D:GD}{B:Tb}
theorem GtOk.same (h:GtOk cWo cBa cCa cBo C_Talk C_Table C_Gate H g D B)(s:Same H H'):GtOk cWo cBa cCa cBo C_Talk C_Table C_Gate H' g D B:=by
 obtain ⟨t,dx,l,kd,ads,b,ch,dg,vs,ga⟩:=h
 exact ⟨t,dx,l,kd,ads,b,ch,dg,vs,ga.same s⟩
theorem GtOk.hv (h:GtOk cWo cBa cCa cBo C_Talk C_Table C_Gate H g D B)(n:H he=none):GtOk cWo cBa cCa cBo C_Talk C_Table C_Gate (hv H he) g D B:=by
 obtain ⟨t,dx,l,kd,ads,b,ch,dg,vs,ga⟩:=h
 have key:∀ a o,Sol o→H a=some o→K49.hv H he a=some o:=fun a o so e=>sol_of (qy0 e n) e so
 have tp:∀ a xs,H a=some (.tup xs)→K49.hv H he a=some (.tup xs):=fun a xs e=>key _ _ (.inr (.inl ⟨_,rfl⟩)) e
 have ls:∀ a xs,H a=some (.lst xs)→K49.hv H he a=some (.lst xs):=fun a xs e=>key _ _ (.inl True.intro) e
 have so:∀ {W:Addr→Prop},Same (sol H W) (sol (K49.hv H he) W):=fun {W} a o e=>by
  obtain ⟨n,e,so⟩:=sol_out e
  exact sol_of n (key _ _ so e) so
 exact ⟨t,dx,l,kd,ads,b,ch,dg,vs,ga.tab.to (fun a o w e=>key _ _ (.inl (by
  have:=(ga.tab.own w).mut
  rwa [e] at this)) e) tp ls,so _ _ ga.gt,ga.bk.same so,ga.ok,bxs_to ga.bxs tp,ls _ _ ga.lst,All2.imp ga.chs fun _ _ r=>r.mono tp⟩
end
theorem choice_lab {ts:List Tk}{ns ms:List Int}{gs:List Chg}(lt:LabT ns)(hg:∀ c∈gs,ChgT c∧0≤c.lo∧c.hi<65536)(h:choiceOf ts ns gs=some ms):LabT ms:=by
 unfold choiceOf at h
 split at h
 ·cases h
 ·split at h
  ·rename_i c ec
   obtain ⟨i,hi,rfl⟩:=List.mem_map.mp (List.mem_of_find?_eq_some h)
   obtain ⟨ct,lo0,hi1⟩:=hg c (List.mem_of_find?_eq_some ec)
   have:=List.mem_range.mp hi
   exact lt.chg ct.ad ⟨by omega,by omega⟩
  ·split at h
   ·cases h
    exact lt
   ·cases h
theorem fi_takeG {B:Tb}{i:Nat}{ns:List Int}{m:Int}{last:Bool}{wd:Str}{gs:List Chg}(h:Fi B i)(m1:B.time≤m)(m2:m≤B.time+1000000007)(lt:LabT ns)(hg:∀ c∈gs,ChgT c∧0≤c.lo∧c.hi<65536):Fi (takeT (B.at m) gs ns last wd).tab (i+3)∧(takeT (B.at m) gs ns last wd).tab.short=B.short∧(takeT (B.at m) gs ns last wd).tab.long=B.long∧(takeT (B.at m) gs ns last wd).tab.most=B.most∧(takeT (B.at m) gs ns last wd).tab.time=m:=by
 have n5:=lt.len
 obtain ⟨f1,e1,e2,e3⟩:=h.next (.inr (.inr (.inr ⟨m,rfl,m1,m2⟩)))
 have stay:∀ B',B'=B.at m→Fi B' (i+3)∧B'.short=B.short∧B'.long=B.long∧B'.most=B.most∧B'.time=m:=fun B' e=>by
  subst e
  exact ⟨f1.up.up,e1,e2,e3,rfl⟩
 unfold takeT
 split
 ·exact stay _ rfl
 ·split
  ·rename_i x fx
   obtain ⟨f2,a,b,c⟩:=f1.next (.inr (.inr (.inl ⟨ns,last,x,rfl,fx⟩)))
   exact ⟨f2.up,a.trans e1,b.trans e2,c.trans e3,rfl⟩
  ·rename_i nf
   unfold begT
   split
   ·exact stay _ rfl
   ·rename_i nfu
    split
    ·exact stay _ rfl
    ·rename_i ms ec
     obtain ⟨fr,m5⟩:=choice_free n5 ec
     obtain ⟨f2,a,b,d⟩:=f1.next (.inr (.inl ⟨ns,ms,rfl,n5,m5,lt,choice_lab lt hg ec,nfu,fr⟩))
     have fx:((B.at m).begin ns ms).ts.find? (qz0 ns)=some ⟨ns,ms,false,(B.at m).time+(B.at m).short,[]⟩:=by
      show ((B.at m).ts++[_]).find? (qz0 ns)=_
      rw [List.find?_append,nf]
      show List.find? _ [_]=_
      rw [List.find?_cons]
      unfold qz0
      rw [decide_eq_true (p:=ns=ns) rfl]
      rfl
     obtain ⟨f3,a3,b3,d3⟩:=f2.next (.inr (.inr (.inl ⟨ns,last,_,rfl,fx⟩)))
     exact ⟨f3,(a3.trans a).trans e1,(b3.trans b).trans e2,(d3.trans d).trans e3,rfl⟩
def ansD (a:Ans):PyData:=.tuple [.str a.word,match a.sent with | none=>.none | some ms=>pointD ms]
theorem AnsAt.dt {H:Hp}{v:V}{a:Ans}(h:AnsAt H v a):Dt H v (ansD a):=by
 obtain ⟨r,u,rfl,hr,lab⟩:=h
 refine .tup (.inl hr) (.cons (.str _) (.cons ?_ .nil))
 cases e:a.sent with
 | none =>
  rw [e] at lab
  obtain rfl:u=.non:=lab
  exact .non
 | some ms =>
  rw [e] at lab
  obtain ⟨q,rfl,hq⟩:=lab
  exact hq.dt
theorem ans_shaped {a:Ans}(ok:PyData.strOk a.word=true):SeqAt.shaped (ansD a)=true:=by
 have pl:∀ ns:List Int,PyData.canLayAll0 (ns.map .int)=true:=qb2 PyData.int fun z=>by simp [PyData.canLay0]
 have pd:∀ ns:List Int,PyData.depthAll (ns.map .int)≤1:=qk1 PyData.int (n:=1) fun z=>by simp [PyData.depth]
 unfold ansD
 cases a.sent with
 | none=>exact shaped_of (by simp [PyData.canLay0,PyData.canLayAll0,ok]) (by simp [PyData.depth,PyData.depthAll])
 | some ms =>
  have:=pd ms
  exact shaped_of (by simp [PyData.canLay0,PyData.canLayAll0,ok,pointD,pl]) (by simp [PyData.depth,PyData.depthAll,pointD]; omega)
theorem ans_ne {H:Hp}{Q:VK}{v u:V}{a:Ans}(hv:AnsAt H v a)(hu:AnsAt H u a)(ok:PyData.strOk a.word=true)(q:Q (.bl false) H):rEqD true v u H Q:=by
 refine ⟨_,_,hv.dt,hu.dt,ans_shaped ok,ans_shaped ok,?_⟩
 have e:PyData.eqv (ansD a) (ansD a)=true:=by
  unfold ansD
  cases a.sent with
  | none=>simp [PyData.eqv,PyData.eqvAll]
  | some ms=>simp [PyData.eqv,PyData.eqvAll,(qx1 ms ms).mpr rfl]
 rw [e]
 exact q
theorem take_word {B:Tb}{gs:List Chg}{ns:List Int}{last:Bool}{wd:Str}:PyData.strOk (takeT B gs ns last wd).word=true:=by
 have w:PyData.strOk "stop"=true∧PyData.strOk "pass"=true∧PyData.strOk "full"=true:=by decide +kernel
 unfold takeT
 split
 ·exact w.1
 ·split
  ·exact w.2.1
  ·unfold begT
   split
   ·exact w.2.2
   ·split
    ·exact w.2.2
    ·exact w.2.1
theorem AnsAt.to {H H':Hp}{v:V}{a:Ans}(h:AnsAt H v a)(k:∀ a xs,H a=some (.tup xs)→H' a=some (.tup xs)):AnsAt H' v a:=by
 obtain ⟨r,u,e,hr,lab⟩:=h
 refine ⟨r,u,e,k _ _ hr,?_⟩
 cases e:a.sent with
 | none =>
  rw [e] at lab
  exact lab
 | some ms =>
  rw [e] at lab
  obtain ⟨q,e,hq⟩:=lab
  exact ⟨q,e,k _ _ hq⟩
def ruD (x:Str×List (Int×Int)):PyData:=.tuple [.str x.1,boxD x.2]
theorem ru_ex {H:Hp}{ts:List V}{us:List Ru}(h:All2 (RtL H) ts us)(wd:∀ u∈us,WdU u):∃ xs:List (Str×List (Int×Int)),Dts H ts (xs.map ruD)∧(∀ x∈xs,PyData.strOk x.1=true)∧xs.length=ts.length:=by
 induction h with
 | nil=>exact ⟨[],.nil,fun x h=>(by cases h),rfl⟩
 | cons h _ ih =>
  rename_i v u ts us _
  obtain ⟨xs,d,ok,l⟩:=ih fun u hu=>wd u (List.mem_cons_of_mem _ hu)
  obtain ⟨t,bs,rfl,ht,o,hb,_,_⟩:=h
  obtain ⟨z,ez⟩:=wd _ List.mem_cons_self
  rw [ez] at ht o
  refine ⟨(z,bs)::xs,.cons (.tup (.inl ht) (.cons (.str _) (.cons hb.dt .nil))) d,fun x hx=>?_,by rw [List.length_cons,List.length_cons,l]⟩
  rcases List.mem_cons.mp hx with rfl | hx
  ·exact o.2.2.2
  ·exact ok x hx
theorem ru_lay:∀ {xs:List (Str×List (Int×Int))},(∀ x∈xs,PyData.strOk x.1=true)→PyData.canLayAll0 (xs.map ruD)=true
 | [],_=>by simp [PyData.canLayAll0]
 | x::xs,h=>by
  rw [List.map_cons,PyData.canLayAll0.eq_2,ru_lay fun y hy=>h y (List.mem_cons_of_mem _ hy)]
  simp [ruD,PyData.canLay0,PyData.canLayAll0,h x List.mem_cons_self,boxD_lay]
theorem rus_nil {H:Hp}{Q:VK}{a b:Addr}{ts:List V}{us:List Ru}(ha:H a=some (.lst ts))(hb:H b=some (.lst []))(al:All2 (RtL H) ts us)(wd:∀ u∈us,WdU u)(q:Q (.bl (!decide (ts=[]))) H):rEqD true (.ref a) (.ref b) H Q:=by
 obtain ⟨xs,d,ok,l⟩:=ru_ex al wd
 have de:=qk1 ruD (n:=12) (fun x=>by
  have:=boxD_deep x.2
  simp only [ruD,PyData.depth,PyData.depthAll]
  omega) xs
 refine ⟨_,.list [],.lst (.inl ha) d,.lst (.inl hb) .nil,shaped_of (by simp [PyData.canLay0,ru_lay ok]) (by simp only [PyData.depth]; omega),by decide,?_⟩
 have e:PyData.eqv (.list (xs.map ruD)) (.list [])=decide (ts=[]):=by
  cases xs with
  | nil =>
   obtain rfl:=List.length_eq_zero_iff.mp l.symm
   rfl
  | cons x xs =>
   rw [decide_eq_false fun e=>by rw [e] at l; cases l]
   simp [PyData.eqv,PyData.eqvAll]
 rw [e,if_pos rfl]
 exact q
theorem all2_filter {α β:Type}{R:α→β→Prop}{p:α→Bool}{g:β→Bool}{xs:List α}{ys:List β}(h:All2 R xs ys)(e:∀ x y,R x y→p x=g y):All2 R (xs.filter p) (ys.filter g):=by
 induction h with
 | nil=>exact .nil
 | @cons x y xs ys r _ ih =>
  rw [List.filter_cons,List.filter_cons,e x y r]
  split
  ·exact .cons r ih
  ·exact ih
section
variable {cRu cWo cBa cCa cBo C_Talk C_Table C_Gate:Addr}
def tilV (H:Hp)(m:Int)(v:V):Bool:=match v with
 | .ref t=>match H t with
  | some (.tup [_,_,_,.int u,_,_])=>decide (m≤u)
  | _=>false
 | _=>false
theorem tilV_at {H:Hp}{m:Int}{v:V}{x:Tk}(h:R6 H v x):tilV H m v=Tk.stands m x:=by
 obtain ⟨t,p,q,rfl,ht,_⟩:=h
 unfold tilV
 show (match H t with
  | some (.tup [_,_,_,.int u,_,_])=>decide (m≤u)
  | _=>false)=_
 rw [ht]
 rfl
theorem RtX.to {H H':Hp}{bx:Addr→List (Int×Int)}{v:V}{u:Ru}(h:RtX H bx v u)(k:∀ a xs,H a=some (.tup xs)→H' a=some (.tup xs)):RtX H' bx v u:=by
 obtain ⟨t,e,h1,h2,h3,h4⟩:=h
 exact ⟨t,e,k _ _ h1,h2,h3.mono k,h4⟩
theorem RwAt.to {H H':Hp}{v:V}{x:Tk}(h:RwAt H v x)(k:∀ a xs,H a=some (.tup xs)→H' a=some (.tup xs)):RwAt H' v x:=by
 obtain ⟨t,p,q,e,ht,hp,hq⟩:=h
 exact ⟨t,p,q,e,k _ _ ht,k _ _ hp,k _ _ hq⟩
def HeldAt (C:Hp)(v:V):Prop:=∃ (tt D E:Addr) (us vs:List V) (ts:List Tk),v=.ref tt∧C tt=some (.tup [.ref D,.ref E])∧C D=some (.lst us)∧C E=some (.lst vs)∧All2 (RwAt C) us ts∧All2 (RwAt C) vs ts
theorem HeldAt.to {H H':Hp}{v:V}(h:HeldAt H v)(tp:∀ a xs,H a=some (.tup xs)→H' a=some (.tup xs))(ls:∀ a xs,H a=some (.lst xs)→H' a=some (.lst xs)):HeldAt H' v:=by
 obtain ⟨tt,D,E,us,vs,ts,e,h1,h2,h3,h4,h5⟩:=h
 exact ⟨tt,D,E,us,vs,ts,e,tp _ _ h1,ls _ _ h2,ls _ _ h3,All2.imp h4 fun _ _ r=>r.to tp,All2.imp h5 fun _ _ r=>r.to tp⟩
structure LS49 (te rl lc tsp sc:Addr)(cells:List Int)(ts xs:List V)(ru:List Ru)(sh lo mo:Int)(D:GD)(C:Hp):Prop where
 sc:C sc=some (.lst (cells.map V.int))
 te:EndsAt C te
 rl:C rl=some (.lst ts)
 al:All2 (RtX C D.bx) ts ru
 lc:C lc=some (.lst xs)
 alc:All2 (ChgAt C) xs D.gs
 sp:C tsp=some (.tup [.int sh,.int lo,.int mo])
theorem LS49.to {te rl lc tsp sc:Addr}{cells:List Int}{ts xs:List V}{ru:List Ru}{sh lo mo:Int}{D:GD}{C C':Hp}(h:LS49 te rl lc tsp sc cells ts xs ru sh lo mo D C)(tp:∀ a xs,C a=some (.tup xs)→C' a=some (.tup xs))(ls:∀ a xs,C a=some (.lst xs)→C' a=some (.lst xs)):LS49 te rl lc tsp sc cells ts xs ru sh lo mo D C' :=
 ⟨ls _ _ h.sc,h.te.to tp ls,ls _ _ h.rl,All2.imp h.al fun _ _ r=>r.to tp,ls _ _ h.lc,All2.imp h.alc fun _ _ r=>r.mono tp,tp _ _ h.sp⟩
theorem LS49.same {te rl lc tsp sc:Addr}{cells:List Int}{ts xs:List V}{ru:List Ru}{sh lo mo:Int}{D:GD}{C C':Hp}(h:LS49 te rl lc tsp sc cells ts xs ru sh lo mo D C)(s:Same C C'):LS49 te rl lc tsp sc cells ts xs ru sh lo mo D C':=h.to (fun _ _ e=>s _ _ e) fun _ _ e=>s _ _ e
structure LV49 (cWo cBa cCa cBo C_Talk C_Table C_Gate g l:Addr)(us hs:List V)(sh lo mo:Int)(D:GD)(C:Hp)(B:Tb)(n:Nat):Prop where
 gt:GtOk cWo cBa cCa cBo C_Talk C_Table C_Gate C g D B
 fi:Fi B n
 sps:B.short=sh∧B.long=lo∧B.most=mo
 lst:C l=some (.lst us)
 rows:All2 (R6 C) us B.ts
 held:∀ v∈hs,HeldAt C v
theorem LV49.same {g l:Addr}{us hs:List V}{sh lo mo:Int}{D:GD}{C C':Hp}{B:Tb}{n:Nat}(h:LV49 cWo cBa cCa cBo C_Talk C_Table C_Gate g l us hs sh lo mo D C B n)(s:Same C C'):LV49 cWo cBa cCa cBo C_Talk C_Table C_Gate g l us hs sh lo mo D C' B n :=
 ⟨h.gt.same s,h.fi,h.sps,s _ _ h.lst,qv1 h.rows s,fun v hv=>(h.held v hv).to (fun _ _ e=>s _ _ e) fun _ _ e=>s _ _ e⟩
theorem held_ps {C:Hp}:∀ {hs:List V},(∀ v∈hs,HeldAt C v)→∃ ps:List (V×V),All2 (fun x (p:V×V)=>∃ t,x=.ref t∧C t=some (.tup [p.1,p.2])) hs ps∧∀ p∈ps,∃ (D E:Addr) (us vs:List V) (ts:List Tk),p=(.ref D,.ref E)∧C D=some (.lst us)∧C E=some (.lst vs)∧All2 (RwAt C) us ts∧All2 (RwAt C) vs ts
 | [],_=>⟨[],.nil,fun p h=>by cases h⟩
 | v::hs,h=>by
  obtain ⟨ps,a,b⟩:=held_ps fun v hv=>h v (List.mem_cons_of_mem _ hv)
  obtain ⟨tt,D,E,us,vs,ts,e,h1,h2⟩:=h v List.mem_cons_self
  refine ⟨(.ref D,.ref E)::ps,.cons ⟨tt,e,h1⟩ a,fun p hp=>?_⟩
  rcases List.mem_cons.mp hp with rfl | hp
  ·exact ⟨D,E,us,vs,ts,rfl,h2⟩
  ·exact b p hp
end
--CUT--
section
variable {cRu cWo cBa cCa cBo C_Talk C_Table C_Gate:Addr}
theorem clear_go {H:Hp}{Q:VK}{l:Addr}{xs:List V}(h:H l=some (.lst xs))(q:Q .non (upd H l (.lst []))):tyV K "list" (.ref l) H∧rClear (.ref l) [] H Q:=⟨ty_lst h,l,xs,rfl,rfl,h,q⟩
theorem ok_law (F:Fun K "law" "law" s_law f fd)(g__law_cell_at:Fn P w K mg base "_law_cell_at" 1 ["_law_script","_law_k"] (spCell K))(g__law_stream:Fn P w K mg base "_law_stream" 1 ["_law_cell","_law_many"] spStream)(g__law_ends:Fn P w K mg base "_law_ends" 2 ["_law_cell"] spEnds)(g__law_label:Fn P w K mg base "_law_label" 1 ["_law_draw","_law_ends_here"] spLabel)(g__law_rules:Fn P w K mg base "_law_rules" 2 ["_law_cell","_law_ends_here"] spRules49)(g__law_changes:Fn P w K mg base "_law_changes" 2 ["_law_cell","_law_ends_here"] spChgs49)(g__law_turn:Fn P w K mg base "_law_turn" 3 ["_law_talks","_law_label_here"] spTurn49)
  (g__law_due:Fn P w K mg base "_law_due" 4 ["_law_rules_here","_law_default","_law_changes_here","_law_talks","_law_spans","_law_parcel_here"] spDue49) (g__law_parcel:Fn P w K mg base "_law_parcel" 2 ["_law_talks","_law_time","_law_draws","_law_ends_here"] spParcel49) (g__law_book:Fn P w K mg base "_law_book" 7 ["_law_default","_law_rules_here","_law_way"] (spBook49 cWo cBa cCa cBo)) (gi_Gate:FnI P w K mg base C_Gate 8 ["self","book","changes","short","long","most"] (spGateI cWo cBa cCa cBo C_Talk C_Table C_Gate)) (gm_Gate_take:FnM P w K mg base C_Gate "take" 7 ["self","moment","label","last"] (frm (spTake cWo cBa cCa cBo C_Talk C_Table C_Gate)))
  (gm_Gate_turn:FnM P w K mg base C_Gate "turn" 2 ["self","label"] (spGTurn cWo cBa cCa cBo C_Talk C_Table C_Gate)) (gm_Gate_standing:FnM P w K mg base C_Gate "standing" 2 ["self"] (spGStand cWo cBa cCa cBo C_Talk C_Table C_Gate)) (m_Gate:mg "Gate"=some (.ref C_Gate)) (b_int:mg "int"=none) (b_list:mg "list"=none) (b_all:mg "all"=none) (TG:TxG K C_Gate):FnOk P w K mg base CX0 10 f fd ["_law_script"] (spLaw K):=by
 refine F.ok sc_law (fun vs H Q E h=>?_) (fun cdv A outer s H vs Q E hr h=>?_)
 ·obtain ⟨a,ns,rfl,_⟩:=h
  rfl
 obtain ⟨a,ns,rfl,hS,h63,q⟩:=h
 refine ⟨_,(@qb _ _ _ _ _ (ql (i:=1) sc_law.nd rfl (Or.inl rfl) (qj1 g__law_ends hr (by decide) rfl (qa (qj1 g__law_cell_at hr (by decide) rfl (qa (pv 0) (qa qc qd0))) qd0))) (@qb _ _ _ _ _ (ql (i:=2) sc_law.nd rfl (Or.inl rfl) (qj1 g__law_cell_at hr (by decide) rfl (qa (pv 0) (qa qc qd0)))) (@qb _ _ _ _ _ (ql (i:=3) sc_law.nd rfl (Or.inl rfl) (qj1 g__law_rules hr (by decide) rfl (qa (qs0 qy1 (pv 2) qc) (qa (pv 1) qd0)))) (@qb _ _ _ _ _ (ql (i:=4) sc_law.nd rfl (Or.inl rfl) (qi qp (qi1 (qa qr1 (qa qr1 qd0))) (qs0 op_mul (qs0 qf1 (pv 2) qc) (pe_callTy call_intB rfl b_int bo_int (qa (pe_cmpR (op_neD hr.units) (pv 3) (qi1 qd0) (qa1 _)) qd0))) (fun _ _=>rfl))) (@qb _ _ _ _ _ (ql (i:=5) sc_law.nd rfl (Or.inl rfl) (qj1 g__law_cell_at hr (by decide) rfl (qa (pv 0) (qa qc qd0)))) (@qb _ _ _ _ _ (ql (i:=6) sc_law.nd rfl (Or.inl rfl) (qi qp (qi1 (qa qc (qa (qs0 op_pow qc qc) qd0))) (qs0 qf1 (qs0 qy1 (pv 5) qc) qc) (fun _ _=>rfl))) (@qb _ _ _ _ _ (ql (i:=7) sc_law.nd rfl (Or.inl rfl) (qo (qa (qs0 qf2 qc (qs0 qf1 (qs0 qy1 (pv 5) qc) (pv 6))) (qa (qs0 qf2 qc (qs0 qf1 (qs0 qy1 (qs0 qy1 (pv 5) qc) (pv 6)) (pv 6))) (qa (qs0 qf2 qc (qs0 qf1 (qs0 qy1 (pv 5) qc) qc)) qd0))))) (@qb _ _ _ _ _ (ql (i:=8) sc_law.nd rfl (Or.inl rfl) (qj1 g__law_changes hr (by decide) rfl (qa (pv 5) (qa (pv 1) qd0)))) (@qb _ _ _ _ _ (ql (i:=9) sc_law.nd rfl (Or.inl rfl) (pe_callTy call_listR rfl b_list bo_list (qa (pv 8) qd0))) (@qb _ _ _ _ _ (ql (i:=10) sc_law.nd rfl (Or.inl rfl) (pe_new gi_Gate hr (by decide) rfl m_Gate (qa (qj1 g__law_book hr (by decide) rfl (qa (pv 4) (qa (pv 3) (qa (qs0 qf1 (qs0 qy1 (pv 2) qc) qc) qd0)))) (qa (pv 9) (qa (qi qm (pv 7) qc (fun _ _=>rfl)) (qa (qi qm (pv 7) qc (fun _ _=>rfl)) (qa (qi qm (pv 7) qc (fun _ _=>rfl)) qd0))))))) (@qb _ _ _ _ _ (@qo1 _ _ _ _ _ _ _ _ (qv (op_neD hr.units) (pv 9) (pv 8) (qa1 _)) (@qf _ _ _ (qq0 pe_bl)) qw) (@qb _ _ _ _ _ (qw1 (pe_bm0 PySem.F.plainAttrs_list PySem.F.slot_list_clear PySem.F.type_list_clear mt_clear (pv 9))) (@qb _ _ _ _ _ (ql (i:=11) sc_law.nd rfl (Or.inr rfl) qc) (@qb _ _ _ _ _ (ql (i:=12) sc_law.nd rfl (Or.inl rfl) (qi1 qd0)) (@qb _ _ _ _ _ (ql (i:=13) sc_law.nd rfl (Or.inl rfl) (qi1 qd0)) (@qb _ _ _ _ _ (@ps_for _ _ _ _ _ _ _ _ PassesOwn.never rfl (qd2 (pe_slice sl_list (pv 0) (po_some qc) (po_some qc))) (qn0 (i:=5) sc_law.nd rfl (Or.inl rfl)) (@qb _ _ _ _ _ (ql (i:=14) sc_law.nd rfl (Or.inl rfl) (qj1 g__law_stream hr (by decide) rfl (qa (pv 5) (qa qc qd0)))) (@qb _ _ _ _ _ (ql (i:=15) sc_law.nd rfl (Or.inl rfl) (qj1 g__law_parcel hr (by decide) rfl (qa (pv 12) (qa (pv 11) (qa (pv 14) (qa (pv 1) qd0)))))) (@qb _ _ _ _ _ (ql (i:=11) sc_law.nd rfl (Or.inr rfl) (qi qm (pv 15) qc (fun _ _=>rfl))) (@qb _ _ _ _ _ (ps_setComp (T:=["_law_talk"]) (cap:=[11]) (i:=12) rfl (COk.of (out:=qg s_law) (N:=["_law_script","_law_ends_here","_law_first","_law_rules_here","_law_default","_law_cell","_law_top","_law_spans","_law_changes_here","_law_handed","_law_gate","_law_time","_law_talks","_law_held","_law_draws","_law_parcel_here","_law_due_here","_law_label_here"]) rfl rfl (by decide +kernel)) sc_law.nd rfl (Or.inl rfl) (qd2 (pv 12)) (fun _ _ _=>(qn0 (i:=0) (show List.Nodup (["_law_talk","_law_time"]:List Str) by decide +kernel) rfl (Or.inl rfl))) (fun _ _ _=>(pifs_one (qv op_ge (qi (ix_tupK (K:=K) rfl) (pv 0) qc (fun _ _=>rfl)) (pv 1) (qa1 _)))) (fun _ _ _=>(pv 0))) (@qb _ _ _ _ _ (ps_asg (qj1 g__law_due hr (by decide) rfl (qa (pv 3) (qa (pv 4) (qa (pv 8) (qa (pv 12) (qa (pv 7) (qa (pv 15) qd0))))))) (pg_tup rfl (qb1 (qn0 (i:=16) sc_law.nd rfl (Or.inl rfl)) (qb1 (qn0 (i:=12) sc_law.nd rfl (Or.inl rfl)) pgs_nil)))) (@qb _ _ _ _ _ (@qo1 _ _ _ _ _ _ _ _ (qv (op_neD hr.units) (qq1 (pv 10) hr (qa (qi qm (pv 15) qc (fun _ _=>rfl)) (qa (qi qm (pv 15) qc (fun _ _=>rfl)) (qa (qi qm (pv 15) qc (fun _ _=>rfl)) qd0)))) (pv 16) (qa1 _)) (@qf _ _ _ (qq0 pe_bl)) qw) (@qb _ _ _ _ _ (qw1 (pe_bm0 PySem.F.plainAttrs_list PySem.F.slot_list_clear PySem.F.type_list_clear mt_clear (pe_methA0 (pv 10) hr))) (@qb _ _ _ _ _ (qw1 (pe_bm PySem.F.plainAttrs_list PySem.F.slot_list_append PySem.F.type_list_append mt_append (pv 13) (qa (qo (qa (pe_methA0 (pv 10) hr) (qa (pe_comp (T:=["_law_talk"]) (cap:=[]) rfl (COk.of (out:=qg s_law) (N:=["_law_script","_law_ends_here","_law_first","_law_rules_here","_law_default","_law_cell","_law_top","_law_spans","_law_changes_here","_law_handed","_law_gate","_law_time","_law_talks","_law_held","_law_draws","_law_parcel_here","_law_due_here","_law_label_here"]) rfl rfl (by decide +kernel)) (qd2 (pv 12)) (fun _ _ _=>(qn0 (i:=0) (show List.Nodup (["_law_talk"]:List Str) by decide +kernel) rfl (Or.inl rfl))) (fun _ _ _=>pifs_nil) (fun _ _ _=>(pe_slice (sl_tupK (K:=K) rfl) (pv 0) po_none (po_some qc)))) qd0))) qd0))) (@qb _ _ _ _ _ (ql (i:=17) sc_law.nd rfl (Or.inl rfl) (qj1 g__law_label hr (by decide) rfl (qa (qi qp (pv 14) qc (fun _ _=>rfl)) (qa (pv 1) qd0)))) (@qf _ _ _ (@qo1 _ _ _ _ _ _ _ _ (PW.pt (pw_or (qv (op_neD hr.units) (qi qm (qi qp (pv 13) (pe_un un_neg qc) (fun _ _=>rfl)) qc (fun _ _=>rfl)) (qi qm (qi qp (pv 13) (pe_un un_neg qc) (fun _ _=>rfl)) qc (fun _ _=>rfl)) (qa1 _)) (pw_or1 (qv op_ne (qq1 (pv 10) hr (qa (pv 17) qd0)) (qj1 g__law_turn hr (by decide) rfl (qa (pv 12) (qa (pv 17) qd0))) (qa1 _))))) (@qf _ _ _ (qq0 pe_bl)) qw))))))))))) (by intro _; rfl)) (@qf _ _ _ (qq0 (qh1 (call_all rfl) rfl b_all bo_all (qa (pe_comp (T:=["_law_found","_law_due_here"]) (cap:=[]) rfl (COk.of (out:=qg s_law) (N:=["_law_script","_law_ends_here","_law_first","_law_rules_here","_law_default","_law_cell","_law_top","_law_spans","_law_changes_here","_law_handed","_law_gate","_law_time","_law_talks","_law_held","_law_draws","_law_parcel_here","_law_due_here","_law_label_here"]) rfl rfl (by decide +kernel)) (qd2 (pv 13)) (fun _ _ _=>(pg_tupK (K:=K) (n:=2) rfl rfl (qb1 (qn0 (i:=0) (show List.Nodup (["_law_found","_law_due_here"]:List Str) by decide +kernel) rfl (Or.inl rfl)) (qb1 (qn0 (i:=1) (show List.Nodup (["_law_found","_law_due_here"]:List Str) by decide +kernel) rfl (Or.inl rfl)) pgs_nil)))) (fun _ _ _=>pifs_nil) (fun _ _ _=>(pe_cmpR (op_eqD hr.units) (pv 0) (pv 1) (qa1 _)))) qd0)))))))))))))))))))),?_⟩
 rw [st_law]
 refine qt fun N go=>?_
 walk_at "sv"
 refine spCell.go hS (by decide) ?_
 refine ⟨_,rfl,fun te H1 s1 en1=>?_⟩
 walk_at "sv"
 refine go _ _ ?_
 clear go
 refine qt fun N go=>?_
 walk_at "sv"
 refine spCell.go (s1.seq hS) (by decide) ?_
 walk_at "sv"
 refine go _ _ ?_
 clear go
 generalize cell ns 0=first at *
 refine qt fun N go=>?_
 walk_at "sv"
 refine ⟨⟨by decide,by decide⟩,?_⟩
 refine ⟨_,te,rfl,en1,fun rl ts us H2 nrl s2 hrl al ul wd=>?_⟩
 walk_at "sv"
 refine go _ _ ?_
 clear go
 have s12:=s1.trans s2
 refine qt fun N go=>?_
 walk_at "sv"
 refine lstN (by simp) fun lw H3 nlw s3 hlw=>?_
 walk_at "sv"
 refine ⟨by decide,?_⟩
 walk_at "sv"
 refine lstN (by simp) fun le H4 nle s4 hle=>?_
 have s24:=s3.trans s4
 refine rus_nil (s24 _ _ hrl) hle (All2.imp al fun _ _ r=>r.mono fun _ _ e=>s24 _ _ e) wd ?_
 have df:∀ x:Int,0≤x∧x<2→∀ Q':VK,(∀ z,Q' (.str z) H4)→rIxL K (.ref lw) (.int x) H4 Q':=fun x b Q' q'=>ixL_any (n:=2) (s4 _ _ hlw) rfl b fun v hv=>by
  simp only [List.mem_cons,List.not_mem_nil,or_false] at hv
  rcases hv with rfl | rfl
  ·exact q' _
  ·exact q' _
 have m2:=qz1 first (show (0:Int)<2 by decide)
 refine ⟨_,rfl,?_⟩
 walk_at "sv"
 obtain ⟨k,ek,kb⟩:∃ k:Int,(if (!decide (ts=[]))=true then (1:Int) else 0)=k∧(k=0∨k=1):=⟨_,rfl,by split <;> simp⟩
 rw [ek]
 generalize first % 2=f2 at *
 refine ⟨?_,df _ ?_ _ fun z=>?_⟩
 ·exact .inl ⟨by omega,by omega⟩
 ·rcases kb with rfl | rfl <;> omega
 refine go _ _ ?_
 clear go df
 have hrl4:=s24 _ _ hrl
 have al4:All2 (RtL H4) ts us:=All2.imp al fun _ _ r=>r.mono fun _ _ e=>s24 _ _ e
 have s14:=s12.trans s24
 have en4:=en1.same (s2.trans s24)
 clear hlw hle
 generalize z=df at *
 refine qt fun N go=>?_
 walk_at "sv"
 refine spCell.go (s14.seq hS) (by decide) ?_
 walk_at "sv"
 refine go _ _ ?_
 clear go
 generalize cell ns 1=c at *
 refine qt fun N go=>?_
 walk_at "sv"
 refine ⟨⟨by decide,by decide,by decide⟩,?_⟩
 refine lstN (by simp) fun lm H5 nlm s5 hlm=>?_
 walk_at "sv"
 refine ⟨⟨by decide,by decide⟩,by decide,?_⟩
 have md:=qz1 (c / 4) (show (0:Int)<2 by decide)
 obtain ⟨m,em,lt2⟩:=nat_of (n:=2) md.1 md.2
 rw [em]
 obtain ⟨big,eb,bp,bq,bd⟩:∃ big:Int,[V.int 20,V.int (10 ^ Int.toNat 9)][m]?=some (.int big)∧0<big∧big≤1000000000∧CDivW (c / 40) big:=by
  match m,lt2 with
  | 0,_=>exact ⟨20,rfl,by decide,by decide,by decide,by decide⟩
  | 1,_=>exact ⟨10 ^ Int.toNat 9,rfl,by decide +kernel,by decide +kernel,by decide +kernel,by decide +kernel⟩
 refine qe1 (SqL.of hlm) eb ?_
 walk_at "sv"
 refine go _ _ ?_
 clear go hlm em md lt2 eb
 have s15:=s14.trans s5
 have hrl5:=s5 _ _ hrl4
 have al5:All2 (RtL H5) ts us:=All2.imp al4 fun _ _ r=>r.mono fun _ _ e=>s5 _ _ e
 have en5:=en4.same s5
 refine qt fun N go=>?_
 walk_at "sv"
 refine ⟨⟨by decide,by decide⟩,bp,⟨by decide,by decide⟩,bd,bp,⟨by decide,by decide⟩,by decide,?_⟩
 have g1:=qz1 (c / 40) bp
 have g2:=qz1 (c / 40 / big) bp
 have g3:=qz1 (c / 8) (show (0:Int)<5 by decide)
 obtain ⟨sh,lo,mo,esh,elo,emo,bs⟩:∃ sh lo mo:Int,1+c / 40 % big=sh∧1+c / 40 / big % big=lo∧1+c / 8 % 5=mo∧((0≤sh∧sh≤1000000000)∧(0≤lo∧lo≤1000000000)∧0≤mo∧mo≤6):=⟨_,_,_,rfl,rfl,rfl,by omega⟩
 rw [esh,elo,emo]
 clear esh elo emo g1 g2 g3 bp bq bd
 refine tupN (by simp) fun tsp H6 nsp s6 hsp=>?_
 refine go _ _ ?_
 clear go
 have hrl6:=s6 _ _ hrl5
 have al6:All2 (RtL H6) ts us:=All2.imp al5 fun _ _ r=>r.mono fun _ _ e=>s6 _ _ e
 have en6:=en5.same s6
 refine qt fun N go=>?_
 walk_at "sv"
 refine ⟨_,te,rfl,en6,fun lc xs gs H7 nlc s7 hlc alc ct gl=>?_⟩
 have cT:∀ c∈gs,ChgT c:=fun c hc=>(ct c hc).1
 have cG:∀ c∈gs,ChgT c∧0≤c.lo∧c.hi<65536:=fun c hc=>by
  obtain ⟨j,ej⟩:=List.getElem?_of_mem hc
  obtain ⟨v,_,_,_,_,_,_,_,_,_,_,h1,_,h2⟩:=All2.ix alc ej
  exact ⟨(ct c hc).1,h1,h2⟩
 walk_at "sv"
 refine go _ _ ?_
 clear go
 have s17:=(s15.trans s6).trans s7
 have hrl7:=s7 _ _ hrl6
 have al7:All2 (RtL H7) ts us:=All2.imp al6 fun _ _ r=>r.mono fun _ _ e=>s7 _ _ e
 have en7:=en6.same s7
 have hsp7:=s7 _ _ hsp
 clear al4 al5 al6 en1 en4 en5 en6 hrl hrl4 hrl5 hrl6 al hsp
 refine qt fun N go=>?_
 walk_at "sv"
 refine LstOf.lst (SqL.of hlc) fun hd nhd=>?_
 have s8:=qh nhd (.lst xs)
 have hhd:upd H7 hd (.lst xs) hd=some (.lst xs):=qe
 generalize upd H7 hd (.lst xs)=H8 at *
 walk_at "sv"
 refine go _ _ ?_
 clear go
 refine qt fun N go=>?_
 walk_at "sv"
 refine ⟨⟨by decide,by decide⟩,by decide,?_⟩
 refine ⟨df,rl,_,ts,us,rfl,s8 _ _ hrl7,All2.imp al7 fun _ _ r=>r.mono fun _ _ e=>s8 _ _ e,ul,wd,fun b cs len rank bx H9 s9 bk bok bxs x9 rds=>?_⟩
 have s89:=s8.trans s9
 walk_at "sv"
 refine ixT_go (i:=0) (SqT.of (s89 _ _ hsp7)) rfl ?_
 refine ixT_go (i:=1) (SqT.of (s89 _ _ hsp7)) rfl ?_
 refine ixT_go (i:=2) (SqT.of (s89 _ _ hsp7)) rfl ?_
 walk_at "sv"
 intro g dg ng nd ne
 have si:=same_ins (o:=.own g) (o':=.ins C_Gate dg []) ng nd ne
 let D:GD:=⟨df,cs,len,rank,bx,gs⟩
 refine ⟨g,dg,b,hd,D,xs,sh,lo,mo,rfl,qe,bk.same si,bok,bxs_to bxs fun a xs e=>si _ _ e,si _ _ (s9 _ _ hhd),All2.imp alc fun _ _ r=>(r.same s89).same si,fun Ha ua gt=>⟨rfl,?_⟩⟩
 have s9a:Same H9 Ha:=fun a o e=>ua _ _ (qy0 e ng) (si _ _ e)
 walk_at "sv"
 refine go _ _ ?_
 clear go
 have hhda:=s9a _ _ (s9 _ _ hhd)
 have s8a:=s9.trans s9a
 have s7a:=s8.trans s8a
 have gta:=gt (fun a=>a=hd) fun a z=>⟨xs,by rw [z]; exact si _ _ (s9 _ _ hhd)⟩
 have xa:All2 (RtX Ha bx) ts us:=All2.imp x9 fun _ _ r=>r.same s9a
 clear gt ua si bxs bk x9 s9a
 refine qt fun N go=>?_
 walk_at "sv"
 refine chgs_ne hhda (s7a _ _ hlc) (All2.imp alc fun _ _ r=>r.same s7a) (All2.imp alc fun _ _ r=>r.same s7a) cT ?_
 walk_at "sv"
 refine go _ _ ?_
 clear go
 refine qt fun N go=>?_
 walk_at "sv"
 refine clear_go hhda ?_
 have sb:Same H7 (upd Ha hd (.lst [])):=s7a.put nhd
 have gtb:GtOk cWo cBa cCa cBo C_Talk C_Table C_Gate (upd Ha hd (.lst [])) g D ⟨sh,lo,mo,0,[]⟩:=gta.same fun a o e=>by
  obtain ⟨n,e,_⟩:=sol_out e
  exact (qu0 n).trans e
 have xb:All2 (RtX (upd Ha hd (.lst [])) bx) ts us:=All2.imp xa fun _ _ r=>r.to (upd_tup hhda)
 generalize upd Ha hd (.lst [])=Hb at *
 walk_at "sv"
 refine go _ _ ?_
 clear go gta xa hhda s7a s8a hhd
 refine qt fun N go=>?_
 walk_at "sv"
 refine go _ _ ?_
 clear go
 refine qt fun N go=>?_
 walk_at "sv"
 refine lstN (by simp) fun l Hc nl sc hl=>?_
 refine go _ _ ?_
 clear go
 refine qt fun N go=>?_
 walk_at "sv"
 refine lstN (by simp) fun he Hd nhe sd hhe=>?_
 refine go _ _ ?_
 clear go
 have s7c:=sb.trans sc
 have fi0:Fi ⟨sh,lo,mo,0,[]⟩ 0:=⟨⟨fun x h=>(by cases h),List.nodup_nil,Nat.zero_le _⟩,bs.2.2.1,bs.2.2.2,bs.1,bs.2.1,⟨Int.le_refl _,by show (0:Int)≤((0:Nat):Int) * 2000000000; decide⟩,fun z h=>(by cases h),fun z h=>by cases h⟩
 refine qt fun N go=>?_
 walk_at "sv"
 refine PartR.go ?_
 refine PartR.go ?_
 have s1d:=(s17.trans s7c).trans sd
 refine slMidA_go (k:=3) (j:=66) (s1d.seq hS) fun sk nsk=>?_
 rw [← List.map_drop,← List.map_take]
 have se:=qh nsk (.lst (((ns.drop 3).take (66 - 3)).map V.int))
 have hsk:upd Hd sk (.lst (((ns.drop 3).take (66 - 3)).map V.int)) sk=some (.lst (((ns.drop 3).take (66 - 3)).map V.int)):=qe
 generalize upd Hd sk (.lst (((ns.drop 3).take (66 - 3)).map V.int))=He at *
 have cl:((ns.drop 3).take (66 - 3)).length≤63:=by rw [List.length_take]; omega
 generalize (ns.drop 3).take (66 - 3)=cells at *
 have sde:=sd.trans se
 have key:∀ a o,Sol o→Hc a=some o→hv He he a=some o:=fun a o so e=>sol_of (qy0 e nhe) (sde _ _ e) so
 have tp:∀ a xs,Hc a=some (.tup xs)→hv He he a=some (.tup xs):=fun a xs e=>key _ _ (.inr (.inl ⟨_,rfl⟩)) e
 have ls:∀ a xs,Hc a=some (.lst xs)→hv He he a=some (.lst xs):=fun a xs e=>key _ _ (.inl True.intro) e
 have nske:sk≠he:=fun z=>by
  rw [z,hhe] at nsk
  cases nsk
 have S0:LS49 te rl lc tsp sk cells ts xs us sh lo mo D (hv He he):=⟨hv_lst nske hsk,(en7.same s7c).to tp ls,ls _ _ (s7c _ _ hrl7),All2.imp xb fun _ _ r=>(r.same sc).to tp,ls _ _ (s7c _ _ hlc),All2.imp alc fun _ _ r=>(r.same s7c).mono tp,tp _ _ (s7c _ _ hsp7)⟩
 have V0:LV49 cWo cBa cCa cBo C_Talk C_Table C_Gate g l [] [] sh lo mo D (hv He he) ⟨sh,lo,mo,0,[]⟩ 0:=⟨((gtb.same sc).hv nhe).same (qe2 sde),fi0,⟨rfl,rfl,rfl⟩,ls _ _ hl,.nil,fun v h=>by cases h⟩
 have hhee:=se _ _ hhe
 have eD:D.df=df∧D.cs=cs∧D.gs=gs∧D.bx=bx:=⟨rfl,rfl,rfl,rfl⟩
 clear_value D
 obtain ⟨rfl,rfl,rfl,rfl⟩:=eD
 clear key tp ls gtb xb fi0 en7 alc hrl7 hlc hsp7 al7 s7c
 refine IlR.go (SqL.of hsk) ?_
 refine ForR.items itl (fun i σ H'=>∃ (B:Tb) (l:Addr) (us' hs:List V) (y1 y2 y3 y4 y5:Option V),LS49 te rl lc tsp sk cells ts xs us sh lo mo D (hv H' he)∧LV49 cWo cBa cCa cBo C_Talk C_Table C_Gate g l us' hs sh lo mo D (hv H' he) B (3 * i)∧H' he=some (.lst hs)∧hs.length=i∧σ=[some (.ref a),some (.ref te),some (.int first),some (.ref rl),some (.str D.df),y1,some (.int big),some (.ref tsp),some (.ref lc),some (.ref hd),some (.ref g),some (.int B.time),some (.ref l),some (.ref he),y2,y3,y4,y5]) ⟨_,l,[],[],_,_,_,_,_,S0,V0,hhee,rfl,rfl⟩ (fun i σ H' pv=>by
  obtain ⟨_,_,_,_,_,_,_,_,_,S,_⟩:=pv
  exact SqL.of (qg2 _ _ S.sc)) (fun i x σ K0 hx pv=>?_) (fun σ K0 pv=>?_)
 rotate_left
 ·obtain ⟨B,l,us',hs,y1,y2,y3,y4,y5,S,V,hh,hl',rfl⟩:=pv
  refine go _ _ ?_
  walk_at "sv"
  rw [List.length_map] at hl'
  obtain ⟨ps,ap,hps⟩:=held_ps fun v hv=>(V.held v hv).to (fun _ _ e=>qg2 _ _ e) fun _ _ e=>qg2 _ _ e
  refine IlR.go (SqL.of hh) ?_
  refine CmpR.tups (fun _=>.bl true) itl ap (by omega) (fun H' s=>SqL.of (s _ _ hh)) (fun p H' Q' hp s1 kk=>?_) fun D1 H1 nD1 s1 hD1=>?_
  ·obtain ⟨D1,E1,us1,vs1,ts1,rfl,h1,h2,h3,h4⟩:=hps p hp
   walk_at "sv"
   refine rws_same (neg:=false) (s1 _ _ h1) (s1 _ _ h2) (All2.imp h3 fun _ _ r=>r.same s1) (All2.imp h4 fun _ _ r=>r.same s1) ?_
   exact kk H' (Same.refl _)
  ·rw [show ps.map (fun _=>L2.V.bl true)=(ps.map fun _=>true).map L2.V.bl by rw [List.map_map]; rfl] at hD1
   walk_at "sv"
   refine all_go (SqL.of hD1) ?_
   rw [show (ps.map fun _=>true).all id=true by rw [List.all_eq_true]; intro x hx; obtain ⟨_,_,rfl⟩:=List.mem_map.mp hx; rfl]
   exact q H1
 clear go S0 V0 hsk hhee
 obtain ⟨B,l,us',hs,y1,y2,y3,y4,y5,S,V,hh,hl',rfl⟩:=pv
 rw [List.getElem?_map] at hx
 obtain ⟨cx,ec,rfl⟩:=Option.map_eq_some_iff.mp hx
 have i63:i<cells.length:=(List.getElem?_eq_some_iff.mp ec).1
 show gName _ _ _ _ _
 refine qt fun N go=>?_
 walk_at "sv"
 refine ⟨_,5,rfl,by decide,fun ld ds K1 nld s1 hd1 dl _=>?_⟩
 obtain ⟨d0,d1,d2,d3,d4,rfl⟩:=five dl
 have hd1:K1 ld=some (.lst [.int d0,.int d1,.int d2,.int d3,.int d4]):=hd1
 have nlde:ld≠he:=fun z=>by
  rw [z,hh] at nld
  cases nld
 have S:=S.same (qe2 s1)
 have V:=V.same (qe2 s1)
 have hh:=s1 _ _ hh
 walk_at "sv"
 refine go _ _ ?_
 clear go
 refine qt fun N go=>?_
 walk_at "sv"
 refine ⟨l,ld,te,us',B,3 * i,d0,d1,d2,d3,d4,rfl,qg2 _ _ V.lst,qv1 V.rows qg2,V.fi,hd1,S.te.same qg2,fun pc p m lab last K2 s2 hpc m1 m2 hp lt=>?_⟩
 have S:=S.same (qe2 s2)
 have V:=V.same (qe2 s2)
 have hh:=s2 _ _ hh
 have hd1:=s2 _ _ hd1
 walk_at "sv"
 refine go _ _ ?_
 clear go
 refine qt fun N go=>?_
 walk_at "sv"
 refine ixT_go (i:=0) (SqT.of hpc) rfl ?_
 refine go _ _ ?_
 clear go
 have n5:=lt.len
 refine qt fun N go=>?_
 walk_at "sv"
 have hl0:=qg2 _ _ V.lst
 have rows0:=qv1 V.rows qg2
 refine IlR.go (SqL.of hl0) ?_
 have f200:=V.fi.f200
 have wl:=All2.len V.rows
 refine CmpR.filt (tilV K2 m) id itl (by omega) (fun H' s=>SqL.of (s _ _ hl0)) (fun v H' Q' hv s3 kk=>?_) (fun v H' Q' hv hp s3 kk=>?_) fun tl2 K3 ntl2 s3 htl2=>?_
 ·obtain ⟨j,ev⟩:=List.getElem?_of_mem hv
  obtain ⟨x,ex,r⟩:=All2.at rows0 ev
  rw [tilV_at r] at kk
  obtain ⟨tx,px,qx,rfl,htx,_,_⟩:=r
  walk_at "sv"
  refine ixT_go (i:=3) (SqT.of (s3 _ _ htx)) rfl ?_
  walk_at "sv"
  exact kk H' (Same.refl _)
 ·walk_at "sv"
  exact kk H' (Same.refl _)
 rw [List.map_id] at htl2
 have rows2:All2 (R6 K3) (us'.filter (tilV K2 m)) (B.at m).ts:=All2.imp (all2_filter rows0 fun x y r=>tilV_at r) fun _ _ r=>r.to fun _ _ e=>s3 _ _ e
 generalize us'.filter (tilV K2 m)=ws2 at *
 have ntl:tl2≠he:=fun z=>by
  rw [z,hh] at ntl2
  cases ntl2
 have S:=S.same (qe2 s3)
 have V:=V.same (qe2 s3)
 have hh:=s3 _ _ hh
 have hd1:=s3 _ _ hd1
 have hpc:=s3 _ _ hpc
 have hp:=hp.same s3
 clear hl0 rows0
 obtain ⟨fm,e1,e2,e3⟩:=V.fi.next (.inr (.inr (.inr ⟨m,rfl,m1,m2⟩)))
 walk_at "sv"
 refine go _ _ ?_
 clear go
 refine qt fun N go=>?_
 walk_at "sv"
 have hsp:K3 tsp=some (.tup [.int (B.at m).short,.int (B.at m).long,.int (B.at m).most]):=by
  rw [e1,e2,e3,V.sps.1,V.sps.2.1,V.sps.2.2]
  exact qg2 _ _ S.sp
 refine ⟨rl,lc,tl2,tsp,pc,p,D.df,ts,xs,ws2,us,D.bx,D.gs,B.at m,lab,last,rfl,qg2 _ _ S.rl,All2.imp S.al fun _ _ r=>r.same qg2,wd,qg2 _ _ S.lc,All2.imp S.alc fun _ _ r=>r.same qg2,fun c hc=>(ct c hc).2,htl2,rows2,fm.ok,fm.few,hsp,hpc,hp,n5,fun t r l2 us2 K4 nl2 s4 ht an hl2 rows4=>?_⟩
 refine gtup2 (SqT.of ht) ?_
 have nle:l2≠he:=by
  rcases nl2 with rfl | nl2
  ·exact ntl
  ·intro z
   rw [z,hh] at nl2
   cases nl2
 have S:=S.same (qe2 s4)
 have V:=V.same (qe2 s4)
 have hh:=s4 _ _ hh
 have hd1:=s4 _ _ hd1
 have hpc:=s4 _ _ hpc
 have hp:=hp.same s4
 clear htl2 rows2 hsp ht nl2 ntl
 refine go _ _ ?_
 clear go
 refine qt fun N go=>?_
 walk_at "sv"
 obtain ⟨t0,dx,lt0,kd,ads,b',ch',dg',vs',ga⟩:=id V.gt
 refine MethR.go gm_Gate_take (qg2 _ _ ga.ins) TG.cls (by rfl) (by decide) ?_
 clear ga
 walk_at "sv"
 refine ixT_go (i:=0) (SqT.of hpc) rfl ?_
 walk_at "sv"
 refine ixT_go (i:=1) (SqT.of hpc) rfl ?_
 walk_at "sv"
 refine ixT_go (i:=2) (SqT.of hpc) rfl ?_
 obtain ⟨hS',cut,nx⟩:=call_hv hh
 have i63':3 * i≤300:=by omega
 refine ⟨_,hS',g,p,D,B,m,lab,last,rfl,V.gt.same cut,V.fi.ok,V.fi.f200,fun x hx=>Nat.le_trans (V.fi.lab x hx).2.2 i63',m1,cut _ _ (hv_tup hh hp),n5,fun dn wd' v H2 rd kp gt2 an2 fr=>?_⟩
 obtain ⟨hh',n2,s2g⟩:=nx H2 fr
 have tn:=turn_in (B.at m).ts lab
 have ew:=rds _ _ dn wd' tn.1 tn.2 lt rd
 rw [ew] at gt2 an2
 have tpk:∀ a xs,hv K4 he a=some (.tup xs)→hv (glueH K4 (fun a=>a=he) H2) he a=some (.tup xs):=fun a xs e=>hv_tup hh' (s2g _ _ (kp.tup _ _ (cut _ _ e)))
 have lsk:∀ a xs,hv K4 he a=some (.lst xs)→hv (glueH K4 (fun a=>a=he) H2) he a=some (.lst xs):=fun a xs e=>by
  have e2:=kp.lst _ _ (cut _ _ e)
  exact hv_lst (qy0 e2 n2) (s2g _ _ e2)
 have gt3:=(gt2.hv n2).same (qe2 s2g)
 have an2:=an2.to fun _ _ e=>s2g _ _ e
 have an:=an.to fun _ _ e=>qg2 _ _ (tpk _ _ (hv_tup hh e))
 have S:=S.to tpk lsk
 obtain ⟨ft,t1,t2,t3,t4⟩:=fi_takeG (last:=last) (wd:=dueW D.df (fun u=>inBox (D.bx u.2) (qm1 (B.at m).ts lab::lab)) us) V.fi m1 m2 lt cG
 have V:LV49 cWo cBa cCa cBo C_Talk C_Table C_Gate g l2 us2 hs sh lo mo D (hv (glueH K4 (fun a=>a=he) H2) he) (takeT (B.at m) D.gs lab last (dueW D.df (fun u=>inBox (D.bx u.2) (qm1 (B.at m).ts lab::lab)) us)).tab (3 * i+3):=⟨gt3,ft,⟨t1.trans V.sps.1,t2.trans V.sps.2.1,t3.trans V.sps.2.2⟩,lsk _ _ (hv_lst nle hl2),r6s_to rows4 fun _ _ e=>tpk _ _ (hv_tup hh e),fun v hv=>(V.held v hv).to tpk lsk⟩
 have hd1:=qg2 _ _ (lsk _ _ (hv_lst nlde hd1))
 have tw:=take_word (B:=B.at m) (gs:=D.gs) (ns:=lab) (last:=last) (wd:=dueW D.df (fun u=>inBox (D.bx u.2) (qm1 (B.at m).ts lab::lab)) us)
 generalize glueH K4 (fun a=>a=he) H2=K5 at *
 generalize takeT (B.at m) D.gs lab last (dueW D.df (fun u=>inBox (D.bx u.2) (qm1 (B.at m).ts lab::lab)) us)=A at *
 clear hh nx cut kp rd gt2 gt3 s2g n2 fr hS' tpk lsk e1 e2 e3 fm hl2 rows4 hpc hp ew
 have hh:=hh'
 clear hh'
 walk_at "sv"
 refine ans_ne an2 an tw ?_
 walk_at "sv"
 refine go _ _ ?_
 clear go an an2 tw
 refine qt fun N go=>?_
 walk_at "sv"
 obtain ⟨t0,dx,lt0,kd,ads,b',ch',dg',vs',ga⟩:=id V.gt
 have g5:=qg2 _ _ ga.ins
 clear ga
 refine MethR.go gm_Gate_standing g5 TG.cls (by rfl) (by decide) ?_
 walk_at "sv"
 have f200:=V.fi.f200
 refine ⟨g,D,A.tab,rfl,V.gt.same qg2,Nat.le_of_lt f200,fun Dl us6 K6 nDl s6 hDl _=>?_⟩
 walk_at "sv"
 refine clear_go hDl ?_
 have s56:Same K5 (upd K6 Dl (.lst [])):=s6.put nDl
 generalize upd K6 Dl (.lst [])=K7 at *
 have S:=S.same (qe2 s56)
 have V:=V.same (qe2 s56)
 have hh:=s56 _ _ hh
 have hd1:=s56 _ _ hd1
 have g5:=s56 _ _ g5
 clear hDl nDl s6
 walk_at "sv"
 refine go _ _ ?_
 clear go
 refine qt fun N go=>?_
 walk_at "sv"
 refine ⟨ty_lst hh,?_⟩
 walk_at "sv"
 refine MethR.go gm_Gate_standing g5 TG.cls (by rfl) (by decide) ?_
 walk_at "sv"
 refine ⟨g,D,A.tab,rfl,V.gt.same qg2,Nat.le_of_lt f200,fun Dl us8 K8 nDl s8 hDl rowsD=>?_⟩
 have V:=V.same (qe2 s8)
 have hl8:=qg2 _ _ V.lst
 have rows8:=qv1 V.rows qg2
 have ul8:=All2.len rows8
 walk_at "sv"
 refine IlR.go (SqL.of hl8) ?_
 refine CmpR.rel (fun D' H' v u=>∃ (tv p' q' tu':Addr) (a b c d:L2.V),v=.ref tv∧K8 tv=some (.tup [.ref p',.ref q',a,b,c,d])∧u=.ref tu'∧tu'≠D'∧H' tu'=some (.tup [.ref p',.ref q',a,b])) (fun D' H' H'' x v kp r=>?_) itl (by omega) (fun H' s=>SqL.of (s _ _ hl8)) (fun D' v H' ys Q' hv nD' s9 hD' kk=>?_) fun E' K9 vs9 nE s9 hE al9=>?_
 ·obtain ⟨tv,p',q',tu',a,b,c,d,e1,h1,e2,n,h2⟩:=r
  exact ⟨tv,p',q',tu',a,b,c,d,e1,h1,e2,n,kp _ _ n h2⟩
 ·obtain ⟨i',ev'⟩:=List.getElem?_of_mem hv
  obtain ⟨x',ex',tv,p',q',rfl,htv,_,_⟩:=All2.at rows8 ev'
  walk_at "sv"
  refine PartR.go ?_
  refine slT_take (k:=4) (s9 _ _ htv) (by show 4<6; decide) fun u nu=>?_
  refine kk _ _ (qh nu _) ⟨tv,p',q',u,_,_,_,_,rfl,htv,rfl,fun e=>?_,qe⟩
  rw [e,hD'] at nu
  cases nu
 have rowsE:All2 (RwAt K9) vs9 A.tab.ts:=by
  have vl:=All2.len al9
  refine all2_ix (by omega) fun j u z eu ez=>?_
  obtain ⟨v,ev',tv,p',q',tu',a,b,c,d,e1,h1,e2,n,h2⟩:=All2.ix al9 eu
  obtain ⟨z',ez',t',p2,q2,e3,h3,h4,h5⟩:=All2.at rows8 ev'
  rw [ez] at ez'
  cases ez'
  rw [e1] at e3
  cases e3
  rw [h1] at h3
  cases h3
  exact ⟨tu',p',q',e2,h2,h4.same s9,h5.same s9⟩
 clear hl8 rows8 al9
 walk_at "sv"
 refine tupN (by simp) fun tt Ka ntt sa htt=>?_
 have s89:=s9.trans sa
 have s7a:=s8.trans s89
 have hha:=s7a _ _ hh
 have ne1:Dl≠he:=fun e=>by
  rw [e,hh] at nDl
  cases nDl
 have ne2:E'≠he:=fun e=>by
  rw [e,s8 _ _ hh] at nE
  cases nE
 have hDa:=s89 _ _ hDl
 have hEa:=sa _ _ hE
 have rDa:=All2.imp rowsD fun _ _ r=>RwAt.same r s89
 have rEa:=All2.imp rowsE fun _ _ r=>RwAt.same r sa
 have hel:HeldAt (hv Ka he) (.ref tt):=⟨tt,Dl,E',us8,vs9,A.tab.ts,rfl,hv_tup hha htt,hv_lst ne1 hDa,hv_lst ne2 hEa,All2.imp rDa fun _ _ r=>r.to fun _ _ e=>hv_tup hha e,All2.imp rEa fun _ _ r=>r.to fun _ _ e=>hv_tup hha e⟩
 have S:=(S.same (qe2 s7a)).same (hv_upd (o:=.lst (hs++[.ref tt])))
 have V:=V.same (qe2 s89)
 have V:LV49 cWo cBa cCa cBo C_Talk C_Table C_Gate g l2 us2 (hs++[.ref tt]) sh lo mo D (hv Ka he) A.tab (3 * i+3):=⟨V.gt,V.fi,V.sps,V.lst,V.rows,fun v hv=>(List.mem_append.mp hv).elim (V.held v) fun hv=>by rw [List.mem_singleton.mp hv]; exact hel⟩
 have V:=V.same (hv_upd (o:=.lst (hs++[.ref tt])))
 have hd1:upd Ka he (.lst (hs++[.ref tt])) ld=_:=(qu0 nlde).trans (s7a _ _ hd1)
 have g5:upd Ka he (.lst (hs++[.ref tt])) g=_:=(qu0 fun z=>by
  rw [z,hh] at g5
  cases g5).trans (s7a _ _ g5)
 refine app_go hha (by omega) ?_
 have hhb:upd Ka he (.lst (hs++[.ref tt])) he=some (.lst (hs++[.ref tt])):=qe
 have tpb:=upd_tup (o:=.lst (hs++[.ref tt])) hha
 have hDb:upd Ka he (.lst (hs++[.ref tt])) Dl=some (.lst us8):=(qu0 ne1).trans hDa
 have hEb:upd Ka he (.lst (hs++[.ref tt])) E'=some (.lst vs9):=(qu0 ne2).trans hEa
 have htb:=tpb _ _ htt
 have rDb:=All2.imp rDa fun _ _ r=>RwAt.to r tpb
 have rEb:=All2.imp rEa fun _ _ r=>RwAt.to r tpb
 clear hha hDa hEa rDa rEa hel htt hh s7a s89 sa s9 s8 hDl hE rowsD rowsE
 generalize upd Ka he (.lst (hs++[.ref tt]))=Kb at *
 walk_at "sv"
 refine go _ _ ?_
 clear go
 refine qt fun N go=>?_
 walk_at "sv"
 refine qe1 (i:=4) (SqL.of hd1) rfl ?_
 refine ⟨d4,te,rfl,S.te.same qg2,fun p4 lab4 Kc sc4 hp4 _ _=>?_⟩
 walk_at "sv"
 refine go _ _ ?_
 clear go
 have S:=S.same (qe2 sc4)
 have V:=V.same (qe2 sc4)
 have hh:=sc4 _ _ hhb
 walk_at "sv"
 refine ixLast_go (SqL.of hh) ?_
 walk_at "sv"
 refine ixT_go (i:=0) (SqT.of (sc4 _ _ htb)) rfl ?_
 walk_at "sv"
 refine ixLast_go (SqL.of hh) ?_
 walk_at "sv"
 refine ixT_go (i:=1) (SqT.of (sc4 _ _ htb)) rfl ?_
 refine rws_same (neg:=true) (sc4 _ _ hDb) (sc4 _ _ hEb) (All2.imp rDb fun _ _ r=>r.same sc4) (All2.imp rEb fun _ _ r=>r.same sc4) ?_
 walk_at "sv"
 refine MethR.go gm_Gate_turn (sc4 _ _ g5) TG.cls (by rfl) (by decide) ?_
 walk_at "sv"
 refine ⟨g,p4,D,A.tab,lab4,rfl,V.gt.same qg2,hp4,?_⟩
 walk_at "sv"
 refine ⟨l2,p4,us2,A.tab.ts,lab4,rfl,qg2 _ _ V.lst,qv1 V.rows qg2,V.fi.ok,hp4,fun Kd sd4=>?_⟩
 walk_at "sv"
 exact ⟨A.tab,l2,us2,hs++[.ref tt],_,_,_,_,_,S.same (qe2 sd4),V.same (qe2 sd4),sd4 _ _ hh,by rw [List.length_append,hl']; rfl,by rw [t4]⟩
end
end
theorem asm {l:PySem.W.OpenLaw}{w:World}{K:PySem.W.Frag}{mg:Str→Option Value}{fa:Addr}(hfa:mg "law"=some (.ref fa)){cRu:Addr}{cWo:Addr}{cBa:Addr}{cCa:Addr}{cBo:Addr}{C_Talk:Addr}{C_Table:Addr}{C_Gate:Addr}(D_holds:Def K mg "holds" s_holds)(D_has:Def K mg "has" s_has)(D_rule_of:Def K mg "rule_of" s_rule_of)(D_called_names:Def K mg "called_names" s_called_names)(D_refuse_two_chains:Def K mg "refuse_two_chains" s_refuse_two_chains)(D_refuse_missing_chains:Def K mg "refuse_missing_chains" s_refuse_missing_chains)(D_ready_names:Def K mg "ready_names" s_ready_names)(D_chain_lengths:Def K mg "chain_lengths" s_chain_lengths)(D_read_through:Def K mg "read_through" s_read_through)(D_word_of:Def K mg "word_of" s_word_of)(D_copy_of:Def K mg "copy_of" s_copy_of)(D_flip:Def K mg "flip" s_flip)(D_changed:Def K mg "changed" s_changed)(D_free_or_none:Def K mg "free_or_none" s_free_or_none)(D_choice_by:Def K mg "choice_by" s_choice_by)(D_choice:Def K mg "choice" s_choice)(D__law_cell_at:Def K mg "_law_cell_at" s__law_cell_at)(D__law_stream:Def K mg "_law_stream" s__law_stream)(D__law_flip:Def K mg "_law_flip" s__law_flip)(D__law_ends:Def K mg "_law_ends" s__law_ends)(D__law_label:Def K mg "_law_label" s__law_label)(D__law_rules:Def K mg "_law_rules" s__law_rules)(D__law_changes:Def K mg "_law_changes" s__law_changes)(D__law_in:Def K mg "_law_in" s__law_in)(D__law_at:Def K mg "_law_at" s__law_at)(D__law_turn:Def K mg "_law_turn" s__law_turn)(D__law_choice:Def K mg "_law_choice" s__law_choice)(D__law_going:Def K mg "_law_going" s__law_going)(D__law_due:Def K mg "_law_due" s__law_due)(D__law_parcel:Def K mg "_law_parcel" s__law_parcel)(D__law_book:Def K mg "_law_book" s__law_book)(D_law:Def K mg "law" s_law)(c_MAIN:∃ u,mg "MAIN"=some u∧RelV (.str "main") u)(c_MOST_LENGTH:∃ u,mg "MOST_LENGTH"=some u∧RelV (.int 120) u)(b_len:mg "len"=none)(b_range:mg "range"=none)(b_max:mg "max"=none)(b_min:mg "min"=none)(b_isinstance:mg "isinstance"=none)(b_int:mg "int"=none)(b_bool:mg "bool"=none)(b_str:mg "str"=none)(b_tuple:mg "tuple"=none)(b_list:mg "list"=none)(b_zip:mg "zip"=none)(b_all:mg "all"=none)(b_sum:mg "sum"=none)(b_enumerate:mg "enumerate"=none)(b_reversed:mg "reversed"=none)(m_Rule:mg "Rule"=some (.ref cRu))(m_Word:mg "Word"=some (.ref cWo))(m_Back:mg "Back"=some (.ref cBa))(m_Call:mg "Call"=some (.ref cCa))(m_Book:mg "Book"=some (.ref cBo))(m_Talk:mg "Talk"=some (.ref C_Talk))(m_Table:mg "Table"=some (.ref C_Table))(m_Gate:mg "Gate"=some (.ref C_Gate))(TT:TxT K C_Talk C_Table)(TG:TxG K C_Gate)(N_Rule___init__:ClsDef K cRu "__init__" "Rule.__init__" s_Rule___init__)(I_Rule___init__:MDef K cRu "__init__" "Rule.__init__" s_Rule___init__)(I_Back___init__:MDef K cBa "__init__" "Rule.__init__" s_Rule___init__)(I_Word___init__:MDef K cWo "__init__" "Word.__init__" s_Word___init__)(I_Call___init__:MDef K cCa "__init__" "Call.__init__" s_Call___init__)(M_Rule_fits:MDef K cRu "fits" "Rule.fits" s_Rule_fits)(M_Word_fits:MDef K cWo "fits" "Rule.fits" s_Rule_fits)(M_Back_fits:MDef K cBa "fits" "Rule.fits" s_Rule_fits)(M_Call_fits:MDef K cCa "fits" "Rule.fits" s_Rule_fits)(M_Word_told:MDef K cWo "told" "Word.told" s_Word_told)(M_Back_told:MDef K cBa "told" "Back.told" s_Back_told)(M_Call_told:MDef K cCa "told" "Call.told" s_Call_told)(I_Book___init__:MDef K cBo "__init__" "Book.__init__" s_Book___init__)(M_Book_rule_at:MDef K cBo "rule_at" "Book.rule_at" s_Book_rule_at)(M_Book_told:MDef K cBo "told" "Book.told" s_Book_told)(I_Talk___init__:MDef K C_Talk "__init__" "Talk.__init__" s_Talk___init__)(M_Talk_has_both_farewells:MDef K C_Talk "has_both_farewells" "Talk.has_both_farewells" s_Talk_has_both_farewells)(M_Talk_outgoing:MDef K C_Talk "outgoing" "Talk.outgoing" s_Talk_outgoing)(I_Table___init__:MDef K C_Table "__init__" "Table.__init__" s_Table___init__)(M_Table_keep:MDef K C_Table "keep" "Table.keep" s_Table_keep)(M_Table_turn:MDef K C_Table "turn" "Table.turn" s_Table_turn)(M_Table_free:MDef K C_Table "free" "Table.free" s_Table_free)(M_Table_is_full:MDef K C_Table "is_full" "Table.is_full" s_Table_is_full)(M_Table_standing:MDef K C_Table "standing" "Table.standing" s_Table_standing)(M_Table_begin:MDef K C_Table "begin" "Table.begin" s_Table_begin)(M_Table_go_on:MDef K C_Table "go_on" "Table.go_on" s_Table_go_on)(M_Table_at:MDef K C_Table "at" "Table.at" s_Table_at)(I_Gate___init__:MDef K C_Gate "__init__" "Gate.__init__" s_Gate___init__)(M_Gate_turn:MDef K C_Gate "turn" "Gate.turn" s_Gate_turn)(M_Gate_standing:MDef K C_Gate "standing" "Gate.standing" s_Gate_standing)(M_Gate_begin_talk:MDef K C_Gate "begin_talk" "Gate.begin_talk" s_Gate_begin_talk)(D0_Gate_take:MDefD K C_Gate "take" "Gate.take" s_Gate_take [.bool false])(T:TxB K cRu cWo cBa cCa cBo)  :
  ∃ fd:FuncData,(∀ (s:Shared) (v:Value),BindsTo s fd ⟨[v],[]⟩ [("_law_script",v)])∧∀ base:Heap,K.In base→base.Ns mainGlobals mg→FnOk l.prog w K mg base CX0 10 fa fd ["_law_script"] (spLaw K):=by
 obtain ⟨f,fd,F,m⟩:=D_law.ex
 cases (hfa.symm.trans m)
 obtain ⟨oc,od,kV,doc,pm,an,cdv,ct,osl,e,lk,hcd⟩:=id F.ex
 subst e
 refine ⟨PySem.W.fnOf "law" "law" (defArgs s_law) (qh2 s_law) (qg s_law) .none kV doc pm an cdv ct,fun s v=>.of_eq rfl,fun base _ _=>?_⟩
 have g_holds:Fn l.prog w K mg base "holds" 1 ["stretch","number"] spHolds:=D_holds.fn (fun _ _ _ _ _ _ us hl=>by obtain ⟨a0,a1,rfl⟩:=Sv.us2 hl; rfl) fun _ _ F=>ok_holds F
 have g_has:Fn l.prog w K mg base "has" 2 ["box","point"] spHas:=D_has.fn (fun _ _ _ _ _ _ us hl=>by obtain ⟨a0,a1,rfl⟩:=Sv.us2 hl; rfl) fun _ _ F=>ok_has F g_holds b_zip b_all
 have gc_Rule___init__:FnC l.prog w K mg base cRu "__init__" 1 ["self","box"] (spInit K):=N_Rule___init__.fnC (fun _ _ _ _ _ _ us hl=>by obtain ⟨a0,a1,rfl⟩:=Sv.us2 hl; rfl) fun _ _ F=>ok_Rule_init F
 have gi_Rule:FnI l.prog w K mg base cRu 1 ["self","box"] (spInit K):=I_Rule___init__.fnI T.mk_Rule T.kp_Rule (fun _ _ _ _ _ _ us hl=>by obtain ⟨a0,a1,rfl⟩:=Sv.us2 hl; rfl) fun _ _ F=>ok_Rule_init F
 have gi_Back:FnI l.prog w K mg base cBa 1 ["self","box"] (spInit K):=I_Back___init__.fnI T.mk_Back T.kp_Back (fun _ _ _ _ _ _ us hl=>by obtain ⟨a0,a1,rfl⟩:=Sv.us2 hl; rfl) fun _ _ F=>ok_Rule_init F
 have gi_Word:FnI l.prog w K mg base cWo 2 ["self","box","word"] (spInitW K cWo "word"):=I_Word___init__.fnI T.mk_Word T.kp_Word (fun _ _ _ _ _ _ us hl=>by obtain ⟨a0,a1,a2,rfl⟩:=Sv.us3 hl; rfl) fun _ _ F=>ok_Word_init F gc_Rule___init__ m_Rule T.toTxt
 have gi_Call:FnI l.prog w K mg base cCa 2 ["self","box","name"] (spInitW K cCa "name"):=I_Call___init__.fnI T.mk_Call T.kp_Call (fun _ _ _ _ _ _ us hl=>by obtain ⟨a0,a1,a2,rfl⟩:=Sv.us3 hl; rfl) fun _ _ F=>ok_Call_init F gc_Rule___init__ m_Rule T.toTxt
 have g_rule_of:Fn l.prog w K mg base "rule_of" 4 ["told"] (spRuleOf cWo cBa cCa):=D_rule_of.fn (fun _ _ _ _ _ _ us hl=>by obtain ⟨a0,rfl⟩:=Sv.us1 hl; rfl) fun _ _ F=>ok_rule_of F gi_Back gi_Word gi_Call m_Back m_Word m_Call T.toTxt
 have gm_Rule_fits:FnM l.prog w K mg base cRu "fits" 3 ["self","parcel"] (spFits K):=M_Rule_fits.fnM (fun _ _ _ _ _ _ us hl=>by obtain ⟨a0,a1,rfl⟩:=Sv.us2 hl; rfl) fun _ _ F=>ok_fits F g_has
 have gm_Word_fits:FnM l.prog w K mg base cWo "fits" 3 ["self","parcel"] (spFits K):=M_Word_fits.fnM (fun _ _ _ _ _ _ us hl=>by obtain ⟨a0,a1,rfl⟩:=Sv.us2 hl; rfl) fun _ _ F=>ok_fits F g_has
 have gm_Back_fits:FnM l.prog w K mg base cBa "fits" 3 ["self","parcel"] (spFits K):=M_Back_fits.fnM (fun _ _ _ _ _ _ us hl=>by obtain ⟨a0,a1,rfl⟩:=Sv.us2 hl; rfl) fun _ _ F=>ok_fits F g_has
 have gm_Call_fits:FnM l.prog w K mg base cCa "fits" 3 ["self","parcel"] (spFits K):=M_Call_fits.fnM (fun _ _ _ _ _ _ us hl=>by obtain ⟨a0,a1,rfl⟩:=Sv.us2 hl; rfl) fun _ _ F=>ok_fits F g_has
 have gm_Word_told:FnM l.prog w K mg base cWo "told" 1 ["self"] (spTold cWo isWord):=M_Word_told.fnM (fun _ _ _ _ _ _ us hl=>by obtain ⟨a0,rfl⟩:=Sv.us1 hl; rfl) fun _ _ F=>ok_Word_told F T.toTxt
 have gm_Back_told:FnM l.prog w K mg base cBa "told" 1 ["self"] (spTold cBa isBack):=M_Back_told.fnM (fun _ _ _ _ _ _ us hl=>by obtain ⟨a0,rfl⟩:=Sv.us1 hl; rfl) fun _ _ F=>ok_Back_told F T.toTxt
 have gm_Call_told:FnM l.prog w K mg base cCa "told" 1 ["self"] (spTold cCa isCall):=M_Call_told.fnM (fun _ _ _ _ _ _ us hl=>by obtain ⟨a0,rfl⟩:=Sv.us1 hl; rfl) fun _ _ F=>ok_Call_told F T.toTxt
 have g_called_names:Fn l.prog w K mg base "called_names" 1 ["rules"] (spCalled cWo cBa cCa):=D_called_names.fn (fun _ _ _ _ _ _ us hl=>by obtain ⟨a0,rfl⟩:=Sv.us1 hl; rfl) fun _ _ F=>ok_called_names F b_isinstance m_Call T.toTxt
 have g_refuse_two_chains:Fn l.prog w K mg base "refuse_two_chains" 1 ["names"] spTwo:=D_refuse_two_chains.fn (fun _ _ _ _ _ _ us hl=>by obtain ⟨a0,rfl⟩:=Sv.us1 hl; rfl) fun _ _ F=>ok_two F b_enumerate
 have g_refuse_missing_chains:Fn l.prog w K mg base "refuse_missing_chains" 2 ["chains"] (spMissing cWo cBa cCa):=D_refuse_missing_chains.fn (fun _ _ _ _ _ _ us hl=>by obtain ⟨a0,rfl⟩:=Sv.us1 hl; rfl) fun _ _ F=>ok_missing F g_called_names
 have g_ready_names:Fn l.prog w K mg base "ready_names" 2 ["chains","lengths"] (spReady cWo cBa cCa):=D_ready_names.fn (fun _ _ _ _ _ _ us hl=>by obtain ⟨a0,a1,rfl⟩:=Sv.us2 hl; rfl) fun _ _ F=>ok_ready F g_called_names
 have g_chain_lengths:Fn l.prog w K mg base "chain_lengths" 3 ["chains"] (spLengths cWo cBa cCa):=D_chain_lengths.fn (fun _ _ _ _ _ _ us hl=>by obtain ⟨a0,rfl⟩:=Sv.us1 hl; rfl) fun _ _ F=>ok_lengths F g_called_names g_ready_names b_len b_sum
 have gi_Book:FnI l.prog w K mg base cBo 5 ["self","default","chains"] (spBook cWo cBa cCa cBo):=I_Book___init__.fnI T.mk_Book T.kp_Book (fun _ _ _ _ _ _ us hl=>by obtain ⟨a0,a1,a2,rfl⟩:=Sv.us3 hl; rfl) fun _ _ F=>ok_Book_init F g_refuse_two_chains g_refuse_missing_chains g_chain_lengths g_rule_of c_MAIN c_MOST_LENGTH b_len T
 have gm_Book_rule_at:FnM l.prog w K mg base cBo "rule_at" 1 ["self","name","index"] (spRuleAt cWo cBa cCa cBo):=M_Book_rule_at.fnM (fun _ _ _ _ _ _ us hl=>by obtain ⟨a0,a1,a2,rfl⟩:=Sv.us3 hl; rfl) fun _ _ F=>ok_Book_rule_at F b_len T
 have g_read_through:Fn l.prog w K mg base "read_through" 4 ["book","parcel"] (spReadT cWo cBa cCa cBo):=D_read_through.fn (fun _ _ _ _ _ _ us hl=>by obtain ⟨a0,a1,rfl⟩:=Sv.us2 hl; rfl) fun _ _ F=>ok_read_through F gm_Book_rule_at gm_Word_fits gm_Back_fits gm_Call_fits c_MAIN b_isinstance m_Word m_Call T
 have g_word_of:Fn l.prog w K mg base "word_of" 5 ["book","parcel"] (spWordOf cWo cBa cCa cBo):=D_word_of.fn (fun _ _ _ _ _ _ us hl=>by obtain ⟨a0,a1,rfl⟩:=Sv.us2 hl; rfl) fun _ _ F=>ok_word_of F g_read_through
 have gm_Book_told:FnM l.prog w K mg base cBo "told" 2 ["self"] (spBTold cWo cBa cCa cBo):=M_Book_told.fnM (fun _ _ _ _ _ _ us hl=>by obtain ⟨a0,rfl⟩:=Sv.us1 hl; rfl) fun _ _ F=>ok_Book_told F gm_Word_told gm_Back_told gm_Call_told T
 have g_copy_of:Fn l.prog w K mg base "copy_of" 7 ["book"] (spCopy cWo cBa cCa cBo):=D_copy_of.fn (fun _ _ _ _ _ _ us hl=>by obtain ⟨a0,rfl⟩:=Sv.us1 hl; rfl) fun _ _ F=>ok_copy F gm_Book_told gi_Book m_Book T
 have g_flip:Fn l.prog w K mg base "flip" 1 ["label"] spFlip:=D_flip.fn (fun _ _ _ _ _ _ us hl=>by obtain ⟨a0,rfl⟩:=Sv.us1 hl; rfl) fun _ _ F=>ok_flip F
 have gi_Talk:FnI l.prog w K mg base C_Talk 2 ["self","label","sent","until"] (spTalkI C_Talk):=I_Talk___init__.fnI TT.mk_Talk TT.kp_Talk (fun _ _ _ _ _ _ us hl=>by obtain ⟨a0,a1,a2,a3,rfl⟩:=Sv.us4 hl; rfl) fun _ _ F=>ok_Talk_init F g_flip TT
 have gm_Talk_has_both_farewells:FnM l.prog w K mg base C_Talk "has_both_farewells" 1 ["self"] (spBoth2 C_Talk):=M_Talk_has_both_farewells.fnM (fun _ _ _ _ _ _ us hl=>by obtain ⟨a0,rfl⟩:=Sv.us1 hl; rfl) fun _ _ F=>ok_Talk_both F TT
 have gm_Talk_outgoing:FnM l.prog w K mg base C_Talk "outgoing" 2 ["self","label"] (spOut C_Talk):=M_Talk_outgoing.fnM (fun _ _ _ _ _ _ us hl=>by obtain ⟨a0,a1,rfl⟩:=Sv.us2 hl; rfl) fun _ _ F=>ok_Talk_out F g_flip TT
 have gi_Table:FnI l.prog w K mg base C_Table 1 ["self","short","long","most"] (spTabI C_Talk C_Table):=I_Table___init__.fnI TT.mk_Table TT.kp_Table (fun _ _ _ _ _ _ us hl=>by obtain ⟨a0,a1,a2,a3,rfl⟩:=Sv.us4 hl; rfl) fun _ _ F=>ok_Table_init F TT
 have gm_Table_keep:FnM l.prog w K mg base C_Table "keep" 1 ["self","talks"] (spKeep C_Talk C_Table):=M_Table_keep.fnM (fun _ _ _ _ _ _ us hl=>by obtain ⟨a0,a1,rfl⟩:=Sv.us2 hl; rfl) fun _ _ F=>ok_Table_keep F TT
 have gm_Table_turn:FnM l.prog w K mg base C_Table "turn" 1 ["self","label"] (spTurn C_Talk C_Table):=M_Table_turn.fnM (fun _ _ _ _ _ _ us hl=>by obtain ⟨a0,a1,rfl⟩:=Sv.us2 hl; rfl) fun _ _ F=>ok_Table_turn F TT
 have gm_Table_free:FnM l.prog w K mg base C_Table "free" 2 ["self","label","sent"] (spFree C_Talk C_Table):=M_Table_free.fnM (fun _ _ _ _ _ _ us hl=>by obtain ⟨a0,a1,a2,rfl⟩:=Sv.us3 hl; rfl) fun _ _ F=>ok_Table_free F g_flip TT
 have gm_Table_is_full:FnM l.prog w K mg base C_Table "is_full" 1 ["self"] (spFull C_Talk C_Table):=M_Table_is_full.fnM (fun _ _ _ _ _ _ us hl=>by obtain ⟨a0,rfl⟩:=Sv.us1 hl; rfl) fun _ _ F=>ok_Table_full F b_len TT
 have gm_Table_standing:FnM l.prog w K mg base C_Table "standing" 1 ["self"] (spStand C_Talk C_Table):=M_Table_standing.fnM (fun _ _ _ _ _ _ us hl=>by obtain ⟨a0,rfl⟩:=Sv.us1 hl; rfl) fun _ _ F=>ok_Table_stand F TT
 have gm_Table_begin:FnM l.prog w K mg base C_Table "begin" 4 ["self","label","sent"] (frm (spBegin C_Talk C_Table)):=M_Table_begin.fnM (fun _ _ _ _ _ _ us hl=>by obtain ⟨a0,a1,a2,rfl⟩:=Sv.us3 hl; rfl) fun _ _ F=>frm_ok (ok_Table_begin F gm_Table_is_full gm_Table_free gm_Table_keep gi_Talk m_Talk TT)
 have gm_Table_go_on:FnM l.prog w K mg base C_Table "go_on" 3 ["self","label","last"] (frm (spGo C_Talk C_Table)):=M_Table_go_on.fnM (fun _ _ _ _ _ _ us hl=>by obtain ⟨a0,a1,a2,rfl⟩:=Sv.us3 hl; rfl) fun _ _ F=>frm_ok (ok_Table_go_on F gm_Talk_has_both_farewells gm_Talk_outgoing gm_Table_keep TT)
 have g_changed:Fn l.prog w K mg base "changed" 1 ["label","side","address","door"] spChanged:=D_changed.fn (fun _ _ _ _ _ _ us hl=>by obtain ⟨a0,a1,a2,a3,rfl⟩:=Sv.us4 hl; rfl) fun _ _ F=>ok_changed F
 have g_free_or_none:Fn l.prog w K mg base "free_or_none" 3 ["label","sent","table"] (spFon C_Talk C_Table):=D_free_or_none.fn (fun _ _ _ _ _ _ us hl=>by obtain ⟨a0,a1,a2,rfl⟩:=Sv.us3 hl; rfl) fun _ _ F=>ok_fon F gm_Table_free TT
 have g_choice_by:Fn l.prog w K mg base "choice_by" 4 ["change","label","table"] (spBy C_Talk C_Table):=D_choice_by.fn (fun _ _ _ _ _ _ us hl=>by obtain ⟨a0,a1,a2,rfl⟩:=Sv.us3 hl; rfl) fun _ _ F=>ok_by F g_changed g_free_or_none b_range
 have g_choice:Fn l.prog w K mg base "choice" 5 ["changes","label","table"] (spChoice C_Talk C_Table):=D_choice.fn (fun _ _ _ _ _ _ us hl=>by obtain ⟨a0,a1,a2,rfl⟩:=Sv.us3 hl; rfl) fun _ _ F=>ok_choice F gm_Table_turn g_has g_choice_by g_free_or_none TT
 have gm_Table_at:FnM l.prog w K mg base C_Table "at" 2 ["self","moment"] (frm (spAt C_Talk C_Table)):=M_Table_at.fnM (fun _ _ _ _ _ _ us hl=>by obtain ⟨a0,a1,rfl⟩:=Sv.us2 hl; rfl) fun _ _ F=>frm_ok (ok_Table_at F gm_Table_keep TT)
 have gi_Gate:FnI l.prog w K mg base C_Gate 8 ["self","book","changes","short","long","most"] (spGateI cWo cBa cCa cBo C_Talk C_Table C_Gate):=I_Gate___init__.fnI TG.mk_Gate TG.kp_Gate (fun _ _ _ _ _ _ us hl=>match us,hl with | [_,_,_,_,_,_],_=>rfl) fun _ _ F=>ok_Gate_init F g_copy_of gi_Table m_Table b_list TG
 have gm_Gate_turn:FnM l.prog w K mg base C_Gate "turn" 2 ["self","label"] (spGTurn cWo cBa cCa cBo C_Talk C_Table C_Gate):=M_Gate_turn.fnM (fun _ _ _ _ _ _ us hl=>by obtain ⟨a0,a1,rfl⟩:=Sv.us2 hl; rfl) fun _ _ F=>ok_Gate_turn F gm_Table_turn TT TG
 have gm_Gate_standing:FnM l.prog w K mg base C_Gate "standing" 2 ["self"] (spGStand cWo cBa cCa cBo C_Talk C_Table C_Gate):=M_Gate_standing.fnM (fun _ _ _ _ _ _ us hl=>by obtain ⟨a0,rfl⟩:=Sv.us1 hl; rfl) fun _ _ F=>ok_Gate_stand F gm_Table_standing TT TG
 have gm_Gate_begin_talk:FnM l.prog w K mg base C_Gate "begin_talk" 6 ["self","label","last"] (spBegT cWo cBa cCa cBo C_Talk C_Table C_Gate):=M_Gate_begin_talk.fnM (fun _ _ _ _ _ _ us hl=>by obtain ⟨a0,a1,a2,rfl⟩:=Sv.us3 hl; rfl) fun _ _ F=>ok_begT F gm_Table_is_full g_choice gm_Table_begin gm_Table_go_on TT TG
 have gm_Gate_take:FnM l.prog w K mg base C_Gate "take" 7 ["self","moment","label","last"] (frm (spTake cWo cBa cCa cBo C_Talk C_Table C_Gate)):=by
  obtain ⟨f1,fd1,F,h1⟩:=D0_Gate_take.ex
  exact ⟨⟨f1,fd1,frm_ok (ok_take F gm_Table_at gm_Table_turn gm_Table_go_on gm_Gate_begin_talk g_word_of TT TG),h1,take_b0 F⟩⟩
 have g__law_cell_at:Fn l.prog w K mg base "_law_cell_at" 1 ["_law_script","_law_k"] (spCell K):=D__law_cell_at.fn (fun _ _ _ _ _ _ us hl=>by obtain ⟨a0,a1,rfl⟩:=Sv.us2 hl; rfl) fun _ _ F=>ok_cell F b_len
 have g__law_stream:Fn l.prog w K mg base "_law_stream" 1 ["_law_cell","_law_many"] spStream:=D__law_stream.fn (fun _ _ _ _ _ _ us hl=>by obtain ⟨a0,a1,rfl⟩:=Sv.us2 hl; rfl) fun _ _ F=>ok_stream F b_range
 have g__law_flip:Fn l.prog w K mg base "_law_flip" 1 ["_law_label_here"] spFlip:=D__law_flip.fn (fun _ _ _ _ _ _ us hl=>by obtain ⟨a0,rfl⟩:=Sv.us1 hl; rfl) fun _ _ F=>ok_lflip F
 have g__law_ends:Fn l.prog w K mg base "_law_ends" 2 ["_law_cell"] spEnds:=D__law_ends.fn (fun _ _ _ _ _ _ us hl=>by obtain ⟨a0,rfl⟩:=Sv.us1 hl; rfl) fun _ _ F=>ok_ends F g__law_stream
 have g__law_label:Fn l.prog w K mg base "_law_label" 1 ["_law_draw","_law_ends_here"] spLabel:=D__law_label.fn (fun _ _ _ _ _ _ us hl=>by obtain ⟨a0,a1,rfl⟩:=Sv.us2 hl; rfl) fun _ _ F=>ok_label F
 have g__law_rules:Fn l.prog w K mg base "_law_rules" 2 ["_law_cell","_law_ends_here"] spRules49:=D__law_rules.fn (fun _ _ _ _ _ _ us hl=>by obtain ⟨a0,a1,rfl⟩:=Sv.us2 hl; rfl) fun _ _ F=>ok_rules49 F g__law_stream b_range b_min
 have g__law_changes:Fn l.prog w K mg base "_law_changes" 2 ["_law_cell","_law_ends_here"] spChgs49:=D__law_changes.fn (fun _ _ _ _ _ _ us hl=>by obtain ⟨a0,a1,rfl⟩:=Sv.us2 hl; rfl) fun _ _ F=>ok_chgs49 F g__law_stream b_range b_min b_max
 have g__law_in:Fn l.prog w K mg base "_law_in" 1 ["_law_box","_law_point"] spIn49:=D__law_in.fn (fun _ _ _ _ _ _ us hl=>by obtain ⟨a0,a1,rfl⟩:=Sv.us2 hl; rfl) fun _ _ F=>ok_in49 F b_zip b_all
 have g__law_at:Fn l.prog w K mg base "_law_at" 2 ["_law_talks","_law_label_here"] spAtI:=D__law_at.fn (fun _ _ _ _ _ _ us hl=>by obtain ⟨a0,a1,rfl⟩:=Sv.us2 hl; rfl) fun _ _ F=>ok_atI F g__law_flip b_range b_len
 have g__law_turn:Fn l.prog w K mg base "_law_turn" 3 ["_law_talks","_law_label_here"] spTurn49:=D__law_turn.fn (fun _ _ _ _ _ _ us hl=>by obtain ⟨a0,a1,rfl⟩:=Sv.us2 hl; rfl) fun _ _ F=>ok_turn49 F g__law_at b_int
 have g__law_choice:Fn l.prog w K mg base "_law_choice" 3 ["_law_changes_here","_law_talks","_law_label_here"] spChoice49:=D__law_choice.fn (fun _ _ _ _ _ _ us hl=>by obtain ⟨a0,a1,a2,rfl⟩:=Sv.us3 hl; rfl) fun _ _ F=>ok_choice49 F g__law_in g__law_at g__law_flip b_range b_reversed
 have g__law_going:Fn l.prog w K mg base "_law_going" 2 ["_law_talks","_law_at_here","_law_label_here","_law_last","_law_time","_law_spans"] spGoing49:=D__law_going.fn (fun _ _ _ _ _ _ us hl=>match us,hl with | [_,_,_,_,_,_],_=>rfl) fun _ _ F=>ok_going49 F g__law_flip b_int
 have g__law_due:Fn l.prog w K mg base "_law_due" 4 ["_law_rules_here","_law_default","_law_changes_here","_law_talks","_law_spans","_law_parcel_here"] spDue49:=D__law_due.fn (fun _ _ _ _ _ _ us hl=>match us,hl with | [_,_,_,_,_,_],_=>rfl) fun _ _ F=>ok_due49 F g__law_turn g__law_in g__law_going g__law_at g__law_choice b_reversed b_len
 have g__law_parcel:Fn l.prog w K mg base "_law_parcel" 2 ["_law_talks","_law_time","_law_draws","_law_ends_here"] spParcel49:=D__law_parcel.fn (fun _ _ _ _ _ _ us hl=>by obtain ⟨a0,a1,a2,a3,rfl⟩:=Sv.us4 hl; rfl) fun _ _ F=>ok_parcel49 F g__law_label g__law_flip b_len b_max
 have g__law_book:Fn l.prog w K mg base "_law_book" 7 ["_law_default","_law_rules_here","_law_way"] (spBook49 cWo cBa cCa cBo):=D__law_book.fn (fun _ _ _ _ _ _ us hl=>by obtain ⟨a0,a1,a2,rfl⟩:=Sv.us3 hl; rfl) fun _ _ F=>ok_book49 F gi_Book m_Book b_list
 exact ok_law F g__law_cell_at g__law_stream g__law_ends g__law_label g__law_rules g__law_changes g__law_turn g__law_due g__law_parcel g__law_book gi_Gate gm_Gate_take gm_Gate_turn gm_Gate_standing m_Gate b_int b_list b_all TG
theorem walk {l:PySem.W.OpenLaw}{q:Program}{loose:List Str}{XP:(Str→Option Value)→Heap→Prop}{YP:World→Heap→Prop}{d:DefRec}{K:Params→PySem.W.Frag}(hn:l.most=some 63)(hdf:d.params.defaults=[])
  (hY:∀ (w:World) (h:Heap),YP w h→(K w.params).In h)
  (F:∀ (w:World) (mg:Str→Option Value) (fa:Addr) (h:Heap),(K w.params).In h→h.Ns mainGlobals mg→mg d.name=some (.ref fa) →
   ∃ fd:FuncData,(∀ (s:Shared) (u:Value),BindsTo s fd ⟨[u],[]⟩ [("_law_script",u)])∧∀ base:Heap,(K w.params).In base→base.Ns mainGlobals mg→FnOk l.prog w (K w.params) mg base CX0 10 fa fd ["_law_script"] (spLaw (K w.params))) :
  PySem.W.WalkO q loose XP YP l.row.toRowW d [] (fun f vs=>PySem.call f vs) :=
 L2.walk_of (n:=63) (k:=10) (x:="_law_script") (CX:=fun _=>CX0) (sp:=fun w=>spLaw (K w.params)) hn (by decide) hdf ⟨rfl,by decide,by decide,rfl⟩ hY F (fun _ _ a ns hl _ hS=>⟨a,ns,rfl,hS,hl,fun _=>rfl⟩) fun _ _ _ _ _ z=>z
namespace Hd
open PySem PySem.W
noncomputable section
def en (P:Params)(x:Str)(n:Nat)(v:Value):DictEntry:=⟨PyData.keyHash P x,.str x n,v⟩
def tO (xs:List Value):Obj:=⟨.type "tuple",none,.seq ⟨xs⟩ 0,⟨[]⟩⟩
def dO (es:List DictEntry)(n:Nat):Obj:=⟨.type "dict",none,.dict ⟨es⟩ n,⟨[]⟩⟩
def nO (xs:List Value):Obj:=⟨.none,none,.fields ⟨xs⟩,⟨[]⟩⟩
def nF (n q:Str)(s:Stmt):Obj:=⟨.none,none,.func ⟨n,q,defArgs s,.stmts (qh2 s),qg s,0,[],.none,.none,.none,.none,none,.none,.none,0⟩,⟨[]⟩⟩
def uF (n q:Str)(s:Stmt)(a b c d e f:Value):Obj:=⟨.type "function",none,.func ⟨n,q,defArgs s,.stmts (qh2 s),qg s,3,[],a,b,c,d,none,e,f,0⟩,⟨[]⟩⟩
def cO (n:Str)(a:Nat)(q:Str)(b c:Nat)(x1 x2 x3 x4 x5:Int)(r1:Nat)(v:Bool)(x6:Int)(r2:Nat)(u1 u2 u3 u4:Value)(x7 x8:Int)(d:Nat):Obj:=⟨.type "code",none,.fields ⟨[.str n a,.str q b,.str "/claim/cut.py" c,.int x1 0,.int x2 0,.int x3 0,.int x4 0,.int x5 0,.ref r1,.bool v,.int x6 0,.ref r2,u1,u2,u3,u4,.int x7 0,.int x8 0,.str "/claim/cut.py" d]⟩,⟨[]⟩⟩
def rO (a b c:Nat)(v:Value):Obj:=⟨.type "frame",none,.plain,⟨[some (.ref a),some (.ref b),some (.ref c),none,some v,none,some (.ref 0)]⟩⟩
def alt (l:List Obj):Bool→List Obj:=@List.rec Obj (fun _=>Bool→List Obj) (fun _=>[]) (fun x _ ih b=>@Bool.rec (fun _=>List Obj) (ih true) (x::ih false) b) l
def mkT (n:Nat):List Obj→BT:=@Nat.rec (fun _=>List Obj→BT) (fun _=>.nil) (fun _ ih l=>@List.rec Obj (fun _=>BT) .nil (fun x r _=>.node x (ih (alt r true)) (ih (alt r false))) l) n
def cF (n:Str)(a:Nat)(q:Str)(l k:Int)(r t:Nat):Obj:=cO n a q (a+1) (a+2) l k 0 0 3 r true 181 (r+1) .none (.ref (r+2)) (.ref (r+3)) (.ref (r+4)) (t:Int) l (t+1)
def cG (n:Str)(a:Nat)(q:Str)(l k:Int)(r t:Nat):Obj:=cO n a q (a+1) (a+2) l k 0 0 3 r true 181 (r+1) .none .none .none (.ref (r+2)) (t:Int) l (t+1)
def cH (n:Str)(a:Nat)(l:Int)(r t:Nat):Obj:=cO n a n (a+1) (a+2) l 0 0 0 0 r false 181 (r+1) .none .none .none .none (t:Int) l (t+1)
def uG (n q:Str)(s:Stmt)(d:Value)(e:Nat):Obj:=uF n q s .none .none .none d (.ref e) .none
def uH (n:Str)(s:Stmt)(d:Value)(e:Nat):Obj:=uG n n s d e
def nG (n:Str)(s:Stmt):Obj:=nF n n s
def sO (r:Nat):Obj:=⟨.type "super",none,.fields ⟨[.ref r,.ref r,.ref r]⟩,⟨[]⟩⟩
def bO (r:Nat):Obj:=⟨.type "builtin_function_or_method",none,.fields ⟨[.builtin "object.__init_subclass__",.ref r]⟩,⟨[]⟩⟩
def sq (l:List Str):Nat→List Value:=@List.rec Str (fun _=>Nat→List Value) (fun _=>[]) (fun x _ ih a=>.str x a::ih (a+1)) l
def tS (l:List Str)(a:Nat):Obj:=tO (sq l a)
def t3 (l:List (Int×Int×Nat)):List Value:=@List.rec (Int×Int×Nat) (fun _=>List Value) [] (fun x _ ih=>.int x.1 0::.int x.2.1 0::.ref x.2.2::ih) l
def m0:Value:=.str "__main__" 164
def m1:Value:=.str "sieve.errors" 194
def m2:Value:=.str "sieve.stretches" 388
def m3:Value:=.str "sieve.boxes" 398
def m4:Value:=.str "sieve.rules" 406
def m5:Value:=.str "sieve.books" 562
def m6:Value:=.str "sieve.changes" 703
def m7:Value:=.str "sieve.reading" 745
def m8:Value:=.str "sieve.talks" 768
def m9:Value:=.str "sieve.gate" 926
def m10:Value:=.str "law_sieve_k49_parcels_at_a_gate" 999
def z0:Obj:=cH "<module>" 182 1 11 185
def z1:Obj:=rO 13 3 3 (.str "__main__" 164)
def z2 (P:Params):Obj:=dO [en P "__name__" 165 (.str "sieve.errors" 194),en P "__doc__" 166 .none,en P "__package__" 167 .none,en P "__loader__" 168 (.builtin "__main__.__loader__#opaque"),en P "__spec__" 169 .none,en P "__annotations__" 170 (.ref 6),en P "__builtins__" 171 (.ref 4),en P "__file__" 173 (.str "/claim/cut.py" 172),en P "__cached__" 174 .none,en P "_wall" 193 (.ref 21),en P "SieveError" 213 (.ref 31),en P "TwoChains" 238 (.ref 51),en P "NoChain" 263 (.ref 70),en P "Ring" 289 (.ref 89),en P "TooLong" 314 (.ref 108),en P "OutOfTime" 339 (.ref 127)] 16
def z3:Obj:=nO (t3 [(1,0,20),(5,0,27),(7,0,40),(12,0,59),(17,0,78),(23,0,97),(28,0,116)])
def z4:Obj:=tS ["k"] 190
def z5:Obj:=nG "_wall" s__wall
def z6:Obj:=cF "_wall" 187 "_wall" 1 1 15 191
def z7:Obj:=uH "_wall" s__wall m0 20
def z8:Obj:=tO [.type "ValueError"]
def z9:Obj:=⟨.type "builtin_function_or_method",none,(.fields ⟨[.builtin "type.__prepare__",.type "type"]⟩),⟨[]⟩⟩
def za (P:Params):Obj:=dO [en P "__module__" 203 (.str "sieve.errors" 194),en P "__qualname__" 205 (.str "SieveError" 204),en P "__firstlineno__" 207 (.int 5 206),en P "__static_attributes__" 208 (.ref 29)] 4
def zb:Obj:=cH "SieveError" 198 5 25 201
def zc:Obj:=rO 27 3 24 (.str "sieve.errors" 194)
def zd (P:Params):Obj:=dO [en P "__module__" 203 (.str "sieve.errors" 194),en P "__firstlineno__" 207 (.int 5 206),en P "__static_attributes__" 208 (.ref 29),en P "__weakref__" 210 (.ref 32),en P "__doc__" 211 .none] 3
def ze:Obj:=⟨.type "type",none,(.cls ⟨"SieveError",[.type "ValueError"],[.ref 31,.type "ValueError",.type "Exception",.type "BaseException",.type "object"],30,"SieveError",true,[],[.ref 51,.ref 70,.ref 89,.ref 108,.ref 127],false,none,false⟩),⟨[(some (.ref 22)),none,(some (.str "SieveError" 196)),(some (.str "SieveError" 204)),(some (.builtin "ValueError.__new__")),(some (.bool true))]⟩⟩
def zf:Obj:=⟨.type "getset_descriptor",none,(.fields ⟨[.str "__weakref__" 209,.ref 31,.builtin "ExceptionGroup.__weakref__",.none]⟩),⟨[]⟩⟩
def z10:Obj:=sO 31
def z11:Obj:=bO 31
def z12:Obj:=tO [.ref 31]
def z13 (P:Params):Obj:=dO [en P "__module__" 221 (.str "sieve.errors" 194),en P "__qualname__" 223 (.str "TwoChains" 222),en P "__firstlineno__" 225 (.int 7 224),en P "__init__" 233 (.ref 48),en P "__static_attributes__" 235 (.ref 49)] 5
def z14:Obj:=nO (t3 [(9,4,47)])
def z15:Obj:=cH "TwoChains" 216 7 38 219
def z16:Obj:=rO 40 3 37 (.str "sieve.errors" 194)
def z17:Obj:=tS ["self","name"] 229
def z18:Obj:=nF "__init__" "TwoChains.__init__" s_TwoChains___init__
def z19:Obj:=cF "__init__" 226 "TwoChains.__init__" 9 2 42 231
def z1a:Obj:=uG "__init__" "TwoChains.__init__" s_TwoChains___init__ m1 47
def z1b:Obj:=tS ["name"] 234
def z1c (P:Params):Obj:=dO [en P "__module__" 221 (.str "sieve.errors" 194),en P "__firstlineno__" 225 (.int 7 224),en P "__init__" 233 (.ref 48),en P "__static_attributes__" 235 (.ref 49),en P "__doc__" 236 .none] 2
def z1d:Obj:=⟨.type "type",none,(.cls ⟨"TwoChains",[.ref 31],[.ref 51,.ref 31,.type "ValueError",.type "Exception",.type "BaseException",.type "object"],50,"TwoChains",true,[],[],false,none,false⟩),⟨[(some (.ref 35)),none,(some (.str "TwoChains" 214)),(some (.str "TwoChains" 222)),(some (.builtin "ValueError.__new__")),(some (.bool true))]⟩⟩
def z1e:Obj:=sO 51
def z1f:Obj:=bO 51
def z20 (P:Params):Obj:=dO [en P "__module__" 246 (.str "sieve.errors" 194),en P "__qualname__" 248 (.str "NoChain" 247),en P "__firstlineno__" 250 (.int 12 249),en P "__init__" 258 (.ref 67),en P "__static_attributes__" 260 (.ref 68)] 5
def z21:Obj:=nO (t3 [(14,4,66)])
def z22:Obj:=cH "NoChain" 241 12 57 244
def z23:Obj:=rO 59 3 56 (.str "sieve.errors" 194)
def z24:Obj:=tS ["self","name"] 254
def z25:Obj:=nF "__init__" "NoChain.__init__" s_NoChain___init__
def z26:Obj:=cF "__init__" 251 "NoChain.__init__" 14 2 61 256
def z27:Obj:=uG "__init__" "NoChain.__init__" s_NoChain___init__ m1 66
def z28:Obj:=tS ["name"] 259
def z29 (P:Params):Obj:=dO [en P "__module__" 246 (.str "sieve.errors" 194),en P "__firstlineno__" 250 (.int 12 249),en P "__init__" 258 (.ref 67),en P "__static_attributes__" 260 (.ref 68),en P "__doc__" 261 .none] 2
def z2a:Obj:=⟨.type "type",none,(.cls ⟨"NoChain",[.ref 31],[.ref 70,.ref 31,.type "ValueError",.type "Exception",.type "BaseException",.type "object"],69,"NoChain",true,[],[],false,none,false⟩),⟨[(some (.ref 54)),none,(some (.str "NoChain" 239)),(some (.str "NoChain" 247)),(some (.builtin "ValueError.__new__")),(some (.bool true))]⟩⟩
def z2b:Obj:=sO 70
def z2c:Obj:=bO 70
def z2d (P:Params):Obj:=dO [en P "__module__" 271 (.str "sieve.errors" 194),en P "__qualname__" 273 (.str "Ring" 272),en P "__firstlineno__" 275 (.int 17 274),en P "__init__" 284 (.ref 86),en P "__static_attributes__" 286 (.ref 87)] 5
def z2e:Obj:=nO (t3 [(19,4,85)])
def z2f:Obj:=cH "Ring" 266 17 76 269
def z30:Obj:=rO 78 3 75 (.str "sieve.errors" 194)
def z31:Obj:=tS ["self","names","ring"] 279
def z32:Obj:=nF "__init__" "Ring.__init__" s_Ring___init__
def z33:Obj:=cF "__init__" 276 "Ring.__init__" 19 2 80 282
def z34:Obj:=uG "__init__" "Ring.__init__" s_Ring___init__ m1 85
def z35:Obj:=tS ["names"] 285
def z36 (P:Params):Obj:=dO [en P "__module__" 271 (.str "sieve.errors" 194),en P "__firstlineno__" 275 (.int 17 274),en P "__init__" 284 (.ref 86),en P "__static_attributes__" 286 (.ref 87),en P "__doc__" 287 .none] 2
def z37:Obj:=⟨.type "type",none,(.cls ⟨"Ring",[.ref 31],[.ref 89,.ref 31,.type "ValueError",.type "Exception",.type "BaseException",.type "object"],88,"Ring",true,[],[],false,none,false⟩),⟨[(some (.ref 73)),none,(some (.str "Ring" 264)),(some (.str "Ring" 272)),(some (.builtin "ValueError.__new__")),(some (.bool true))]⟩⟩
def z38:Obj:=sO 89
def z39:Obj:=bO 89
def z3a (P:Params):Obj:=dO [en P "__module__" 297 (.str "sieve.errors" 194),en P "__qualname__" 299 (.str "TooLong" 298),en P "__firstlineno__" 301 (.int 23 300),en P "__init__" 309 (.ref 105),en P "__static_attributes__" 311 (.ref 106)] 5
def z3b:Obj:=nO (t3 [(25,4,104)])
def z3c:Obj:=cH "TooLong" 292 23 95 295
def z3d:Obj:=rO 97 3 94 (.str "sieve.errors" 194)
def z3e:Obj:=tS ["self","total"] 305
def z3f:Obj:=nF "__init__" "TooLong.__init__" s_TooLong___init__
def z40:Obj:=cF "__init__" 302 "TooLong.__init__" 25 2 99 307
def z41:Obj:=uG "__init__" "TooLong.__init__" s_TooLong___init__ m1 104
def z42:Obj:=tS ["total"] 310
def z43 (P:Params):Obj:=dO [en P "__module__" 297 (.str "sieve.errors" 194),en P "__firstlineno__" 301 (.int 23 300),en P "__init__" 309 (.ref 105),en P "__static_attributes__" 311 (.ref 106),en P "__doc__" 312 .none] 2
def z44:Obj:=⟨.type "type",none,(.cls ⟨"TooLong",[.ref 31],[.ref 108,.ref 31,.type "ValueError",.type "Exception",.type "BaseException",.type "object"],107,"TooLong",true,[],[],false,none,false⟩),⟨[(some (.ref 92)),none,(some (.str "TooLong" 290)),(some (.str "TooLong" 298)),(some (.builtin "ValueError.__new__")),(some (.bool true))]⟩⟩
def z45:Obj:=sO 108
def z46:Obj:=bO 108
def z47 (P:Params):Obj:=dO [en P "__module__" 322 (.str "sieve.errors" 194),en P "__qualname__" 324 (.str "OutOfTime" 323),en P "__firstlineno__" 326 (.int 28 325),en P "__init__" 334 (.ref 124),en P "__static_attributes__" 336 (.ref 125)] 5
def z48:Obj:=nO (t3 [(30,4,123)])
def z49:Obj:=cH "OutOfTime" 317 28 114 320
def z4a:Obj:=rO 116 3 113 (.str "sieve.errors" 194)
def z4b:Obj:=tS ["self","moment"] 330
def z4c:Obj:=nF "__init__" "OutOfTime.__init__" s_OutOfTime___init__
def z4d:Obj:=cF "__init__" 327 "OutOfTime.__init__" 30 2 118 332
def z4e:Obj:=uG "__init__" "OutOfTime.__init__" s_OutOfTime___init__ m1 123
def z4f:Obj:=tS ["moment"] 335
def z50 (P:Params):Obj:=dO [en P "__module__" 322 (.str "sieve.errors" 194),en P "__firstlineno__" 326 (.int 28 325),en P "__init__" 334 (.ref 124),en P "__static_attributes__" 336 (.ref 125),en P "__doc__" 337 .none] 2
def z51:Obj:=⟨.type "type",none,(.cls ⟨"OutOfTime",[.ref 31],[.ref 127,.ref 31,.type "ValueError",.type "Exception",.type "BaseException",.type "object"],126,"OutOfTime",true,[],[],false,none,false⟩),⟨[(some (.ref 111)),none,(some (.str "OutOfTime" 315)),(some (.str "OutOfTime" 323)),(some (.builtin "ValueError.__new__")),(some (.bool true))]⟩⟩
def z52:Obj:=sO 127
def z53:Obj:=bO 127
def z54 (P:Params):Obj:=dO [en P "__name__" 165 (.str "sieve.rules" 406),en P "__doc__" 166 .none,en P "__package__" 167 .none,en P "__loader__" 168 (.builtin "__main__.__loader__#opaque"),en P "__spec__" 169 .none,en P "__annotations__" 170 (.ref 6),en P "__builtins__" 171 (.ref 4),en P "__file__" 173 (.str "/claim/cut.py" 172),en P "__cached__" 174 .none,en P "_wall" 193 (.ref 21),en P "SieveError" 213 (.ref 31),en P "TwoChains" 238 (.ref 51),en P "NoChain" 263 (.ref 70),en P "Ring" 289 (.ref 89),en P "TooLong" 314 (.ref 108),en P "OutOfTime" 339 (.ref 127),en P "Taken" 355 (.ref 139),en P "Full" 371 (.ref 151),en P "NoTalk" 387 (.ref 163),en P "holds" 397 (.ref 172),en P "has" 405 (.ref 177),en P "Rule" 444 (.ref 201),en P "Word" 484 (.ref 236)] 23
def z55:Obj:=nO (t3 [(1,0,20),(5,0,27),(7,0,40),(12,0,59),(17,0,78),(23,0,97),(28,0,116),(33,0,135),(35,0,147),(37,0,159),(40,0,171),(43,0,176),(46,0,183),(53,0,211)])
def z56:Obj:=⟨.type "type",none,(.cls ⟨"SieveError",[.type "ValueError"],[.ref 31,.type "ValueError",.type "Exception",.type "BaseException",.type "object"],30,"SieveError",true,[],[.ref 51,.ref 70,.ref 89,.ref 108,.ref 127,.ref 139,.ref 151,.ref 163],false,none,false⟩),⟨[(some (.ref 22)),none,(some (.str "SieveError" 196)),(some (.str "SieveError" 204)),(some (.builtin "ValueError.__new__")),(some (.bool true))]⟩⟩
def z57 (P:Params):Obj:=dO [en P "__module__" 347 (.str "sieve.errors" 194),en P "__qualname__" 349 (.str "Taken" 348),en P "__firstlineno__" 351 (.int 33 350),en P "__static_attributes__" 352 (.ref 137)] 4
def z58:Obj:=cH "Taken" 342 33 133 345
def z59:Obj:=rO 135 3 132 (.str "sieve.errors" 194)
def z5a (P:Params):Obj:=dO [en P "__module__" 347 (.str "sieve.errors" 194),en P "__firstlineno__" 351 (.int 33 350),en P "__static_attributes__" 352 (.ref 137),en P "__doc__" 353 .none] 2
def z5b:Obj:=⟨.type "type",none,(.cls ⟨"Taken",[.ref 31],[.ref 139,.ref 31,.type "ValueError",.type "Exception",.type "BaseException",.type "object"],138,"Taken",true,[],[],false,none,false⟩),⟨[(some (.ref 130)),none,(some (.str "Taken" 340)),(some (.str "Taken" 348)),(some (.builtin "ValueError.__new__")),(some (.bool true))]⟩⟩
def z5c:Obj:=sO 139
def z5d:Obj:=bO 139
def z5e (P:Params):Obj:=dO [en P "__module__" 363 (.str "sieve.errors" 194),en P "__qualname__" 365 (.str "Full" 364),en P "__firstlineno__" 367 (.int 35 366),en P "__static_attributes__" 368 (.ref 149)] 4
def z5f:Obj:=cH "Full" 358 35 145 361
def z60:Obj:=rO 147 3 144 (.str "sieve.errors" 194)
def z61 (P:Params):Obj:=dO [en P "__module__" 363 (.str "sieve.errors" 194),en P "__firstlineno__" 367 (.int 35 366),en P "__static_attributes__" 368 (.ref 149),en P "__doc__" 369 .none] 2
def z62:Obj:=⟨.type "type",none,(.cls ⟨"Full",[.ref 31],[.ref 151,.ref 31,.type "ValueError",.type "Exception",.type "BaseException",.type "object"],150,"Full",true,[],[],false,none,false⟩),⟨[(some (.ref 142)),none,(some (.str "Full" 356)),(some (.str "Full" 364)),(some (.builtin "ValueError.__new__")),(some (.bool true))]⟩⟩
def z63:Obj:=sO 151
def z64:Obj:=bO 151
def z65 (P:Params):Obj:=dO [en P "__module__" 379 (.str "sieve.errors" 194),en P "__qualname__" 381 (.str "NoTalk" 380),en P "__firstlineno__" 383 (.int 37 382),en P "__static_attributes__" 384 (.ref 161)] 4
def z66:Obj:=cH "NoTalk" 374 37 157 377
def z67:Obj:=rO 159 3 156 (.str "sieve.errors" 194)
def z68 (P:Params):Obj:=dO [en P "__module__" 379 (.str "sieve.errors" 194),en P "__firstlineno__" 383 (.int 37 382),en P "__static_attributes__" 384 (.ref 161),en P "__doc__" 385 .none] 2
def z69:Obj:=⟨.type "type",none,(.cls ⟨"NoTalk",[.ref 31],[.ref 163,.ref 31,.type "ValueError",.type "Exception",.type "BaseException",.type "object"],162,"NoTalk",true,[],[],false,none,false⟩),⟨[(some (.ref 154)),none,(some (.str "NoTalk" 372)),(some (.str "NoTalk" 380)),(some (.builtin "ValueError.__new__")),(some (.bool true))]⟩⟩
def z6a:Obj:=sO 163
def z6b:Obj:=bO 163
def z6c:Obj:=tS ["stretch","number"] 393
def z6d:Obj:=nG "holds" s_holds
def z6e:Obj:=cF "holds" 390 "holds" 40 2 166 395
def z6f:Obj:=uH "holds" s_holds m2 171
def z70:Obj:=nG "has" s_has
def z71:Obj:=cG "has" 400 "has" 43 2 173 403
def z72:Obj:=uH "has" s_has m3 176
def z73 (P:Params):Obj:=dO [en P "__module__" 415 (.str "sieve.rules" 406),en P "__qualname__" 417 (.str "Rule" 416),en P "__firstlineno__" 419 (.int 46 418),en P "__init__" 427 (.ref 191),en P "fits" 435 (.ref 198),en P "__static_attributes__" 437 (.ref 199)] 6
def z74:Obj:=nO (t3 [(48,4,190),(51,4,197)])
def z75:Obj:=cH "Rule" 410 46 181 413
def z76:Obj:=rO 183 3 180 (.str "sieve.rules" 406)
def z77:Obj:=tS ["self","box"] 423
def z78:Obj:=nF "__init__" "Rule.__init__" s_Rule___init__
def z79:Obj:=cF "__init__" 420 "Rule.__init__" 48 2 185 425
def z7a:Obj:=uG "__init__" "Rule.__init__" s_Rule___init__ m4 190
def z7b:Obj:=tS ["self","parcel"] 431
def z7c:Obj:=nF "fits" "Rule.fits" s_Rule_fits
def z7d:Obj:=cF "fits" 428 "Rule.fits" 51 2 192 433
def z7e:Obj:=uG "fits" "Rule.fits" s_Rule_fits m4 197
def z7f:Obj:=tS ["box"] 436
def z80 (P:Params):Obj:=dO [en P "__module__" 415 (.str "sieve.rules" 406),en P "__firstlineno__" 419 (.int 46 418),en P "__init__" 427 (.ref 191),en P "fits" 435 (.ref 198),en P "__static_attributes__" 437 (.ref 199),en P "__dict__" 439 (.ref 202),en P "__weakref__" 441 (.ref 203),en P "__doc__" 442 .none] 4
def z81:Obj:=⟨.type "type",none,(.cls ⟨"Rule",[.type "object"],[.ref 201,.type "object"],200,"Rule",true,[],[.ref 236],false,none,false⟩),⟨[none,none,(some (.str "Rule" 408)),(some (.str "Rule" 416)),(some (.builtin "object.__new__")),(some (.bool true))]⟩⟩
def z82:Obj:=⟨.type "getset_descriptor",none,(.fields ⟨[.str "__dict__" 438,.ref 201,.builtin "function.__dict__",.builtin "function.__dict__#set"]⟩),⟨[]⟩⟩
def z83:Obj:=⟨.type "getset_descriptor",none,(.fields ⟨[.str "__weakref__" 440,.ref 201,.builtin "ExceptionGroup.__weakref__",.none]⟩),⟨[]⟩⟩
def z84:Obj:=sO 201
def z85:Obj:=bO 201
def z86:Obj:=tO [.ref 201]
def z87 (P:Params):Obj:=dO [en P "__module__" 452 (.str "sieve.rules" 406),en P "__qualname__" 454 (.str "Word" 453),en P "__firstlineno__" 456 (.int 53 455),en P "__init__" 465 (.ref 219),en P "told" 472 (.ref 226),en P "head" 479 (.ref 233),en P "__static_attributes__" 481 (.ref 234)] 7
def z88:Obj:=nO (t3 [(55,4,218),(59,4,225),(62,4,232)])
def z89:Obj:=cH "Word" 447 53 209 450
def z8a:Obj:=rO 211 3 208 (.str "sieve.rules" 406)
def z8b:Obj:=tS ["self","box","word"] 460
def z8c:Obj:=nF "__init__" "Word.__init__" s_Word___init__
def z8d:Obj:=cF "__init__" 457 "Word.__init__" 55 3 213 463
def z8e:Obj:=uG "__init__" "Word.__init__" s_Word___init__ m4 218
def z8f:Obj:=tS ["self"] 469
def z90:Obj:=nF "told" "Word.told" s_Word_told
def z91:Obj:=cF "told" 466 "Word.told" 59 1 220 470
def z92:Obj:=uG "told" "Word.told" s_Word_told m4 225
def z93:Obj:=tS ["self"] 476
def z94:Obj:=nF "head" "Word.head" s_Word_head
def z95:Obj:=cF "head" 473 "Word.head" 62 1 227 477
def z96:Obj:=uG "head" "Word.head" s_Word_head m4 232
def z97:Obj:=tS ["word"] 480
def z98 (P:Params):Obj:=dO [en P "__module__" 452 (.str "sieve.rules" 406),en P "__firstlineno__" 456 (.int 53 455),en P "__init__" 465 (.ref 219),en P "told" 472 (.ref 226),en P "head" 479 (.ref 233),en P "__static_attributes__" 481 (.ref 234),en P "__doc__" 482 .none] 2
def z99:Obj:=⟨.type "type",none,(.cls ⟨"Word",[.ref 201],[.ref 236,.ref 201,.type "object"],235,"Word",true,[],[],false,none,false⟩),⟨[(some (.ref 206)),none,(some (.str "Word" 445)),(some (.str "Word" 453)),(some (.builtin "object.__new__")),(some (.bool true))]⟩⟩
def z9a:Obj:=sO 236
def z9b:Obj:=bO 236
def z9c (P:Params):Obj:=dO [en P "__name__" 165 (.str "sieve.talks" 768),en P "__doc__" 166 .none,en P "__package__" 167 .none,en P "__loader__" 168 (.builtin "__main__.__loader__#opaque"),en P "__spec__" 169 .none,en P "__annotations__" 170 (.ref 6),en P "__builtins__" 171 (.ref 4),en P "__file__" 173 (.str "/claim/cut.py" 172),en P "__cached__" 174 .none,en P "_wall" 193 (.ref 21),en P "SieveError" 213 (.ref 31),en P "TwoChains" 238 (.ref 51),en P "NoChain" 263 (.ref 70),en P "Ring" 289 (.ref 89),en P "TooLong" 314 (.ref 108),en P "OutOfTime" 339 (.ref 127),en P "Taken" 355 (.ref 139),en P "Full" 371 (.ref 151),en P "NoTalk" 387 (.ref 163),en P "holds" 397 (.ref 172),en P "has" 405 (.ref 177),en P "Rule" 444 (.ref 201),en P "Word" 484 (.ref 236),en P "Back" 514 (.ref 262),en P "Call" 554 (.ref 295),en P "rule_of" 561 (.ref 304),en P "MAIN" 565 (.str "main" 564),en P "MOST_LENGTH" 567 (.int 120 566),en P "called_names" 573 (.ref 309),en P "refuse_two_chains" 582 (.ref 316),en P "refuse_missing_chains" 591 (.ref 323),en P "ready_names" 597 (.ref 328),en P "chain_lengths" 603 (.ref 333),en P "first_unmeasured" 609 (.ref 338),en P "ring_among" 619 (.ref 345),en P "Book" 694 (.ref 400),en P "copy_of" 702 (.ref 411),en P "changed" 714 (.ref 418),en P "free_or_none" 723 (.ref 425),en P "choice_by" 734 (.ref 432),en P "choice" 744 (.ref 439),en P "read_through" 759 (.ref 446),en P "word_of" 767 (.ref 453)] 43
def z9d:Obj:=nO (t3 [(1,0,20),(5,0,27),(7,0,40),(12,0,59),(17,0,78),(23,0,97),(28,0,116),(33,0,135),(35,0,147),(37,0,159),(40,0,171),(43,0,176),(46,0,183),(53,0,211),(64,0,244),(71,0,270),(82,0,303),(91,0,308),(93,0,315),(97,0,322),(102,0,327),(109,0,332),(118,0,337),(120,0,344),(127,0,351),(167,0,410),(171,0,417),(175,0,424),(177,0,431),(183,0,438),(191,0,445),(208,0,452)])
def z9e:Obj:=⟨.type "type",none,(.cls ⟨"Rule",[.type "object"],[.ref 201,.type "object"],200,"Rule",true,[],[.ref 236,.ref 262,.ref 295],false,none,false⟩),⟨[none,none,(some (.str "Rule" 408)),(some (.str "Rule" 416)),(some (.builtin "object.__new__")),(some (.bool true))]⟩⟩
def z9f (P:Params):Obj:=dO [en P "__module__" 492 (.str "sieve.rules" 406),en P "__qualname__" 494 (.str "Back" 493),en P "__firstlineno__" 496 (.int 64 495),en P "told" 503 (.ref 252),en P "head" 510 (.ref 259),en P "__static_attributes__" 511 (.ref 260)] 6
def za0:Obj:=nO (t3 [(66,4,251),(69,4,258)])
def za1:Obj:=cH "Back" 487 64 242 490
def za2:Obj:=rO 244 3 241 (.str "sieve.rules" 406)
def za3:Obj:=tS ["self"] 500
def za4:Obj:=nF "told" "Back.told" s_Back_told
def za5:Obj:=cF "told" 497 "Back.told" 66 1 246 501
def za6:Obj:=uG "told" "Back.told" s_Back_told m4 251
def za7:Obj:=tS ["self"] 507
def za8:Obj:=nF "head" "Back.head" s_Back_head
def za9:Obj:=cF "head" 504 "Back.head" 69 1 253 508
def zaa:Obj:=uG "head" "Back.head" s_Back_head m4 258
def zab (P:Params):Obj:=dO [en P "__module__" 492 (.str "sieve.rules" 406),en P "__firstlineno__" 496 (.int 64 495),en P "told" 503 (.ref 252),en P "head" 510 (.ref 259),en P "__static_attributes__" 511 (.ref 260),en P "__doc__" 512 .none] 2
def zac:Obj:=⟨.type "type",none,(.cls ⟨"Back",[.ref 201],[.ref 262,.ref 201,.type "object"],261,"Back",true,[],[],false,none,false⟩),⟨[(some (.ref 239)),none,(some (.str "Back" 485)),(some (.str "Back" 493)),(some (.builtin "object.__new__")),(some (.bool true))]⟩⟩
def zad:Obj:=sO 262
def zae:Obj:=bO 262
def zaf (P:Params):Obj:=dO [en P "__module__" 522 (.str "sieve.rules" 406),en P "__qualname__" 524 (.str "Call" 523),en P "__firstlineno__" 526 (.int 71 525),en P "__init__" 535 (.ref 278),en P "told" 542 (.ref 285),en P "head" 549 (.ref 292),en P "__static_attributes__" 551 (.ref 293)] 7
def zb0:Obj:=nO (t3 [(73,4,277),(77,4,284),(80,4,291)])
def zb1:Obj:=cH "Call" 517 71 268 520
def zb2:Obj:=rO 270 3 267 (.str "sieve.rules" 406)
def zb3:Obj:=tS ["self","box","name"] 530
def zb4:Obj:=nF "__init__" "Call.__init__" s_Call___init__
def zb5:Obj:=cF "__init__" 527 "Call.__init__" 73 3 272 533
def zb6:Obj:=uG "__init__" "Call.__init__" s_Call___init__ m4 277
def zb7:Obj:=tS ["self"] 539
def zb8:Obj:=nF "told" "Call.told" s_Call_told
def zb9:Obj:=cF "told" 536 "Call.told" 77 1 279 540
def zba:Obj:=uG "told" "Call.told" s_Call_told m4 284
def zbb:Obj:=tS ["self"] 546
def zbc:Obj:=nF "head" "Call.head" s_Call_head
def zbd:Obj:=cF "head" 543 "Call.head" 80 1 286 547
def zbe:Obj:=uG "head" "Call.head" s_Call_head m4 291
def zbf:Obj:=tS ["name"] 550
def zc0 (P:Params):Obj:=dO [en P "__module__" 522 (.str "sieve.rules" 406),en P "__firstlineno__" 526 (.int 71 525),en P "__init__" 535 (.ref 278),en P "told" 542 (.ref 285),en P "head" 549 (.ref 292),en P "__static_attributes__" 551 (.ref 293),en P "__doc__" 552 .none] 2
def zc1:Obj:=⟨.type "type",none,(.cls ⟨"Call",[.ref 201],[.ref 295,.ref 201,.type "object"],294,"Call",true,[],[],false,none,false⟩),⟨[(some (.ref 265)),none,(some (.str "Call" 515)),(some (.str "Call" 523)),(some (.builtin "object.__new__")),(some (.bool true))]⟩⟩
def zc2:Obj:=sO 295
def zc3:Obj:=bO 295
def zc4:Obj:=tS ["told"] 558
def zc5:Obj:=nG "rule_of" s_rule_of
def zc6:Obj:=cF "rule_of" 555 "rule_of" 82 1 298 559
def zc7:Obj:=uH "rule_of" s_rule_of m4 303
def zc8:Obj:=nG "called_names" s_called_names
def zc9:Obj:=cG "called_names" 568 "called_names" 91 1 305 571
def zca:Obj:=uH "called_names" s_called_names m5 308
def zcb:Obj:=tS ["names","place","name"] 577
def zcc:Obj:=nG "refuse_two_chains" s_refuse_two_chains
def zcd:Obj:=cF "refuse_two_chains" 574 "refuse_two_chains" 93 1 310 580
def zce:Obj:=uH "refuse_two_chains" s_refuse_two_chains m5 315
def zcf:Obj:=tS ["chains","name","called"] 586
def zd0:Obj:=nG "refuse_missing_chains" s_refuse_missing_chains
def zd1:Obj:=cF "refuse_missing_chains" 583 "refuse_missing_chains" 97 1 317 589
def zd2:Obj:=uH "refuse_missing_chains" s_refuse_missing_chains m5 322
def zd3:Obj:=nG "ready_names" s_ready_names
def zd4:Obj:=cG "ready_names" 592 "ready_names" 102 2 324 595
def zd5:Obj:=uH "ready_names" s_ready_names m5 327
def zd6:Obj:=nG "chain_lengths" s_chain_lengths
def zd7:Obj:=cG "chain_lengths" 598 "chain_lengths" 109 1 329 601
def zd8:Obj:=uH "chain_lengths" s_chain_lengths m5 332
def zd9:Obj:=nG "first_unmeasured" s_first_unmeasured
def zda:Obj:=cG "first_unmeasured" 604 "first_unmeasured" 118 2 334 607
def zdb:Obj:=uH "first_unmeasured" s_first_unmeasured m5 337
def zdc:Obj:=tS ["chains","lengths","walked","name"] 613
def zdd:Obj:=nG "ring_among" s_ring_among
def zde:Obj:=cF "ring_among" 610 "ring_among" 120 2 339 617
def zdf:Obj:=uH "ring_among" s_ring_among m5 344
def ze0 (P:Params):Obj:=dO [en P "__module__" 627 (.str "sieve.books" 562),en P "__qualname__" 629 (.str "Book" 628),en P "__firstlineno__" 631 (.int 127 630),en P "__init__" 637 (.ref 357),en P "chain_names" 644 (.ref 364),en P "chain" 652 (.ref 371),en P "rule_at" 662 (.ref 378),en P "length" 669 (.ref 385),en P "length_of" 677 (.ref 392),en P "told" 683 (.ref 397),en P "__static_attributes__" 687 (.ref 398)] 11
def ze1:Obj:=nO (t3 [(129,4,356),(144,4,363),(147,4,370),(152,4,377),(156,4,384),(159,4,391),(162,4,396)])
def ze2:Obj:=cH "Book" 622 127 349 625
def ze3:Obj:=rO 351 3 348 (.str "sieve.books" 562)
def ze4:Obj:=nF "__init__" "Book.__init__" s_Book___init__
def ze5:Obj:=cG "__init__" 632 "Book.__init__" 129 3 353 635
def ze6:Obj:=uG "__init__" "Book.__init__" s_Book___init__ m5 356
def ze7:Obj:=tS ["self"] 641
def ze8:Obj:=nF "chain_names" "Book.chain_names" s_Book_chain_names
def ze9:Obj:=cF "chain_names" 638 "Book.chain_names" 144 1 358 642
def zea:Obj:=uG "chain_names" "Book.chain_names" s_Book_chain_names m5 363
def zeb:Obj:=tS ["self","name"] 648
def zec:Obj:=nF "chain" "Book.chain" s_Book_chain
def zed:Obj:=cF "chain" 645 "Book.chain" 147 2 365 650
def zee:Obj:=uG "chain" "Book.chain" s_Book_chain m5 370
def zef:Obj:=tS ["self","name","index","rules"] 656
def zf0:Obj:=nF "rule_at" "Book.rule_at" s_Book_rule_at
def zf1:Obj:=cF "rule_at" 653 "Book.rule_at" 152 3 372 660
def zf2:Obj:=uG "rule_at" "Book.rule_at" s_Book_rule_at m5 377
def zf3:Obj:=tS ["self"] 666
def zf4:Obj:=nF "length" "Book.length" s_Book_length
def zf5:Obj:=cF "length" 663 "Book.length" 156 1 379 667
def zf6:Obj:=uG "length" "Book.length" s_Book_length m5 384
def zf7:Obj:=tS ["self","name"] 673
def zf8:Obj:=nF "length_of" "Book.length_of" s_Book_length_of
def zf9:Obj:=cF "length_of" 670 "Book.length_of" 159 2 386 675
def zfa:Obj:=uG "length_of" "Book.length_of" s_Book_length_of m5 391
def zfb:Obj:=nF "told" "Book.told" s_Book_told
def zfc:Obj:=cG "told" 678 "Book.told" 162 1 393 681
def zfd:Obj:=uG "told" "Book.told" s_Book_told m5 396
def zfe:Obj:=tS ["chains","default","lengths"] 684
def zff (P:Params):Obj:=dO [en P "__module__" 627 (.str "sieve.books" 562),en P "__firstlineno__" 631 (.int 127 630),en P "__init__" 637 (.ref 357),en P "chain_names" 644 (.ref 364),en P "chain" 652 (.ref 371),en P "rule_at" 662 (.ref 378),en P "length" 669 (.ref 385),en P "length_of" 677 (.ref 392),en P "told" 683 (.ref 397),en P "__static_attributes__" 687 (.ref 398),en P "__dict__" 689 (.ref 401),en P "__weakref__" 691 (.ref 402),en P "__doc__" 692 .none] 4
def z100:Obj:=⟨.type "type",none,(.cls ⟨"Book",[.type "object"],[.ref 400,.type "object"],399,"Book",true,[],[],false,none,false⟩),⟨[none,none,(some (.str "Book" 620)),(some (.str "Book" 628)),(some (.builtin "object.__new__")),(some (.bool true))]⟩⟩
def z101:Obj:=⟨.type "getset_descriptor",none,(.fields ⟨[.str "__dict__" 688,.ref 400,.builtin "function.__dict__",.builtin "function.__dict__#set"]⟩),⟨[]⟩⟩
def z102:Obj:=⟨.type "getset_descriptor",none,(.fields ⟨[.str "__weakref__" 690,.ref 400,.builtin "ExceptionGroup.__weakref__",.none]⟩),⟨[]⟩⟩
def z103:Obj:=sO 400
def z104:Obj:=bO 400
def z105:Obj:=tS ["book","told"] 698
def z106:Obj:=nG "copy_of" s_copy_of
def z107:Obj:=cF "copy_of" 695 "copy_of" 167 1 405 700
def z108:Obj:=uH "copy_of" s_copy_of m5 410
def z109:Obj:=tS ["label","side","address","door"] 708
def z10a:Obj:=nG "changed" s_changed
def z10b:Obj:=cF "changed" 705 "changed" 171 4 412 712
def z10c:Obj:=uH "changed" s_changed m6 417
def z10d:Obj:=tS ["label","sent","table"] 718
def z10e:Obj:=nG "free_or_none" s_free_or_none
def z10f:Obj:=cF "free_or_none" 715 "free_or_none" 175 3 419 721
def z110:Obj:=uH "free_or_none" s_free_or_none m6 424
def z111:Obj:=tS ["change","label","table","door","sent"] 727
def z112:Obj:=nG "choice_by" s_choice_by
def z113:Obj:=cF "choice_by" 724 "choice_by" 177 3 426 732
def z114:Obj:=uH "choice_by" s_choice_by m6 431
def z115:Obj:=tS ["changes","label","table","change"] 738
def z116:Obj:=nG "choice" s_choice
def z117:Obj:=cF "choice" 735 "choice" 183 3 433 742
def z118:Obj:=uH "choice" s_choice m6 438
def z119:Obj:=tS ["book","parcel","looked","places","place","rule","fits"] 750
def z11a:Obj:=nG "read_through" s_read_through
def z11b:Obj:=cF "read_through" 747 "read_through" 191 2 440 757
def z11c:Obj:=uH "read_through" s_read_through m7 445
def z11d:Obj:=tS ["book","parcel"] 763
def z11e:Obj:=nG "word_of" s_word_of
def z11f:Obj:=cF "word_of" 760 "word_of" 208 2 447 765
def z120:Obj:=uH "word_of" s_word_of m7 452
def z121 (P:Params):Obj:=dO [en P "__name__" 165 (.str "law_sieve_k49_parcels_at_a_gate" 999),en P "__doc__" 166 .none,en P "__package__" 167 .none,en P "__loader__" 168 (.builtin "__main__.__loader__#opaque"),en P "__spec__" 169 .none,en P "__annotations__" 170 (.ref 6),en P "__builtins__" 171 (.ref 4),en P "__file__" 173 (.str "/claim/cut.py" 172),en P "__cached__" 174 .none,en P "_wall" 193 (.ref 21),en P "SieveError" 213 (.ref 31),en P "TwoChains" 238 (.ref 51),en P "NoChain" 263 (.ref 70),en P "Ring" 289 (.ref 89),en P "TooLong" 314 (.ref 108),en P "OutOfTime" 339 (.ref 127),en P "Taken" 355 (.ref 139),en P "Full" 371 (.ref 151),en P "NoTalk" 387 (.ref 163),en P "holds" 397 (.ref 172),en P "has" 405 (.ref 177),en P "Rule" 444 (.ref 201),en P "Word" 484 (.ref 236),en P "Back" 514 (.ref 262),en P "Call" 554 (.ref 295),en P "rule_of" 561 (.ref 304),en P "MAIN" 565 (.str "main" 564),en P "MOST_LENGTH" 567 (.int 120 566),en P "called_names" 573 (.ref 309),en P "refuse_two_chains" 582 (.ref 316),en P "refuse_missing_chains" 591 (.ref 323),en P "ready_names" 597 (.ref 328),en P "chain_lengths" 603 (.ref 333),en P "first_unmeasured" 609 (.ref 338),en P "ring_among" 619 (.ref 345),en P "Book" 694 (.ref 400),en P "copy_of" 702 (.ref 411),en P "changed" 714 (.ref 418),en P "free_or_none" 723 (.ref 425),en P "choice_by" 734 (.ref 432),en P "choice" 744 (.ref 439),en P "read_through" 759 (.ref 446),en P "word_of" 767 (.ref 453),en P "flip" 776 (.ref 460),en P "Talk" 827 (.ref 491),en P "Table" 925 (.ref 562),en P "Gate" 998 (.ref 612),en P "_law_cell_at" 1008 (.ref 623),en P "_law_stream" 1019 (.ref 630),en P "_law_flip" 1026 (.ref 637),en P "_law_ends" 1038 (.ref 644),en P "_law_label" 1048 (.ref 651),en P "_law_rules" 1064 (.ref 658),en P "_law_changes" 1081 (.ref 665),en P "_law_in" 1087 (.ref 670),en P "_law_at" 1096 (.ref 677),en P "_law_turn" 1105 (.ref 684)] 57
def z122:Obj:=nO (t3 [(1,0,20),(5,0,27),(7,0,40),(12,0,59),(17,0,78),(23,0,97),(28,0,116),(33,0,135),(35,0,147),(37,0,159),(40,0,171),(43,0,176),(46,0,183),(53,0,211),(64,0,244),(71,0,270),(82,0,303),(91,0,308),(93,0,315),(97,0,322),(102,0,327),(109,0,332),(118,0,337),(120,0,344),(127,0,351),(167,0,410),(171,0,417),(175,0,424),(177,0,431),(183,0,438),(191,0,445),(208,0,452),(211,0,459),(213,0,466),(228,0,501),(288,0,572),(317,0,622),(321,0,629),(328,0,636),(330,0,643),(337,0,650),(340,0,657),(351,0,664),(363,0,669),(365,0,676),(370,0,683)])
def z123:Obj:=tS ["label"] 773
def z124:Obj:=nG "flip" s_flip
def z125:Obj:=cF "flip" 770 "flip" 211 1 454 774
def z126:Obj:=uH "flip" s_flip m8 459
def z127 (P:Params):Obj:=dO [en P "__module__" 784 (.str "sieve.talks" 768),en P "__qualname__" 786 (.str "Talk" 785),en P "__firstlineno__" 788 (.int 213 787),en P "__init__" 798 (.ref 474),en P "has_both_farewells" 805 (.ref 481),en P "outgoing" 813 (.ref 488),en P "__static_attributes__" 820 (.ref 489)] 7
def z128:Obj:=nO (t3 [(215,4,473),(223,4,480),(226,4,487)])
def z129:Obj:=cH "Talk" 779 213 464 782
def z12a:Obj:=rO 466 3 463 (.str "sieve.talks" 768)
def z12b:Obj:=tS ["self","label","sent","until"] 792
def z12c:Obj:=nF "__init__" "Talk.__init__" s_Talk___init__
def z12d:Obj:=cF "__init__" 789 "Talk.__init__" 215 4 468 796
def z12e:Obj:=uG "__init__" "Talk.__init__" s_Talk___init__ m8 473
def z12f:Obj:=tS ["self"] 802
def z130:Obj:=nF "has_both_farewells" "Talk.has_both_farewells" s_Talk_has_both_farewells
def z131:Obj:=cF "has_both_farewells" 799 "Talk.has_both_farewells" 223 1 475 803
def z132:Obj:=uG "has_both_farewells" "Talk.has_both_farewells" s_Talk_has_both_farewells m8 480
def z133:Obj:=tS ["self","label"] 809
def z134:Obj:=nF "outgoing" "Talk.outgoing" s_Talk_outgoing
def z135:Obj:=cF "outgoing" 806 "Talk.outgoing" 226 2 482 811
def z136:Obj:=uG "outgoing" "Talk.outgoing" s_Talk_outgoing m8 487
def z137:Obj:=tS ["answered","back","farewells","onward","sent","until"] 814
def z138 (P:Params):Obj:=dO [en P "__module__" 784 (.str "sieve.talks" 768),en P "__firstlineno__" 788 (.int 213 787),en P "__init__" 798 (.ref 474),en P "has_both_farewells" 805 (.ref 481),en P "outgoing" 813 (.ref 488),en P "__static_attributes__" 820 (.ref 489),en P "__dict__" 822 (.ref 492),en P "__weakref__" 824 (.ref 493),en P "__doc__" 825 .none] 4
def z139:Obj:=⟨.type "type",none,(.cls ⟨"Talk",[.type "object"],[.ref 491,.type "object"],490,"Talk",true,[],[],false,none,false⟩),⟨[none,none,(some (.str "Talk" 777)),(some (.str "Talk" 785)),(some (.builtin "object.__new__")),(some (.bool true))]⟩⟩
def z13a:Obj:=⟨.type "getset_descriptor",none,(.fields ⟨[.str "__dict__" 821,.ref 491,.builtin "function.__dict__",.builtin "function.__dict__#set"]⟩),⟨[]⟩⟩
def z13b:Obj:=⟨.type "getset_descriptor",none,(.fields ⟨[.str "__weakref__" 823,.ref 491,.builtin "ExceptionGroup.__weakref__",.none]⟩),⟨[]⟩⟩
def z13c:Obj:=sO 491
def z13d:Obj:=bO 491
def z13e (P:Params):Obj:=dO [en P "__module__" 835 (.str "sieve.talks" 768),en P "__qualname__" 837 (.str "Table" 836),en P "__firstlineno__" 839 (.int 228 838),en P "__init__" 849 (.ref 509),en P "keep" 858 (.ref 516),en P "at" 864 (.ref 521),en P "turn" 873 (.ref 528),en P "free" 883 (.ref 535),en P "begin" 892 (.ref 542),en P "go_on" 898 (.ref 547),en P "is_full" 905 (.ref 554),en P "standing" 911 (.ref 559),en P "__static_attributes__" 918 (.ref 560)] 13
def z13f:Obj:=nO (t3 [(230,4,508),(238,4,515),(245,4,520),(251,4,527),(259,4,534),(263,4,541),(270,4,546),(282,4,553),(285,4,558)])
def z140:Obj:=cH "Table" 830 228 499 833
def z141:Obj:=rO 501 3 498 (.str "sieve.talks" 768)
def z142:Obj:=tS ["self","short","long","most"] 843
def z143:Obj:=nF "__init__" "Table.__init__" s_Table___init__
def z144:Obj:=cF "__init__" 840 "Table.__init__" 230 4 503 847
def z145:Obj:=uG "__init__" "Table.__init__" s_Table___init__ m8 508
def z146:Obj:=tS ["self","talks","talk"] 853
def z147:Obj:=nF "keep" "Table.keep" s_Table_keep
def z148:Obj:=cF "keep" 850 "Table.keep" 238 2 510 856
def z149:Obj:=uG "keep" "Table.keep" s_Table_keep m8 515
def z14a:Obj:=nF "at" "Table.at" s_Table_at
def z14b:Obj:=cG "at" 859 "Table.at" 245 2 517 862
def z14c:Obj:=uG "at" "Table.at" s_Table_at m8 520
def z14d:Obj:=tS ["self","label","talk"] 868
def z14e:Obj:=nF "turn" "Table.turn" s_Table_turn
def z14f:Obj:=cF "turn" 865 "Table.turn" 251 2 522 871
def z150:Obj:=uG "turn" "Table.turn" s_Table_turn m8 527
def z151:Obj:=tS ["self","label","sent","back"] 877
def z152:Obj:=nF "free" "Table.free" s_Table_free
def z153:Obj:=cF "free" 874 "Table.free" 259 3 529 881
def z154:Obj:=uG "free" "Table.free" s_Table_free m8 534
def z155:Obj:=tS ["self","label","sent"] 887
def z156:Obj:=nF "begin" "Table.begin" s_Table_begin
def z157:Obj:=cF "begin" 884 "Table.begin" 263 3 536 890
def z158:Obj:=uG "begin" "Table.begin" s_Table_begin m8 541
def z159:Obj:=nF "go_on" "Table.go_on" s_Table_go_on
def z15a:Obj:=cG "go_on" 893 "Table.go_on" 270 3 543 896
def z15b:Obj:=uG "go_on" "Table.go_on" s_Table_go_on m8 546
def z15c:Obj:=tS ["self"] 902
def z15d:Obj:=nF "is_full" "Table.is_full" s_Table_is_full
def z15e:Obj:=cF "is_full" 899 "Table.is_full" 282 1 548 903
def z15f:Obj:=uG "is_full" "Table.is_full" s_Table_is_full m8 553
def z160:Obj:=nF "standing" "Table.standing" s_Table_standing
def z161:Obj:=cG "standing" 906 "Table.standing" 285 1 555 909
def z162:Obj:=uG "standing" "Table.standing" s_Table_standing m8 558
def z163:Obj:=tS ["by_key","long","most","short","talks","time"] 912
def z164 (P:Params):Obj:=dO [en P "__module__" 835 (.str "sieve.talks" 768),en P "__firstlineno__" 839 (.int 228 838),en P "__init__" 849 (.ref 509),en P "keep" 858 (.ref 516),en P "at" 864 (.ref 521),en P "turn" 873 (.ref 528),en P "free" 883 (.ref 535),en P "begin" 892 (.ref 542),en P "go_on" 898 (.ref 547),en P "is_full" 905 (.ref 554),en P "standing" 911 (.ref 559),en P "__static_attributes__" 918 (.ref 560),en P "__dict__" 920 (.ref 563),en P "__weakref__" 922 (.ref 564),en P "__doc__" 923 .none] 4
def z165:Obj:=⟨.type "type",none,(.cls ⟨"Table",[.type "object"],[.ref 562,.type "object"],561,"Table",true,[],[],false,none,false⟩),⟨[none,none,(some (.str "Table" 828)),(some (.str "Table" 836)),(some (.builtin "object.__new__")),(some (.bool true))]⟩⟩
def z166:Obj:=⟨.type "getset_descriptor",none,(.fields ⟨[.str "__dict__" 919,.ref 562,.builtin "function.__dict__",.builtin "function.__dict__#set"]⟩),⟨[]⟩⟩
def z167:Obj:=⟨.type "getset_descriptor",none,(.fields ⟨[.str "__weakref__" 921,.ref 562,.builtin "ExceptionGroup.__weakref__",.none]⟩),⟨[]⟩⟩
def z168:Obj:=sO 562
def z169:Obj:=bO 562
def z16a (P:Params):Obj:=dO [en P "__module__" 935 (.str "sieve.gate" 926),en P "__qualname__" 937 (.str "Gate" 936),en P "__firstlineno__" 939 (.int 288 938),en P "__init__" 951 (.ref 580),en P "turn" 959 (.ref 587),en P "standing" 966 (.ref 594),en P "take" 977 (.ref 602),en P "begin_talk" 987 (.ref 609),en P "__static_attributes__" 991 (.ref 610)] 9
def z16b:Obj:=nO (t3 [(290,4,579),(295,4,586),(298,4,593),(301,4,601),(310,4,608)])
def z16c:Obj:=cH "Gate" 930 288 570 933
def z16d:Obj:=rO 572 3 569 (.str "sieve.gate" 926)
def z16e:Obj:=tS ["self","book","changes","short","long","most"] 943
def z16f:Obj:=nF "__init__" "Gate.__init__" s_Gate___init__
def z170:Obj:=cF "__init__" 940 "Gate.__init__" 290 6 574 949
def z171:Obj:=uG "__init__" "Gate.__init__" s_Gate___init__ m9 579
def z172:Obj:=tS ["self","label"] 955
def z173:Obj:=nF "turn" "Gate.turn" s_Gate_turn
def z174:Obj:=cF "turn" 952 "Gate.turn" 295 2 581 957
def z175:Obj:=uG "turn" "Gate.turn" s_Gate_turn m9 586
def z176:Obj:=tS ["self"] 963
def z177:Obj:=nF "standing" "Gate.standing" s_Gate_standing
def z178:Obj:=cF "standing" 960 "Gate.standing" 298 1 588 964
def z179:Obj:=uG "standing" "Gate.standing" s_Gate_standing m9 593
def z17a:Obj:=tO [.bool false]
def z17b:Obj:=tS ["self","moment","label","last","turn"] 970
def z17c:Obj:=nF "take" "Gate.take" s_Gate_take
def z17d:Obj:=cF "take" 967 "Gate.take" 301 4 596 975
def z17e:Obj:=uF "take" "Gate.take" s_Gate_take (.ref 595) .none .none (.str "sieve.gate" 926) (.ref 601) .none
def z17f:Obj:=tS ["self","label","last","sent"] 981
def z180:Obj:=nF "begin_talk" "Gate.begin_talk" s_Gate_begin_talk
def z181:Obj:=cF "begin_talk" 978 "Gate.begin_talk" 310 3 603 985
def z182:Obj:=uG "begin_talk" "Gate.begin_talk" s_Gate_begin_talk m9 608
def z183:Obj:=tS ["book","changes","table"] 988
def z184 (P:Params):Obj:=dO [en P "__module__" 935 (.str "sieve.gate" 926),en P "__firstlineno__" 939 (.int 288 938),en P "__init__" 951 (.ref 580),en P "turn" 959 (.ref 587),en P "standing" 966 (.ref 594),en P "take" 977 (.ref 602),en P "begin_talk" 987 (.ref 609),en P "__static_attributes__" 991 (.ref 610),en P "__dict__" 993 (.ref 613),en P "__weakref__" 995 (.ref 614),en P "__doc__" 996 .none] 4
def z185:Obj:=⟨.type "type",none,(.cls ⟨"Gate",[.type "object"],[.ref 612,.type "object"],611,"Gate",true,[],[],false,none,false⟩),⟨[none,none,(some (.str "Gate" 928)),(some (.str "Gate" 936)),(some (.builtin "object.__new__")),(some (.bool true))]⟩⟩
def z186:Obj:=⟨.type "getset_descriptor",none,(.fields ⟨[.str "__dict__" 992,.ref 612,.builtin "function.__dict__",.builtin "function.__dict__#set"]⟩),⟨[]⟩⟩
def z187:Obj:=⟨.type "getset_descriptor",none,(.fields ⟨[.str "__weakref__" 994,.ref 612,.builtin "ExceptionGroup.__weakref__",.none]⟩),⟨[]⟩⟩
def z188:Obj:=sO 612
def z189:Obj:=bO 612
def z18a:Obj:=tS ["_law_script","_law_k"] 1004
def z18b:Obj:=nG "_law_cell_at" s__law_cell_at
def z18c:Obj:=cF "_law_cell_at" 1001 "_law_cell_at" 317 2 617 1006
def z18d:Obj:=uH "_law_cell_at" s__law_cell_at m10 622
def z18e:Obj:=tS ["_law_cell","_law_many","_law_found","_law_number","_law_k"] 1012
def z18f:Obj:=nG "_law_stream" s__law_stream
def z190:Obj:=cF "_law_stream" 1009 "_law_stream" 321 2 624 1017
def z191:Obj:=uH "_law_stream" s__law_stream m10 629
def z192:Obj:=tS ["_law_label_here"] 1023
def z193:Obj:=nG "_law_flip" s__law_flip
def z194:Obj:=cF "_law_flip" 1020 "_law_flip" 328 1 631 1024
def z195:Obj:=uH "_law_flip" s__law_flip m10 636
def z196:Obj:=tS ["_law_cell","_law_draws","_law_kind","_law_one","_law_two","_law_kinds"] 1030
def z197:Obj:=nG "_law_ends" s__law_ends
def z198:Obj:=cF "_law_ends" 1027 "_law_ends" 330 1 638 1036
def z199:Obj:=uH "_law_ends" s__law_ends m10 643
def z19a:Obj:=tS ["_law_draw","_law_ends_here","_law_kinds","_law_some"] 1042
def z19b:Obj:=nG "_law_label" s__law_label
def z19c:Obj:=cF "_law_label" 1039 "_law_label" 337 2 645 1046
def z19d:Obj:=uH "_law_label" s__law_label m10 650
def z19e:Obj:=tS ["_law_cell","_law_ends_here","_law_rules_here","_law_k","_law_draws","_law_low","_law_turns","_law_address","_law_receivers","_law_box"] 1052
def z19f:Obj:=nG "_law_rules" s__law_rules
def z1a0:Obj:=cF "_law_rules" 1049 "_law_rules" 340 2 652 1062
def z1a1:Obj:=uH "_law_rules" s__law_rules m10 657
def z1a2:Obj:=tS ["_law_cell","_law_ends_here","_law_changes_here","_law_k","_law_draws","_law_one","_law_senders","_law_box","_law_other","_law_low","_law_side"] 1068
def z1a3:Obj:=nG "_law_changes" s__law_changes
def z1a4:Obj:=cF "_law_changes" 1065 "_law_changes" 351 2 659 1079
def z1a5:Obj:=uH "_law_changes" s__law_changes m10 664
def z1a6:Obj:=nG "_law_in" s__law_in
def z1a7:Obj:=cG "_law_in" 1082 "_law_in" 363 2 666 1085
def z1a8:Obj:=uH "_law_in" s__law_in m10 669
def z1a9:Obj:=tS ["_law_talks","_law_label_here","_law_k"] 1091
def z1aa:Obj:=nG "_law_at" s__law_at
def z1ab:Obj:=cF "_law_at" 1088 "_law_at" 365 2 671 1094
def z1ac:Obj:=uH "_law_at" s__law_at m10 676
def z1ad:Obj:=tS ["_law_talks","_law_label_here","_law_at_here"] 1100
def z1ae:Obj:=nG "_law_turn" s__law_turn
def z1af:Obj:=cF "_law_turn" 1097 "_law_turn" 370 2 678 1103
def z1b0:Obj:=uH "_law_turn" s__law_turn m10 683
def z1b1 (P:Params):Obj:=dO [en P "__name__" 165 (.str "law_sieve_k49_parcels_at_a_gate" 999),en P "__doc__" 166 .none,en P "__package__" 167 .none,en P "__loader__" 168 (.builtin "__main__.__loader__#opaque"),en P "__spec__" 169 .none,en P "__annotations__" 170 (.ref 6),en P "__builtins__" 171 (.ref 4),en P "__file__" 173 (.str "/claim/cut.py" 172),en P "__cached__" 174 .none,en P "_wall" 193 (.ref 21),en P "SieveError" 213 (.ref 31),en P "TwoChains" 238 (.ref 51),en P "NoChain" 263 (.ref 70),en P "Ring" 289 (.ref 89),en P "TooLong" 314 (.ref 108),en P "OutOfTime" 339 (.ref 127),en P "Taken" 355 (.ref 139),en P "Full" 371 (.ref 151),en P "NoTalk" 387 (.ref 163),en P "holds" 397 (.ref 172),en P "has" 405 (.ref 177),en P "Rule" 444 (.ref 201),en P "Word" 484 (.ref 236),en P "Back" 514 (.ref 262),en P "Call" 554 (.ref 295),en P "rule_of" 561 (.ref 304),en P "MAIN" 565 (.str "main" 564),en P "MOST_LENGTH" 567 (.int 120 566),en P "called_names" 573 (.ref 309),en P "refuse_two_chains" 582 (.ref 316),en P "refuse_missing_chains" 591 (.ref 323),en P "ready_names" 597 (.ref 328),en P "chain_lengths" 603 (.ref 333),en P "first_unmeasured" 609 (.ref 338),en P "ring_among" 619 (.ref 345),en P "Book" 694 (.ref 400),en P "copy_of" 702 (.ref 411),en P "changed" 714 (.ref 418),en P "free_or_none" 723 (.ref 425),en P "choice_by" 734 (.ref 432),en P "choice" 744 (.ref 439),en P "read_through" 759 (.ref 446),en P "word_of" 767 (.ref 453),en P "flip" 776 (.ref 460),en P "Talk" 827 (.ref 491),en P "Table" 925 (.ref 562),en P "Gate" 998 (.ref 612),en P "_law_cell_at" 1008 (.ref 623),en P "_law_stream" 1019 (.ref 630),en P "_law_flip" 1026 (.ref 637),en P "_law_ends" 1038 (.ref 644),en P "_law_label" 1048 (.ref 651),en P "_law_rules" 1064 (.ref 658),en P "_law_changes" 1081 (.ref 665),en P "_law_in" 1087 (.ref 670),en P "_law_at" 1096 (.ref 677),en P "_law_turn" 1105 (.ref 684),en P "_law_choice" 1111 (.ref 689),en P "_law_going" 1131 (.ref 696),en P "_law_due" 1150 (.ref 703),en P "_law_parcel" 1162 (.ref 710),en P "_law_book" 1173 (.ref 717),en P "law" 1179 (.ref 722)] 63
def z1b2:Obj:=nO (t3 [(1,0,20),(5,0,27),(7,0,40),(12,0,59),(17,0,78),(23,0,97),(28,0,116),(33,0,135),(35,0,147),(37,0,159),(40,0,171),(43,0,176),(46,0,183),(53,0,211),(64,0,244),(71,0,270),(82,0,303),(91,0,308),(93,0,315),(97,0,322),(102,0,327),(109,0,332),(118,0,337),(120,0,344),(127,0,351),(167,0,410),(171,0,417),(175,0,424),(177,0,431),(183,0,438),(191,0,445),(208,0,452),(211,0,459),(213,0,466),(228,0,501),(288,0,572),(317,0,622),(321,0,629),(328,0,636),(330,0,643),(337,0,650),(340,0,657),(351,0,664),(363,0,669),(365,0,676),(370,0,683),(377,0,688),(389,0,695),(402,0,702),(416,0,709),(426,0,716),(434,0,721)])
def z1b3:Obj:=nG "_law_choice" s__law_choice
def z1b4:Obj:=cG "_law_choice" 1106 "_law_choice" 377 3 685 1109
def z1b5:Obj:=uH "_law_choice" s__law_choice m10 688
def z1b6:Obj:=tS ["_law_talks","_law_at_here","_law_label_here","_law_last","_law_time","_law_spans","_law_came","_law_sent","_law_answered","_law_until","_law_onward","_law_back","_law_out","_law_talk"] 1115
def z1b7:Obj:=nG "_law_going" s__law_going
def z1b8:Obj:=cF "_law_going" 1112 "_law_going" 389 6 690 1129
def z1b9:Obj:=uH "_law_going" s__law_going m10 695
def z1ba:Obj:=tS ["_law_rules_here","_law_default","_law_changes_here","_law_talks","_law_spans","_law_parcel_here","_law_time","_law_label_here","_law_last","_law_turn_here","_law_word","_law_box","_law_sent"] 1135
def z1bb:Obj:=nG "_law_due" s__law_due
def z1bc:Obj:=cF "_law_due" 1132 "_law_due" 402 6 697 1148
def z1bd:Obj:=uH "_law_due" s__law_due m10 702
def z1be:Obj:=tS ["_law_talks","_law_time","_law_draws","_law_ends_here","_law_label_here","_law_talk"] 1154
def z1bf:Obj:=nG "_law_parcel" s__law_parcel
def z1c0:Obj:=cF "_law_parcel" 1151 "_law_parcel" 416 4 704 1160
def z1c1:Obj:=uH "_law_parcel" s__law_parcel m10 709
def z1c2:Obj:=tS ["_law_default","_law_rules_here","_law_way","_law_whole","_law_inner"] 1166
def z1c3:Obj:=nG "_law_book" s__law_book
def z1c4:Obj:=cF "_law_book" 1163 "_law_book" 426 3 711 1171
def z1c5:Obj:=uH "_law_book" s__law_book m10 716
def z1c6:Obj:=nG "law" s_law
def z1c7:Obj:=cG "law" 1174 "law" 434 1 718 1177
def z1c8:Obj:=uH "law" s_law m10 721
abbrev hp:Program:=PySem.Challenge.pw_sieve_k49_parcels_at_a_gate
def hEnv:Env:={ scope:=PySem.Challenge.pw_sieve_k49_parcels_at_a_gate.main.scope,locals:=mainNs,globals:=mainNs,cells:=[],code:=.ref 13,frame:=some 14 }
def hB:List Stmt:=behindTheImports PySem.Challenge.pw_sieve_k49_parcels_at_a_gate
abbrev hC:Code:=.body hB hEnv
abbrev hF:List Frame:=[topFrame ⟨0,0,0,0⟩]
abbrev hAnn:Option Value:=(some (.ref 6))
def hA (P:Params):Heap:=⟨⟨[(boot_o_0 P),(boot_o_1 P),(boot_o_2 P),(boot_o_3 P),(boot_o_4 P),(boot_o_5 P),(boot_o_6 P),(boot_o_7 P),(boot_o_8 P),(boot_o_9 P),(boot_o_10 P),(boot_o_7 P),(boot_o_8 P),z0,z1]⟩,{}⟩
def ls0 (P:Params):List Obj:=[(boot_o_0 P),(boot_o_1 P),(boot_o_2 P),(boot_o_3 P),(boot_o_4 P),(boot_o_5 P),(boot_o_6 P),(boot_o_7 P),(boot_o_8 P),(boot_o_9 P),(boot_o_10 P),(boot_o_7 P),(boot_o_8 P),z0,z1]
def tr0 (P:Params):BT:=mkT 14 (ls0 P)
def ls1 (P:Params):List Obj:=(((ls0 P).set 3 (z2 P)).set 12 z3)++[(boot_o_7 P),(boot_o_8 P),z4,(boot_o_7 P),z5,z6,z7,z8,z9,(za P),(boot_o_7 P),(boot_o_8 P),zb,zc,(boot_o_7 P),(zd P),ze,zf,z10,z11,z12,z9,(z13 P),(boot_o_7 P),z14,z15,z16,(boot_o_7 P),(boot_o_8 P),z17,(boot_o_7 P),z18,z19,z1a,z1b,(z1c P),z1d,z1e,z1f,z12,z9,(z20 P),(boot_o_7 P),z21,z22,z23,(boot_o_7 P),(boot_o_8 P),z24,(boot_o_7 P),z25,z26,z27,z28,(z29 P),z2a,z2b,z2c,z12,z9,(z2d P),(boot_o_7 P),z2e,z2f,z30,(boot_o_7 P),(boot_o_8 P),z31,(boot_o_7 P),z32,z33,z34,z35,(z36 P),z37,z38,z39,z12,z9,(z3a P),(boot_o_7 P),z3b,z3c,z3d,(boot_o_7 P),(boot_o_8 P),z3e,(boot_o_7 P),z3f,z40,z41,z42,(z43 P),z44,z45,z46,z12,z9,(z47 P),(boot_o_7 P),z48,z49,z4a,(boot_o_7 P),(boot_o_8 P),z4b,(boot_o_7 P),z4c,z4d,z4e,z4f,(z50 P),z51,z52,z53]
def tr1 (P:Params):BT:=mkT 14 (ls1 P)
def gr1:List Stmt:=(hB.drop 0).take 8
def ls2 (P:Params):List Obj:=((((ls1 P).set 3 (z54 P)).set 12 z55).set 31 z56)++[z12,z9,(z57 P),(boot_o_7 P),(boot_o_8 P),z58,z59,(boot_o_7 P),(z5a P),z5b,z5c,z5d,z12,z9,(z5e P),(boot_o_7 P),(boot_o_8 P),z5f,z60,(boot_o_7 P),(z61 P),z62,z63,z64,z12,z9,(z65 P),(boot_o_7 P),(boot_o_8 P),z66,z67,(boot_o_7 P),(z68 P),z69,z6a,z6b,(boot_o_7 P),(boot_o_8 P),z6c,(boot_o_7 P),z6d,z6e,z6f,(boot_o_7 P),(boot_o_8 P),z70,z71,z72,(boot_o_7 P),z9,(z73 P),(boot_o_7 P),z74,z75,z76,(boot_o_7 P),(boot_o_8 P),z77,(boot_o_7 P),z78,z79,z7a,(boot_o_7 P),(boot_o_8 P),z7b,(boot_o_7 P),z7c,z7d,z7e,z7f,(z80 P),z81,z82,z83,z84,z85,z86,z9,(z87 P),(boot_o_7 P),z88,z89,z8a,(boot_o_7 P),(boot_o_8 P),z8b,(boot_o_7 P),z8c,z8d,z8e,(boot_o_7 P),(boot_o_8 P),z8f,(boot_o_7 P),z90,z91,z92,(boot_o_7 P),(boot_o_8 P),z93,(boot_o_7 P),z94,z95,z96,z97,(z98 P),z99,z9a,z9b]
def tr2 (P:Params):BT:=mkT 14 (ls2 P)
def gr2:List Stmt:=(hB.drop 8).take 10
def ls3 (P:Params):List Obj:=((((ls2 P).set 3 (z9c P)).set 12 z9d).set 201 z9e)++[z86,z9,(z9f P),(boot_o_7 P),za0,za1,za2,(boot_o_7 P),(boot_o_8 P),za3,(boot_o_7 P),za4,za5,za6,(boot_o_7 P),(boot_o_8 P),za7,(boot_o_7 P),za8,za9,zaa,(boot_o_7 P),(zab P),zac,zad,zae,z86,z9,(zaf P),(boot_o_7 P),zb0,zb1,zb2,(boot_o_7 P),(boot_o_8 P),zb3,(boot_o_7 P),zb4,zb5,zb6,(boot_o_7 P),(boot_o_8 P),zb7,(boot_o_7 P),zb8,zb9,zba,(boot_o_7 P),(boot_o_8 P),zbb,(boot_o_7 P),zbc,zbd,zbe,zbf,(zc0 P),zc1,zc2,zc3,(boot_o_7 P),(boot_o_8 P),zc4,(boot_o_7 P),zc5,zc6,zc7,(boot_o_7 P),(boot_o_8 P),zc8,zc9,zca,(boot_o_7 P),(boot_o_8 P),zcb,(boot_o_7 P),zcc,zcd,zce,(boot_o_7 P),(boot_o_8 P),zcf,(boot_o_7 P),zd0,zd1,zd2,(boot_o_7 P),(boot_o_8 P),zd3,zd4,zd5,(boot_o_7 P),(boot_o_8 P),zd6,zd7,zd8,(boot_o_7 P),(boot_o_8 P),zd9,zda,zdb,(boot_o_7 P),(boot_o_8 P),zdc,(boot_o_7 P),zdd,zde,zdf,(boot_o_7 P),z9,(ze0 P),(boot_o_7 P),ze1,ze2,ze3,(boot_o_7 P),(boot_o_8 P),ze4,ze5,ze6,(boot_o_7 P),(boot_o_8 P),ze7,(boot_o_7 P),ze8,ze9,zea,(boot_o_7 P),(boot_o_8 P),zeb,(boot_o_7 P),zec,zed,zee,(boot_o_7 P),(boot_o_8 P),zef,(boot_o_7 P),zf0,zf1,zf2,(boot_o_7 P),(boot_o_8 P),zf3,(boot_o_7 P),zf4,zf5,zf6,(boot_o_7 P),(boot_o_8 P),zf7,(boot_o_7 P),zf8,zf9,zfa,(boot_o_7 P),(boot_o_8 P),zfb,zfc,zfd,zfe,(zff P),z100,z101,z102,z103,z104,(boot_o_7 P),(boot_o_8 P),z105,(boot_o_7 P),z106,z107,z108,(boot_o_7 P),(boot_o_8 P),z109,(boot_o_7 P),z10a,z10b,z10c,(boot_o_7 P),(boot_o_8 P),z10d,(boot_o_7 P),z10e,z10f,z110,(boot_o_7 P),(boot_o_8 P),z111,(boot_o_7 P),z112,z113,z114,(boot_o_7 P),(boot_o_8 P),z115,(boot_o_7 P),z116,z117,z118,(boot_o_7 P),(boot_o_8 P),z119,(boot_o_7 P),z11a,z11b,z11c,(boot_o_7 P),(boot_o_8 P),z11d,(boot_o_7 P),z11e,z11f,z120]
def tr3 (P:Params):BT:=mkT 14 (ls3 P)
def gr3:List Stmt:=(hB.drop 18).take 24
def ls4 (P:Params):List Obj:=(((ls3 P).set 3 (z121 P)).set 12 z122)++[(boot_o_7 P),(boot_o_8 P),z123,(boot_o_7 P),z124,z125,z126,(boot_o_7 P),z9,(z127 P),(boot_o_7 P),z128,z129,z12a,(boot_o_7 P),(boot_o_8 P),z12b,(boot_o_7 P),z12c,z12d,z12e,(boot_o_7 P),(boot_o_8 P),z12f,(boot_o_7 P),z130,z131,z132,(boot_o_7 P),(boot_o_8 P),z133,(boot_o_7 P),z134,z135,z136,z137,(z138 P),z139,z13a,z13b,z13c,z13d,(boot_o_7 P),z9,(z13e P),(boot_o_7 P),z13f,z140,z141,(boot_o_7 P),(boot_o_8 P),z142,(boot_o_7 P),z143,z144,z145,(boot_o_7 P),(boot_o_8 P),z146,(boot_o_7 P),z147,z148,z149,(boot_o_7 P),(boot_o_8 P),z14a,z14b,z14c,(boot_o_7 P),(boot_o_8 P),z14d,(boot_o_7 P),z14e,z14f,z150,(boot_o_7 P),(boot_o_8 P),z151,(boot_o_7 P),z152,z153,z154,(boot_o_7 P),(boot_o_8 P),z155,(boot_o_7 P),z156,z157,z158,(boot_o_7 P),(boot_o_8 P),z159,z15a,z15b,(boot_o_7 P),(boot_o_8 P),z15c,(boot_o_7 P),z15d,z15e,z15f,(boot_o_7 P),(boot_o_8 P),z160,z161,z162,z163,(z164 P),z165,z166,z167,z168,z169,(boot_o_7 P),z9,(z16a P),(boot_o_7 P),z16b,z16c,z16d,(boot_o_7 P),(boot_o_8 P),z16e,(boot_o_7 P),z16f,z170,z171,(boot_o_7 P),(boot_o_8 P),z172,(boot_o_7 P),z173,z174,z175,(boot_o_7 P),(boot_o_8 P),z176,(boot_o_7 P),z177,z178,z179,z17a,(boot_o_7 P),(boot_o_8 P),z17b,(boot_o_7 P),z17c,z17d,z17e,(boot_o_7 P),(boot_o_8 P),z17f,(boot_o_7 P),z180,z181,z182,z183,(z184 P),z185,z186,z187,z188,z189,(boot_o_7 P),(boot_o_8 P),z18a,(boot_o_7 P),z18b,z18c,z18d,(boot_o_7 P),(boot_o_8 P),z18e,(boot_o_7 P),z18f,z190,z191,(boot_o_7 P),(boot_o_8 P),z192,(boot_o_7 P),z193,z194,z195,(boot_o_7 P),(boot_o_8 P),z196,(boot_o_7 P),z197,z198,z199,(boot_o_7 P),(boot_o_8 P),z19a,(boot_o_7 P),z19b,z19c,z19d,(boot_o_7 P),(boot_o_8 P),z19e,(boot_o_7 P),z19f,z1a0,z1a1,(boot_o_7 P),(boot_o_8 P),z1a2,(boot_o_7 P),z1a3,z1a4,z1a5,(boot_o_7 P),(boot_o_8 P),z1a6,z1a7,z1a8,(boot_o_7 P),(boot_o_8 P),z1a9,(boot_o_7 P),z1aa,z1ab,z1ac,(boot_o_7 P),(boot_o_8 P),z1ad,(boot_o_7 P),z1ae,z1af,z1b0]
def tr4 (P:Params):BT:=mkT 14 (ls4 P)
def gr4:List Stmt:=(hB.drop 42).take 16
def ls5 (P:Params):List Obj:=(((ls4 P).set 3 (z1b1 P)).set 12 z1b2)++[(boot_o_7 P),(boot_o_8 P),z1b3,z1b4,z1b5,(boot_o_7 P),(boot_o_8 P),z1b6,(boot_o_7 P),z1b7,z1b8,z1b9,(boot_o_7 P),(boot_o_8 P),z1ba,(boot_o_7 P),z1bb,z1bc,z1bd,(boot_o_7 P),(boot_o_8 P),z1be,(boot_o_7 P),z1bf,z1c0,z1c1,(boot_o_7 P),(boot_o_8 P),z1c2,(boot_o_7 P),z1c3,z1c4,z1c5,(boot_o_7 P),(boot_o_8 P),z1c6,z1c7,z1c8]
def tr5 (P:Params):BT:=mkT 14 (ls5 P)
def gr5:List Stmt:=(hB.drop 58).take 6
def hZ (P:Params):Heap:=⟨⟨(ls5 P)⟩,{}⟩
theorem pre (w:World):(fun os=>topGo treeTable hp w 11 hAnn 12 ⟨boot_heap w.params,Array.mk [],boot_drawn,boot_toks,os⟩ (topStub hp))=fun os=>some (⟨hA w.params,Array.mk [],{},187,os⟩,⟨denote treeTable hC,hC,⟨0,0,0,0⟩,hF⟩):=by kernel_rfl
theorem blk (w:World):(fun os=>segRun treeTable hp w 11 hAnn 1 1 ⟨hA w.params,Array.mk [],{},187,os⟩ (blockOf hB hEnv hC ⟨0,0,0,0⟩ hF))=fun os=>some (.next,SharedT.abs ⟨tr0 w.params,15,{},Array.mk [],{},187,os⟩,hC,⟨0,0,0,0⟩):=by kernel_rfl
theorem pc1 (w:World):(fun os=>segRunT treeTable hp w 11 hAnn 1 1451 ⟨tr0 w.params,15,{},Array.mk [],{},187,os⟩ (PySem.W.piecesOf gr1 hEnv hC ⟨0,0,0,0⟩ hF))=fun os=>some (.next,⟨tr1 w.params,130,{},Array.mk [],{},340,os⟩,hC,⟨28,0,32,28⟩):=by kernel_rfl
theorem pc2 (w:World):(fun os=>segRunT treeTable hp w 11 hAnn 1 1285 ⟨tr1 w.params,130,{},Array.mk [],{},340,os⟩ (PySem.W.piecesOf gr2 hEnv hC ⟨28,0,32,28⟩ hF))=fun os=>some (.next,⟨tr2 w.params,239,{},Array.mk [],{},485,os⟩,hC,⟨53,0,63,16⟩):=by kernel_rfl
theorem pc3 (w:World):(fun os=>segRunT treeTable hp w 11 hAnn 1 1495 ⟨tr2 w.params,239,{},Array.mk [],{},485,os⟩ (PySem.W.piecesOf gr3 hEnv hC ⟨53,0,63,16⟩ hF))=fun os=>some (.next,⟨tr3 w.params,454,{},Array.mk [],{},770,os⟩,hC,⟨210,0,210,8⟩):=by kernel_rfl
theorem pc4 (w:World):(fun os=>segRunT treeTable hp w 11 hAnn 1 1501 ⟨tr3 w.params,454,{},Array.mk [],{},770,os⟩ (PySem.W.piecesOf gr4 hEnv hC ⟨210,0,210,8⟩ hF))=fun os=>some (.next,⟨tr4 w.params,685,{},Array.mk [],{},1106,os⟩,hC,⟨370,0,376,47⟩):=by kernel_rfl
theorem pc5 (w:World):(fun os=>segRunT treeTable hp w 11 hAnn 1 203 ⟨tr4 w.params,685,{},Array.mk [],{},1106,os⟩ (PySem.W.piecesOf gr5 hEnv hC ⟨370,0,376,47⟩ hF))=fun os=>some (.next,⟨tr5 w.params,723,{},Array.mk [],{},1180,os⟩,hC,⟨434,0,464,88⟩):=by kernel_rfl
theorem fin (w:World):(fun os=>topRun treeTable hp w 11 hAnn 2 (SharedT.abs ⟨tr5 w.params,723,{},Array.mk [],{},1180,os⟩) ⟨doneF .next,hC,⟨434,0,464,88⟩,hF⟩)=fun os=>some ⟨hZ w.params,Array.mk [],{},1180,os⟩:=by kernel_rfl
theorem bodyEq:hB=gr1++(gr2++(gr3++(gr4++(gr5++[])))):=by kernel_rfl
abbrev hM:Nat:=(12+(1+(1451+(1285+(1495+(1501+(203+2)))))))
theorem rest (w:World)(os:OsState):topRun treeTable hp w 11 hAnn (1451+(1285+(1495+(1501+(203+2))))) (SharedT.abs ⟨tr0 w.params,15,{},Array.mk [],{},187,os⟩) (restOf hB hEnv hC ⟨0,0,0,0⟩ hF)=some ⟨hZ w.params,Array.mk [],{},1180,os⟩:=by
 have h:topRun treeTable hp w 11 hAnn (1451+(1285+(1495+(1501+(203+2))))) (SharedT.abs ⟨tr0 w.params,15,{},Array.mk [],{},187,os⟩) (restOf (gr1++(gr2++(gr3++(gr4++(gr5++[]))))) hEnv hC ⟨0,0,0,0⟩ hF)=some ⟨hZ w.params,Array.mk [],{},1180,os⟩:=piece_app (segRun_of (congrFun (pc1 w) os)) (piece_app (segRun_of (congrFun (pc2 w) os)) (piece_app (segRun_of (congrFun (pc3 w) os)) (piece_app (segRun_of (congrFun (pc4 w) os)) (piece_app (segRun_of (congrFun (pc5 w) os)) (piece_nil (congrFun (fin w) os))))))
 rw [← bodyEq] at h
 exact h
theorem run (w:World)(os:OsState):topRun treeTable hp w 11 hAnn hM ⟨boot_heap w.params,Array.mk [],boot_drawn,boot_toks,os⟩ (topStub hp)=some ⟨hZ w.params,Array.mk [],{},1180,os⟩:=go_top (congrFun (pre w) os) (piece_block (congrFun (blk w) os) (rest w os))
theorem opn:∀ w:World,(fencedOpening treeTable hp w 11986).map (fun s=>(s.heap,s.gens,s.drawn,s.toks))=some (boot_heap w.params,Array.mk [],boot_drawn,boot_toks):=boot_open (by kernel_rfl) (by decide) (fun s=>by kernel_rfl)
theorem siz (w:World):((boot_heap w.params).isNs mainGlobals && (Array.mk []:Array GenState).size == 0,(boot_heap w.params).objs.size,(boot_heap w.params).nsMap mainGlobals "__annotations__")=(true,11,hAnn):=by kernel_rfl
end
end Hd
def kept:List Nat:=[0,2,3,4,5,6,7,8,9,10,12,14,16,17,18,19,20,22,23,24,25,26,27,28,29,30,31,32,34,35,36,37,39,40,42,43,44,46,48,49,50,51,52,53,54,55,56,57,58,59,60,61,62,63]
def view:Program:={ PySem.Challenge.pw_sieve_k49_parcels_at_a_gate with main:={ PySem.Challenge.pw_sieve_k49_parcels_at_a_gate.main with body:=kept.filterMap fun i=>PySem.Challenge.pw_sieve_k49_parcels_at_a_gate.main.body[i]? } }
abbrev theRow:PySem.W.OpenRow:=PySem.W.OpenLaw.row PySem.Challenge.rw_sieve_k49_parcels_at_a_gate
noncomputable section
open PySem PySem.W PyProof.Rows Hd
variable (w:World)(os:OsState)
def xt:Shared→Bool:=fun s=>xlAt view [] s && recOk (RowW.records (OpenRow.toRowW theRow)) s
abbrev sZ:Shared:=⟨hZ w.params,Array.mk [],{},1180,os⟩
theorem lk0:seen (List.map (fun x=>x.name) (recsOf view)) (ownsOf view) [] { heap:=(sZ w os).heap,drawn:={},toks:=(sZ w os).toks,os:=os }=(openGood view []).1:=by kernel_rfl
theorem lk1:(sZ w os).heap.bltView=(openGood view []).2.1:=by kernel_rfl
theorem lk2:((sZ w os).heap.keysOk (looseW view []) (List.map (fun x=>x.name) (recsOf view)) (List.map (fun x=>x.fst) (litsOf view)) (List.map (fun x=>x.name) (clssOf view (looseW view []))) && (sZ w os).heap.accountedOkI (importedModules hp.main.body) && (sZ w os).heap.isNs mainGlobals && (sZ w os).heap.isNs builtinsNs && tablesOk view (sZ w os).heap && xt (sZ w os) && if true=true then (sZ w os).gens.size == 0 else !leftWithCleanup (sZ w os).gens)=(openGood view []).2.2.1:=by kernel_rfl
theorem lk3:tabsOk view (sZ w os)=(openGood view []).2.2.2.1:=by kernel_rfl
theorem lk4:pinSeenD view (drecsOf view) (sZ w os)=(openGood view []).2.2.2.2.1:=by kernel_rfl
theorem lk5:plainSeenE view (looseW view []) (sZ w os)=(openGood view []).2.2.2.2.2.1:=by kernel_rfl
theorem lk6:plainSeenD view [] (sZ w os)=(openGood view []).2.2.2.2.2.2.1:=by kernel_rfl
theorem lk7:wideSeen view (sZ w os)=(openGood view []).2.2.2.2.2.2.2.1:=by kernel_rfl
theorem lk8:clsSeenW view [] (sZ w os)=(openGood view []).2.2.2.2.2.2.2.2:=by kernel_rfl
theorem pr2 {α β:Type}{a:α}{b:β}{p:α×β}(h:a=p.1)(k:b=p.2):(a,b)=p:=Prod.ext h k
theorem lk:openSeen view [] (importedModules hp.main.body) xt true (sZ w os)=openGood view []:=pr2 (lk0 w os) (pr2 (lk1 w os) (pr2 (lk2 w os) (pr2 (lk3 w os) (pr2 (lk4 w os) (pr2 (lk5 w os) (pr2 (lk6 w os) (pr2 (lk7 w os) (lk8 w os))))))))
theorem lkA:(staticsOk (importedModules hp.main.body) (boot_heap w.params) (sZ w os).heap && namesBound hp (sZ w os).heap && gensDone (sZ w os) && laidKept (boot_heap w.params) (sZ w os).heap)=true:=by kernel_rfl
end
end K49
open PySem PySem.W PyProof.Rows
local macro_rules | `(tactic| o_head $H)=>`(tactic| (
  refine holds_open (r:=K49.theRow) (q:=K49.view) (loose:=[]) (N:=11986) (YP:=Hook.says $H) (Ya:=Hook.val $H) (Yf:=Hook.obs $H)
    (XP:=XL K49.view []) (Xt:=K49.xt) ?left (Hook.of $H) (Hook.keeps $H)
    (fun s e=>xl_of s (Bool.and_eq_true_iff.mp e).1) XL.keeps (by rfl) (by rfl) (by rfl)
    (fun s e=>recFacts_of (Bool.and_eq_true_iff.mp e).2) (by rfl) (by assumption) (by decide +kernel) ⟨rfl,rfl,rfl,rfl,rfl,by decide +kernel⟩ ?wit ?go
  (case left=>(refine LeftO.of_pieces (p:=K49.Hd.hp) (q:=K49.view) (loose:=[]) (Xt:=K49.xt) (g0:=true) (H₀:=boot_heap) (H₁:=K49.Hd.hZ) (gs₀:=Array.mk []) (gs₁:=Array.mk []) (d₀:=boot_drawn) (d₁:={}) (k₀:=boot_toks) (k₁:=1180) (m₀:=11) (ann:=K49.Hd.hAnn) (M:=K49.Hd.hM) K49.Hd.opn K49.Hd.siz K49.Hd.run (by decide) ?looks; (case looks=>(intro w; refine funext fun os=>K49.pr2 (K49.lkA w os) (K49.pr2 (K49.lk w os) ?_); kernel_rfl))))
  (case wit=>w_witness2)))
set_option maxRecDepth 100000 in
set_option maxHeartbeats 0 in
theorem PySem.Challenge.cw_sieve_k49_parcels_at_a_gate_holds : PySem.Challenge.rw_sieve_k49_parcels_at_a_gate.Holds := by
  w_on; o_law; k_head
  k_fill
  refine K49.walk (l:=PySem.Challenge.rw_sieve_k49_parcels_at_a_gate) rfl rfl (fun w h Y=>PySem.W.kIn_of Y) ?F
  case F =>
    intro w mg fa h KX G hmg
    refine' K49.asm hmg ?D0 ?D1 ?D2 ?D3 ?D4 ?D5 ?D6 ?D7 ?D8 ?D9 ?D10 ?D11 ?D12 ?D13 ?D14 ?D15 ?D16 ?D17 ?D18 ?D19 ?D20 ?D21 ?D22 ?D23 ?D24 ?D25 ?D26 ?D27 ?D28 ?D29 ?D30 ?D31 ?c0 ?c1 ?b0 ?b1 ?b2 ?b3 ?b4 ?b5 ?b6 ?b7 ?b8 ?b9 ?b10 ?b11 ?b12 ?b13 ?b14 ?m0 ?m1 ?m2 ?m3 ?m4 ?m5 ?m6 ?m7 ?f0 ?f1 ?e0 ?e1 ?e2 ?e3 ?e4 ?e5 ?e6 ?e7 ?e8 ?e9 ?e10 ?e11 ?e12 ?e13 ?e14 ?e15 ?e16 ?e17 ?e18 ?e19 ?e20 ?e21 ?e22 ?e23 ?e24 ?e25 ?e26 ?e27 ?e28 ?e29 ?e30 ?e31 ?tx
    case D0=>walk_at "d"
    case D1=>walk_at "d"
    case D2=>walk_at "d"
    case D3=>walk_at "d"
    case D4=>walk_at "d"
    case D5=>walk_at "d"
    case D6=>walk_at "d"
    case D7=>walk_at "d"
    case D8=>walk_at "d"
    case D9=>walk_at "d"
    case D10=>walk_at "d"
    case D11=>walk_at "d"
    case D12=>walk_at "d"
    case D13=>walk_at "d"
    case D14=>walk_at "d"
    case D15=>walk_at "d"
    case D16=>walk_at "d"
    case D17=>walk_at "d"
    case D18=>walk_at "d"
    case D19=>walk_at "d"
    case D20=>walk_at "d"
    case D21=>walk_at "d"
    case D22=>walk_at "d"
    case D23=>walk_at "d"
    case D24=>walk_at "d"
    case D25=>walk_at "d"
    case D26=>walk_at "d"
    case D27=>walk_at "d"
    case D28=>walk_at "d"
    case D29=>walk_at "d"
    case D30=>walk_at "d"
    case D31=>walk_at "d"
    case c0=>(refine' ⟨_,PySem.W.mg_of KX G ?a,?r⟩); (case a=>k_is); (case r=>exact ⟨_,rfl⟩)
    case c1=>(refine' ⟨_,PySem.W.mg_of KX G ?a,?r⟩); (case a=>k_is); (case r=>exact ⟨_,rfl⟩)
    case b0=>walk_at "n"
    case b1=>walk_at "n"
    case b2=>walk_at "n"
    case b3=>walk_at "n"
    case b4=>walk_at "n"
    case b5=>walk_at "n"
    case b6=>walk_at "n"
    case b7=>walk_at "n"
    case b8=>walk_at "n"
    case b9=>walk_at "n"
    case b10=>walk_at "n"
    case b11=>walk_at "n"
    case b12=>walk_at "n"
    case b13=>walk_at "n"
    case b14=>walk_at "n"
    case m0=>(refine' PySem.W.mg_of KX G ?a); (case a=>k_is)
    case m1=>(refine' PySem.W.mg_of KX G ?a); (case a=>k_is)
    case m2=>(refine' PySem.W.mg_of KX G ?a); (case a=>k_is)
    case m3=>(refine' PySem.W.mg_of KX G ?a); (case a=>k_is)
    case m4=>(refine' PySem.W.mg_of KX G ?a); (case a=>k_is)
    case m5=>(refine' PySem.W.mg_of KX G ?a); (case a=>k_is)
    case m6=>(refine' PySem.W.mg_of KX G ?a); (case a=>k_is)
    case m7=>(refine' PySem.W.mg_of KX G ?a); (case a=>k_is)
    case f0=>(constructor <;> first | k_is | kit_is)
    case f1=>(constructor <;> first | k_is | kit_is)
    case e0=>(refine' Sv.mk_cdef ?a ?l ?c ?k ?g ?r); (case a=>k_is); (case l=>k_is); (case c=>k_is); (case k=>k_is); (case g=>k_is); (case r=>k_is)
    case e1=>walk_at "m"
    case e2=>walk_at "m"
    case e3=>walk_at "m"
    case e4=>walk_at "m"
    case e5=>walk_at "m"
    case e6=>walk_at "m"
    case e7=>walk_at "m"
    case e8=>walk_at "m"
    case e9=>walk_at "m"
    case e10=>walk_at "m"
    case e11=>walk_at "m"
    case e12=>walk_at "m"
    case e13=>walk_at "m"
    case e14=>walk_at "m"
    case e15=>walk_at "m"
    case e16=>walk_at "m"
    case e17=>walk_at "m"
    case e18=>walk_at "m"
    case e19=>walk_at "m"
    case e20=>walk_at "m"
    case e21=>walk_at "m"
    case e22=>walk_at "m"
    case e23=>walk_at "m"
    case e24=>walk_at "m"
    case e25=>walk_at "m"
    case e26=>walk_at "m"
    case e27=>walk_at "m"
    case e28=>walk_at "m"
    case e29=>walk_at "m"
    case e30=>walk_at "m"
    case e31=>(refine' K49.mk_mdefD ?a ?l ?c ?k ?n ?t ?v); (case a=>k_is); (case l=>k_is); (case c=>k_is); (case k=>k_is); (case n=>k_is); (case t=>k_is); (case v=>rfl)
    case tx=>(constructor; (constructor <;> first | k_is | kit_is); all_goals (first | k_is | kit_is))
