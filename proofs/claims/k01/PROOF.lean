import PyProof.Rows.All
import Wide.All
import OpenK.AllK
import Wide.FinOn
import Lean
import PyProof.EqAt
import PyProof.EqKinds
import PyProof.TupleCall
import PyProof.ZipIter
import PySem.SetTable
import PyProof.SetScanFacts
import PyProof.SetKind
import PyProof.FactsAll.tuple_iterator
import KE.KDictList
import PyProof.Rows.TupDisplay
import PyProof.Rows.StrKeys3
import PyProof.Rows.StrWeight2
import PyProof.SliceStr2
import PyProof.StrLaws
import PyProof.Rows.Range3
import PySem.Challenge.RW_threetrees_k01_lands_and_ties
set_option genSizeOfSpec false
set_option linter.all false
set_option Elab.async false
set_option maxRecDepth 100000
set_option linter.defProp false
def Aa0:=@List.mem_append
def Aa1:=@List.mem_cons
def Aa2:=@List.getElem?_eq_getElem
def Aa3:=@List.length_map
def Aa4:=@List.nodup_append
def Aa5:=@List.nodup_cons
def Aa6:=@PySem.Heap.get?_push_of_some
def Aa7:=@Nat.le_refl
def Aa8:=@List.mem_map
def Aa9:=@List.getElem?_map
def Ab0:=@List.getElem?_eq_some_iff
def Ab1:=@PySem.F.plainAttrs_list
def Ab2:=@List.size_toArray
def Ab3:=@PySem.Heap.lt_size
def Ab4:=@Option.some.inj
def Ab5:=@List.mem_range
def Ab6:=@List.cons_append
def Ab7:=@List.length_append
def Ab8:=@Nat.lt_of_lt_of_le
def Ab9:=@Nat.ne_of_lt
def Ac0:=@List.getD_eq_getElem?_getD
def Ac1:=@List.mem_append_right
def Ac2:=@List.not_mem_nil
def Ac3:=@PySem.Heap.get?_push_size
def Ac4:=@List.eq_nil_or_concat
def Ac5:=@List.nodup_iff_pairwise_ne
def Ac6:=@List.map_cons
def Ac7:=@Int.toNat_natCast
def Ac8:=@List.all_eq_true
def Ac9:=@List.getElem?_set_ne
def Ad0:=@List.length_take
def Ad1:=@List.map_append
def Ad2:=@List.take_append_drop
def Ad3:=@List.mem_cons_of_mem
def Ad4:=@List.getElem?_eq_none
def Ad5:=@List.append_assoc
def Ad6:=@List.mem_singleton
def Ad7:=@Nat.lt_irrefl
def Ad8:=@List.pairwise_map
def Ad9:=@List.length_reverse
def Ae0:=@List.map_map
namespace L2
open PySem PySem.Spec PyProof.Rows
abbrev Key:=Sum Int Str
def cZ4:Key->Value->Bool
 | .inl k,v=>Value.isInt k v
 | .inr x,v=>Value.isStrOf x v
def dO7 (w:World):Key->Int
 | .inl k=>hashInt k
 | .inr x=>hashStr w x
theorem L7:∀{k:Key} {v:Value},cZ4 k v=true->(∃i t,k=Sum.inl i/\v=Value.int i t)\/(∃x t,k=Sum.inr x/\v=Value.str x t)
 | .inl i,v,h=>by
  obtain ⟨t,e⟩:=Value.isInt_shape (k:=i) (v:=v) h;exact .inl ⟨i,t,rfl,e⟩
 | .inr x,v,h=>by
  obtain ⟨t,e⟩:=Value.isStrOf_shape (x:=x) (v:=v) h;exact .inr ⟨x,t,rfl,e⟩
theorem dH3 (a b:Int):decide ((Sum.inl a:Key)=Sum.inl b)=(a==b):=by
 by_cases e:a=b
 ·subst e;simp
 ·have h:¬(Sum.inl a:Key)=Sum.inl b:=λq=>e (Sum.inl.inj q)
  rw[decide_eq_false h];exact(beq_eq_false_iff_ne.mpr e).symm
theorem dF3 (a b:Str):decide ((Sum.inr a:Key)=Sum.inr b)=decide (a=b):=by
 by_cases e:a=b
 ·subst e;simp
 ·have h:¬(Sum.inr a:Key)=Sum.inr b:=λq=>e (Sum.inr.inj q)
  rw[decide_eq_false h,decide_eq_false e]
theorem dG2 (a:Int)(b:Str):decide ((Sum.inl a:Key)=Sum.inr b)=false:=decide_eq_false (λq=>nomatch q)
theorem dH2 (a:Str)(b:Int):decide ((Sum.inr a:Key)=Sum.inl b)=false:=decide_eq_false (λq=>nomatch q)
def bV2 (prog:Program)(w:World):PySem.KeyKind prog w Key where
 is:=cZ4
 hash:=dO7 w
 inj:=λv a b ha hb=>by
  rcases L7 ha with ⟨i,t,rfl,rfl⟩ | ⟨x,t,rfl,rfl⟩
  ·rcases L7 hb with ⟨j,u,rfl,e⟩ | ⟨y,u,rfl,e⟩
   ·injection e with e1 _;rw[e1]
   ·exact nomatch e
  ·rcases L7 hb with ⟨j,u,rfl,e⟩ | ⟨y,u,rfl,e⟩
   ·exact nomatch e
   ·injection e with e1 _;rw[e1]
 byValue:=λk v h=>by
  rcases L7 h with ⟨i,t,rfl,rfl⟩ | ⟨x,t,rfl,rfl⟩ <;> rfl
 pyHash:=λhv h=>by
  rcases L7 hv with ⟨i,t,rfl,rfl⟩ | ⟨x,t,rfl,rfl⟩
  ·exact wpAny_pyHash_int h
  ·exact wpAny_pyHash_str h
 eqBool:=λhu hv h=>by
  rcases L7 hu with ⟨i,t,rfl,rfl⟩ | ⟨x,t,rfl,rfl⟩
  ·rcases L7 hv with ⟨j,u,rfl,rfl⟩ | ⟨y,u,rfl,rfl⟩
   ·rw[dH3]at h;exact wpAny_eqBool_int h
   ·rw[dG2]at h;exact SeqAt.EqAt.int_str i t y u _ _ _ _ h
  ·rcases L7 hv with ⟨j,u,rfl,rfl⟩ | ⟨y,u,rfl,rfl⟩
   ·rw[dH2]at h;exact SeqAt.EqAt.str_int x t j u _ _ _ _ h
   ·rw[dF3]at h;exact wpAny_eqBool_str h
 «strs» := λk x t v h=>by
  rcases L7 h with ⟨i,u,rfl,e⟩ | ⟨y,u,rfl,e⟩
  ·exact nomatch e
  ·injection e with e1 _
   subst e1;cases v <;> rfl
inductive V where
 | non | bl (b:Bool) | int (i:Int) | str (x:Str) | byt (b:Array UInt8) | flt (b:UInt64) | ref (a:Addr) | ty (n:String)
 deriving DecidableEq
def RelV:V->Value->Prop
 | .non,u=>u=Value.none
 | .bl b,u=>u=Value.bool b
 | .int i,u=>∃t,u=Value.int i t
 | .str x,u=>∃t,u=Value.str x t
 | .byt b,u=>∃t,u=Value.bytes b t
 | .flt b,u=>∃t,u=Value.float b t
 | .ref a,u=>u=Value.ref a
 | .ty n,u=>u=Value.type n
abbrev Vals:List V->List Value->Prop:=Paired RelV
theorem Vals.length {xs:List V}{us:List Value}(r:Vals xs us):xs.length=us.length:=Paired.length r
theorem Vals.get:∀{xs:List V} {us:List Value} {i:Nat} {x:V},Vals xs us->xs[i]? = some x->∃u,us[i]? = some u/\RelV x u
 | _,_,_,_,.nil,e=>by simp at e
 | _,_,0,_,.cons r _,e=>by simp at e;subst e;exact⟨_,rfl,r⟩
 | _,_,i+1,x,.cons _ t,e=>by
  obtain ⟨u,h1,h2⟩:=Vals.get (i:=i) (x:=x) t (by simpa using e)
  exact⟨u,by simpa using h1,h2⟩
theorem Vals.set {x:V}{u:Value}(r:RelV x u):∀{xs:List V} {us:List Value} (i:Nat),Vals xs us->Vals (xs.set i x) (us.set i u)
 | _,_,_,.nil=>.nil
 | _,_,0,.cons _ t=>.cons r t
 | _,_,i+1,.cons q t=>.cons q (Vals.set r i t)
theorem Vals.append:∀{xs ys:List V} {us ws:List Value},Vals xs us->Vals ys ws->Vals (xs++ys) (us++ws)
 | _,_,_,_,.nil,s=>s
 | _,_,_,_,.cons r t,s=>.cons r (Vals.append t s)
theorem Vals.take:∀{xs:List V} {us:List Value} (n:Nat),Vals xs us->Vals (xs.take n) (us.take n)
 | _,_,0,_=>.nil
 | _,_,_+1,.nil=>.nil
 | _,_,n+1,.cons r t=>.cons r (Vals.take n t)
theorem Vals.drop:∀{xs:List V} {us:List Value} (n:Nat),Vals xs us->Vals (xs.drop n) (us.drop n)
 | _,_,0,r=>r
 | _,_,_+1,.nil=>.nil
 | _,_,n+1,.cons _ t=>Vals.drop n t
def cA7:Option V->Option Value->Prop
 | some v,some u=>RelV v u
 | none,none=>True
 | _,_=>False
def KV {κ:Type}:List (κ×V)->List (κ×Value)->Prop:=Paired λ(p:κ×V) (q:κ×Value)=>p.1=q.1/\RelV p.2 q.2
def kV:Key->V
 | .inl i=>.int i
 | .inr x=>.str x
inductive HO where
 /-- a list -/
 | lst (xs:List V)
 /-- a tuple (never changes) -/
 | tup (xs:List V)
 /-- a dict whose keys are ints and texts;one whose keys are tuples of ints and texts (the empty one is both) -/
 | dK (kvs:List (Key×V)) | dT (kvs:List (List Key×V))
 /-- a set of ints: its members,its size -/
 | set (S:Int->Bool) (n:Nat)
 /-- an instance of the class at C,its dict at dx,its attributes -/
 | ins (C dx:Addr) (fs:List (Str×V))
 /-- the dict of the instance at x -/
 | own (x:Addr)
 /-- the dict of an exception -/
 | xd (fs:List (Str×V))
 /-- a bound method,f of x -/
 | met (f x:Addr)
 /-- a range object lo,lo+1,.. below hi -/
 | rng (lo hi:Int)
 /-- a thing that is known to the object (the script;a dict while a loop walks it): read,never written while it is so -/
 | frz (o:Obj) (u:HO)
 /-- a code object's table -/
 | tbl (ps:Array Value)
 /-- any other thing,by what is true of its one object (a def of one's own: SetO a S n:=HO.ext λh=>..) -/
 | ext (φ:Heap->Prop)
abbrev Hp:=Addr->Option HO
def upd (H:Hp)(a:Addr)(o:HO):Hp:=λb=>if b=a then some o else H b
theorem B7 {H:Hp}{a:Addr}{o:HO}:upd H a o a=some o:=by unfold upd;rw[if_pos rfl]
theorem B2 {H:Hp}{a b:Addr}{o:HO}(h:b≠a):upd H a o b=H b:=by unfold upd;rw[if_neg h]
theorem D0 {H:Hp}{a b:Addr}{o:HO}(h:H a=some o)(h':H b=none):a≠b:=by
 intro e;subst e;rw[h]at h';cases h'
def Tup0 (h:Heap)(a:Addr)(items:Array Value):Prop:=∃o,h.get? a=some o/\o.cls=.type "tuple" /\ (∃n,o.data=.seq items n)/\o.dict=none
theorem Tup0.tup {h:Heap}{a:Addr}{items:Array Value}(p:Tup0 h a items):IsTup h a items:=p.imp λ_ q=>⟨q.1,q.2.1,q.2.2.1⟩
theorem Tup0.nw (h:Heap)(items:Array Value)(n:Nat):Tup0 (h.push {cls:=.type "tuple",data:=.seq items n}) h.objs.size items:=⟨_,Ac3 _ rfl,rfl,⟨n,rfl⟩,rfl⟩
section
variable (P:Program)(w:World)
def ObjOk (H:Hp)(h:Heap)(a:Addr):HO->Prop
 | .lst xs=>xs.length<=sizeLine/\∃(its:List Value) (n:Nat),Vals xs its/\h.get? a=some {cls:=.type "list",data:=.seq its.toArray n}
 | .tup xs=>xs.length<=sizeLine/\∃its:List Value,Vals xs its/\Tup0 h a its.toArray
 | .dK kvs=>kvs.length<=sizeLine/\(a==sysModules)=false/\∃vs,KV kvs vs/\h.DictOf (bV2 P w) a vs
 | .dT kvs=>kvs.length<=sizeLine/\(a==sysModules)=false/\∃xs:List (List Key×Addr×Value),
   Paired (λ(p:List Key×V) (q:List Key×Addr×Value)=>p.1=q.1/\H q.2.1=some (.tup (p.1.map kV))/\RelV p.2 q.2.2) kvs xs /\
   ∃o es ep,h.get? a=some o/\o.ExactDict/\o.data=.dict es ep/\es.toList=xs.map (entryOfKey (tupleKind (bV2 P w)))/\(xs.map (·.1)).Nodup
 | .set S n=>h.SetOf (intKind P w) a S n
 | .ins C dx fs=>H dx=some (.own a)/\fs.length<=1000/\dx≠a/\h.get? a=some (PySem.W.instObj C dx) /\
   ∃mA,h.Ns1 dx mA/\(∀f,cA7 (fs.lookup f) (mA f))/\PySem.Within mA (fs.map (·.1))
 | .own _=>∃o,h.get? a=some o
 | .xd fs=>∃mA,h.Ns1 a mA/\∀f,cA7 (fs.lookup f) (mA f)
 | .rng lo hi=>∃t u v,h.get? a=some {cls:=.type "range",data:=.fields #[.int lo t,.int hi u,.int 1 v]}
 | .frz o u=>h.get? a=some o/\ObjOk H h a u
 | .tbl ps=>h.get? a=some {cls:=.none,data:=.fields ps}
 | .met f x=>h.get? a=some (PySem.W.methodObj (.ref f) (.ref x))
 | .ext φ => φ h/\(∃o,h.get? a=some o)/\∀h1 h2:Heap,φ h1->(∀o,h1.get? a=some o->h2.get? a=some o)->φ h2
def HOk (H:Hp)(h:Heap):Prop:=∀a o,H a=some o->ObjOk P w H h a o
end
section
variable {P:Program}{w:World}{H H':Hp}{h h':Heap}{a:Addr}{o:HO}
theorem ObjOk.lt (x:ObjOk P w H h a o):a<h.objs.size:=by
 cases o with
 | lst xs=>obtain ⟨_,_,_,_,e⟩:=x;exact Ab3 e
 | tup xs=>obtain ⟨_,_,_,p⟩:=x;exact p.tup.lt
 | dK kvs=>obtain ⟨_,_,_,_,o,_,_,e,_⟩:=x;exact Ab3 e
 | dT kvs=>obtain ⟨_,_,_,_,o,_,_,e,_⟩:=x;exact Ab3 e
 | set S n=>obtain ⟨o,_,_,_,e,_⟩:=x;exact Ab3 e
 | ins C dx fs=>obtain ⟨_,_,_,e,_⟩:=x;exact Ab3 e
 | own y=>obtain ⟨_,e⟩:=x;exact Ab3 e
 | xd fs=>obtain ⟨_,⟨_,_,_,e,_⟩,_⟩:=x;exact Ab3 e
 | rng lo hi=>obtain ⟨_,_,_,e⟩:=x;exact Ab3 e
 | frz ob u=>obtain ⟨e,_⟩:=x;exact Ab3 e
 | tbl ps=>exact Ab3 (show h.get? a=some _ from x)
 | met f y=>exact Ab3 (show h.get? a=some _ from x)
 | ext φ=>obtain ⟨_,⟨_,e⟩,_⟩:=x;exact Ab3 e
theorem Paired.mapP {α β:Type}{F G:α->β->Prop}:∀{l₁:List α} {l₂:List β},Paired F l₁ l₂->(∀a b,F a b->G a b)->Paired G l₁ l₂
 | _,_,.nil,_=>.nil
 | _,_,.cons r t,f=>.cons (f _ _ r) (Paired.mapP t f)
theorem ObjOk.stay (x:ObjOk P w H h a o)(k:∀b u,(b=a\/H b=some (.own a))->h.get? b=some u->h'.get? b=some u)
  (ho:∀b,H b=some (.own a)->H' b=some (.own a)) (ht:∀b xs,H b=some (.tup xs)->H' b=some (.tup xs)):ObjOk P w H' h' a o:=by
 induction o with
 | lst xs=>obtain ⟨z,its,n,r,e⟩:=x;exact⟨z,its,n,r,k _ _ (.inl rfl) e⟩
 | tup xs=>obtain ⟨z,its,r,ob,e,c⟩:=x;exact⟨z,its,r,ob,k _ _ (.inl rfl) e,c⟩
 | dK kvs=>obtain ⟨z,y,vs,r,ob,es,ep,e,c⟩:=x;exact⟨z,y,vs,r,ob,es,ep,k _ _ (.inl rfl) e,c⟩
 | dT kvs=>
  obtain ⟨z,y,xs,r,ob,es,ep,e,c⟩:=x;exact⟨z,y,xs,Paired.mapP r λp q z=>⟨z.1,ht _ _ z.2.1,z.2.2⟩,ob,es,ep,k _ _ (.inl rfl) e,c⟩
 | set S n=>obtain ⟨ob,es,ep,t,e,c⟩:=x;exact⟨ob,es,ep,t,k _ _ (.inl rfl) e,c⟩
 | ins C dx fs=>
  obtain ⟨d,z,ne,e,mA,⟨od,es,ep,e2,c⟩,r⟩:=x;exact⟨ho _ d,z,ne,k _ _ (.inl rfl) e,mA,⟨od,es,ep,k _ _ (.inr d) e2,c⟩,r⟩
 | own y=>obtain ⟨ob,e⟩:=x;exact⟨ob,k _ _ (.inl rfl) e⟩
 | xd fs=>obtain ⟨mA,⟨od,es,ep,e,c⟩,r⟩:=x;exact⟨mA,⟨od,es,ep,k _ _ (.inl rfl) e,c⟩,r⟩
 | rng lo hi=>obtain ⟨t,u,v,e⟩:=x;exact⟨t,u,v,k _ _ (.inl rfl) e⟩
 | frz ob u ih=>obtain ⟨e,q⟩:=x;exact⟨k _ _ (.inl rfl) e,ih q⟩
 | tbl ps=>
  have e:h.get? a=some {cls:=.none,data:=.fields ps}:=x
  show h'.get? a=some {cls:=.none,data:=.fields ps}
  exact k a _ (.inl rfl) e
 | met f y=>
  have e:h.get? a=some (PySem.W.methodObj (.ref f) (.ref y)):=x
  show h'.get? a=some (PySem.W.methodObj (.ref f) (.ref y))
  exact k a _ (.inl rfl) e
 | ext φ=>obtain ⟨p,⟨o,e⟩,st⟩:=x;exact⟨st _ _ p λo q=>k _ _ (.inl rfl) q,⟨o,k _ _ (.inl rfl) e⟩,st⟩
theorem HOk.lt (x:HOk P w H h)(e:H a=some o):a<h.objs.size:=(x a o e).lt
theorem HOk.fresh (x:HOk P w H h)(e:h.objs.size<=a):H a=none:=by
 cases q:H a with
 | none=>rfl
 | some u=>exact absurd (Ab8 (x.lt q) e) (Ad7 _)
theorem HOk.kept (x:HOk P w H h)(k:∀b u,h.get? b=some u->h'.get? b=some u):HOk P w H h':=λa o e=>
 (x a o e).stay (λb u _ q=>k b u q) (λ_ q=>q) λ_ _ q=>q
theorem HOk.laid (x:HOk P w H h)(k:∀b u,h.get? b=some u->h'.get? b=some u)(hp:h.objs.size<=a)(new:ObjOk P w (upd H a o) h' a o):HOk P w (upd H a o) h':=λb u e=>by
 have hn:=x.fresh hp
 by_cases hb:b=a
 ·subst hb;rw[B7]at e;cases e;exact new
 ·rw[B2 hb]at e;exact(x b u e).stay (λc v _ q=>k c v q) (λc q=>by rw[B2 (D0 q hn)];exact q) λc xs q=>by rw[B2 (D0 q hn)];exact q
end
def Rd (H:Hp)(a:Addr)(u:HO):Prop:=H a=some u\/∃o,H a=some (.frz o u)
theorem Rd.ok {P:Program}{w:World}{H:Hp}{h:Heap}{a:Addr}{u:HO}(r:Rd H a u)(x:HOk P w H h):ObjOk P w H h a u:=by
 rcases r with r | ⟨o,r⟩
 ·exact x a u r
 ·obtain ⟨_,q⟩:=x a _ r;exact q
def Mut:Option HO->Prop
 | some (.lst _)=>True
 | some (.dK _)=>True
 | some (.dT _)=>True
 | some (.set _ _)=>True
 | some (.ins _ _ _)=>True
 | some (.ext _)=>True
 | _=>False
section
variable {P:Program}{w:World}{H:Hp}{h h':Heap}{x e:Addr}{o':HO}
theorem HOk.write (ok:HOk P w H h)(mu:Mut (H x))(he:e=x\/H e=some (.own x))(k:∀b u,b≠e->h.get? b=some u->h'.get? b=some u)(heo:∃u,h'.get? e=some u)
  (new:ObjOk P w (upd H x o') h' x o'):HOk P w (upd H x o') h':=λb u q=>by
 have nown:∀c y,H c=some (.own y)->c≠x:=λc y r z=>by subst z;rw[r]at mu;exact mu
 have ntup:∀c xs,H c=some (.tup xs)->c≠x:=λc xs r z=>by subst z;rw[r]at mu;exact mu
 by_cases hb:b=x
 ·subst hb;rw[B7]at q;cases q;exact new
 ·rw[B2 hb]at q;by_cases hbe:b=e
  ·have q':H b=some (.own x):=by
    rcases he with z | z
    ·exact absurd (hbe.trans z) hb
    ·rw[hbe];exact z
   rw[q]at q';cases q';obtain ⟨v,hv⟩:=heo;exact⟨v,by rw[hbe];exact hv⟩
  ·refine(ok b u q).stay (λc v hc r=>k c v ?_ r) (λc r=>by rw[B2 (nown c b r)];exact r) λc xs r=>by rw[B2 (ntup c xs r)];exact r
   rcases hc with rfl | hc
   ·exact hbe
   ·rintro rfl;rcases he with z | z
    ·exact nown c b hc z
    ·rw[hc]at z;cases z;exact hb rfl
end
structure Un (fs ex:List Addr)(H H':Hp)(h h':Heap):Prop where
 keep:∀b o,h.get? b=some o->H b=none->b∉fs->b∉ex->h'.get? b=some o
 slot:∀b o,h.get? b=some o->H b=none->b∈fs->b∉ex->∃sl,h'.get? b=some {o with slots:=sl}
 free:∀b o,h.get? b=some o->H b=none->b∉ex->H' b=none
 there:∀b o,h.get? b=some o->b∉ex->∃o',h'.get? b=some o'
 tups:∀b xs,H b=some (.tup xs)->H' b=some (.tup xs)
 frzs:∀b o u,H b=some (.frz o u)->H' b=some (.frz o u)
 tbls:∀b ps,H b=some (.tbl ps)->∃more,H' b=some (.tbl (ps++more))
section
variable {fs fs' ex ex':List Addr}{H H1 H2:Hp}{h h1 h2 h':Heap}{a x e:Addr}{o:HO}
theorem Un.any (u:Un fs ex H H1 h h1){b:Addr}{ob:Obj}(q:h.get? b=some ob)(n:H b=none)(hx:b∉ex):∃sl,h1.get? b=some {ob with slots:=sl}:=by
 by_cases hb:b∈fs
 ·exact u.slot b ob q n hb hx
 ·exact⟨ob.slots,u.keep b ob q n hb hx⟩
theorem Un.kept (k:∀b u,h.get? b=some u->h'.get? b=some u):Un fs ex H H h h':=
 ⟨λb ob q _ _ _=>k b ob q,λb ob q _ _ _=>⟨ob.slots,k b ob q⟩,λ_ _ _ n _=>n,λb ob q _=>⟨ob,k b ob q⟩,λ_ _ q=>q,λ_ _ _ q=>q,λ_ ps q=>⟨#[],by rw[q];simp⟩⟩
theorem Un.refl:Un fs ex H H h h:=Un.kept λ_ _ q=>q
theorem Un.laid (k:∀b u,h.get? b=some u->h'.get? b=some u)(hp:h.objs.size<=a)(hn:H a=none):Un fs ex H (upd H a o) h h' where
 keep:=λb u q _ _ _=>k b u q
 slot:=λb u q _ _ _=>⟨u.slots,k b u q⟩
 free:=λb u q n _=>by rw[B2 (Ab9 (Ab8 (Ab3 q) hp))];exact n
 there:=λb u q _=>⟨u,k b u q⟩
 tups:=λb xs q=>by rw[B2 (D0 q hn)];exact q
 frzs:=λb u xs q=>by rw[B2 (D0 q hn)];exact q
 tbls:=λb ps q=>⟨#[],by rw[B2 (D0 q hn),q];simp⟩
theorem Un.write (mu:Mut (H x))(he:e=x\/H e=some (.own x))(k:∀b u,b≠e->h.get? b=some u->h'.get? b=some u)(heo:∃u,h'.get? e=some u):Un fs ex H (upd H x o) h h':=by
 have hx:∀b,H b=none->b≠x:=λb n z=>by subst z;rw[n]at mu;exact mu
 have hb:∀b,H b=none->b≠e:=λb n z=>by
  subst z;rcases he with r | r
  ·exact hx b n r
  ·rw[n]at r;cases r
 have hm:∀b u,H b=some u->¬Mut (some u)->b≠x:=λb u q nm z=>by subst z;rw[q]at mu;exact nm mu
 refine⟨λb u q n _ _=>k b u (hb b n) q,λb u q n _ _=>⟨u.slots,k b u (hb b n) q⟩,λb u q n _=>by rw[B2 (hx b n)];exact n,λb u q _=>?_,
  λb xs q=>by rw[B2 (hm b _ q λz=>z)];exact q,λb u xs q=>by rw[B2 (hm b _ q λz=>z)];exact q,λb ps q=>⟨#[],by rw[B2 (hm b _ q λz=>z),q];simp⟩⟩
 by_cases hbe:b=e
 ·subst hbe;exact heo
 ·exact⟨u,k b u hbe q⟩
end
def trk (h:Heap)(H:Hp):List Addr:=(List.range h.objs.size).filter λa=>(H a).isSome
def bE3 (h:Heap)(H:Hp):Heap:=PySem.W.hideAll h (trk h H)
theorem cD1 (h:Heap)(H:Hp):(bE3 h H).objs.size=h.objs.size:=PySem.W.hideAll_size _ _
theorem cQ2 {h:Heap}{H:Hp}{b:Addr}{o:Obj}(e:h.get? b=some o)(n:H b=none):(bE3 h H).get? b=some o:=
 PySem.W.hideAll_get _ e λhm=>by
  have q:(H b).isSome=true:=(List.mem_filter.mp hm).2
  rw[n]at q;simp at q
theorem cU1 {h:Heap}{H:Hp}{b:Addr}{o:Obj}(e:(bE3 h H).get? b=some o):h.get? b=some o/\H b=none:=by
 have e':h.get? b=some o:=PySem.W.of_hideAll (trk h H) e
 refine⟨e',?_⟩;cases q:H b with
 | none=>rfl
 | some x=>
  have hm:b∈trk h H:=List.mem_filter.mpr ⟨Ab5.mpr (Ab3 e'),by simp[q]⟩
  have z:(bE3 h H).get? b=none:=PySem.W.hideAll_none (trk h H) hm
  rw[z]at e;cases e
def bC0 (g h:Heap)(L:Addr):List (Addr×Obj):=(List.range h.objs.size).filterMap λa=>if a=L\/(g.get? a).isSome=true then none else(h.get? a).map λo=>(a,o)
theorem S7 {g h:Heap}{L a:Addr}{o:Obj}(h1:a≠L)(h2:g.get? a=none)(h3:h.get? a=some o):(a,o)∈bC0 g h L:=
 List.mem_filterMap.mpr ⟨a,Ab5.mpr (Ab3 h3),by simp[h1,h2,h3]⟩
theorem aT6 {g h:Heap}{L:Addr}{p:Addr×Obj}(hp:p∈bC0 g h L):p.1≠L/\g.get? p.1=none/\h.get? p.1=some p.2:=by
 obtain ⟨b,_,e⟩:=List.mem_filterMap.mp hp;split at e
 ·cases e
 ·rename_i hn;cases q:h.get? b with
  | none=>rw[q]at e;simp at e
  | some u=>
   rw[q]at e;simp only[Option.map_some,Option.some.injEq]at e;subst e;refine⟨λz=>hn (.inl z),?_,q⟩
   show g.get? b=none
   cases r:g.get? b with
   | none=>rfl
   | some v=>exact(hn (.inr (by simp[r]))).elim
theorem bM9 {g h:Heap}{L:Addr}:News g L h (bC0 g h L):=λp hp=>let ⟨a,b,c⟩:=aT6 hp;⟨c,a,b⟩
structure Mod (K:PySem.W.Frag)(mg:Str->Option Value)(base:Heap):Prop where
 kin:K.In base
 glob:base.Ns mainGlobals mg
 blt:∃mb,base.Ns builtinsNs mb/\∀x:Str,x≠"__name__" -> mb x=bootBuiltins x
 nolimit:base.NoLimit
structure Cx where
 prog:Program
 w:World
 K:PySem.W.Frag
 mg:Str->Option Value
 base:Heap
 A:Around
 N:List Str
 s₀:Shared
 H₀:Hp
 env:Env
 outer:List Env
 stack:List Env
 ex:List Addr
 fn:Str->Bool
 calm:Bool
 pn:List (Addr×Obj)
 xe:Value->Shared->Prop
def frs (l:List Env):List Addr:=l.filterMap (·.frame)
abbrev Cx.fs (X:Cx):List Addr:=frs X.outer
def Vis (sc:Scope)(x:Str):Prop:=sc.names.lookup x=some .local\/sc.names.lookup x=some .cell\/sc.names.lookup x=some .free
def Loc (sc:Scope)(x:Str):Prop:=sc.names.lookup x=some .local\/sc.names.lookup x=some .cell
def dM3 (env:Env)(h:Heap)(m:Str->Option Value)(x:Str)(u:Value):Prop:=
 (env.kindOf x=some .local/\m x=some u)\/((env.kindOf x=some .cell\/env.kindOf x=some .free)/\∃c,env.cells.lookup x=some c/\h.IsCell c (some u))
structure Cx.Ok (X:Cx):Prop where
 mod:Mod X.K X.mg X.base
 kind:X.env.scope.kind=.function
 glob:X.env.globals=mainGlobals
 blt:X.env.builtins=builtinsNs
 above:X.s₀.heap.objs.size<=X.env.locals
 inj:∀x y c,X.env.cells.lookup x=some c->X.env.cells.lookup y=some c->x=y
 has:∀x,(X.env.kindOf x=some .cell\/X.env.kindOf x=some .free)->∃c,X.env.cells.lookup x=some c
 cab:∀x c,X.fn x=true->X.env.cells.lookup x=some c->X.s₀.heap.objs.size<=c
 hd:X.calm=true->X.A.handled=none
 frames:X.A.frames=some X.stack
 stk:X.stack=X.outer\/(X.stack=X.env::X.outer/\X.env.frame=some X.env.locals)
 exf:∀b∈X.ex,b≠X.env.locals/\∀x c,X.env.cells.lookup x=some c->c≠b
 bs:∀b o,X.base.get? b=some o->X.s₀.heap.get? b=some o/\X.H₀ b=none
 bsz:X.base.objs.size<=X.s₀.heap.objs.size
 noex:∀b o,X.base.get? b=some o->b∉X.ex
 exfs:∀b∈X.ex,b∉X.fs
 funs:X.s₀.heap.FunFrames X.base X.outer
 frf:∀b∈X.fs,X.H₀ b=none
structure Inv (X:Cx)(pins:List (Addr×Obj))(σ:List (Option V))(H:Hp)(s:Shared):Prop where
 ok:X.Ok
 os:s.os=X.s₀.os
 bare:AllBare s.gens
 base:Un X.fs X.ex X.H₀ H X.s₀.heap s.heap
 loc:∃m,s.heap.Ns X.env.locals m/\∀(i:Nat) (x:Str) (v:V),X.N[i]? = some x->σ[i]? = some (some v)->Vis X.env.scope x->∃u,RelV v u/\dM3 X.env s.heap m x u
 cell:∀x c,X.env.cells.lookup x=some c->∃v,s.heap.IsCell c v
 free:H X.env.locals=none
 freeC:∀x c,X.env.cells.lookup x=some c->H c=none
 pin:∀p∈X.pn++pins,s.heap.get? p.1=some p.2/\H p.1=none/\p.1≠X.env.locals/\p.1∉X.fs/\∀v,p.2.data≠.cell v
 hok:HOk X.prog X.w H s.heap
 len:σ.length=X.N.length
section
variable {X:Cx}{pins:List (Addr×Obj)}{σ:List (Option V)}{H H':Hp}{s:Shared}{h':Heap}
theorem Cx.Ok.nofr (ok:X.Ok){b:Addr}{o:Obj}(e:X.base.get? b=some o):b∉X.fs:=λhb=>by
 have:=(ok.funs.mem hb).1
 rw[e]at this;cases this
theorem Inv.bs (I:Inv X pins σ H s):∀b o,X.base.get? b=some o->s.heap.get? b=some o/\H b=none:=λb o e=>
 ⟨I.base.keep b o (I.ok.bs b o e).1 (I.ok.bs b o e).2 (I.ok.nofr e) (I.ok.noex b o e),I.base.free b o (I.ok.bs b o e).1 (I.ok.bs b o e).2 (I.ok.noex b o e)⟩
theorem Inv.bk (I:Inv X pins σ H s):∀b o,X.base.get? b=some o->s.heap.get? b=some o:=λb o e=>(I.bs b o e).1
theorem Inv.mod (I:Inv X pins σ H s):Mod X.K X.mg X.base:=I.ok.mod
theorem Inv.kIn (I:Inv X pins σ H s):X.K.In s.heap:=I.ok.mod.kin.keeps I.bk
theorem Inv.lt (I:Inv X pins σ H s):X.env.locals<s.heap.objs.size:=let ⟨_,hn,_⟩:=I.loc;hn.lt
theorem Inv.sz (I:Inv X pins σ H s):X.s₀.heap.objs.size<=s.heap.objs.size:=Nat.le_trans I.ok.above (Nat.le_of_lt I.lt)
theorem Inv.nofs (I:Inv X pins σ H s){a:Addr}(h:s.heap.objs.size<=a):a∉X.fs:=λhb=>by
 obtain ⟨_,o,ho,_⟩:=I.ok.funs.mem hb;exact absurd (Ab8 (Ab3 ho) (Nat.le_trans I.sz h)) (Ad7 _)
theorem Inv.cne (I:Inv X pins σ H s):∀x c,X.env.cells.lookup x=some c->c≠X.env.locals:=λx c e z=>by
 obtain ⟨v,o,ho,hd⟩:=I.cell x c e;obtain ⟨m,⟨o',es,ep,ho',hd',_⟩,_⟩:=I.loc;rw[z,ho']at ho;cases ho;rw[hd']at hd;cases hd
theorem Inv.funs (I:Inv X pins σ H s):s.heap.FunFrames X.base X.outer:=by
 have all:∀(l:List Env),(∀b∈frs l,b∈X.fs)->X.s₀.heap.FunFrames X.base l->s.heap.FunFrames X.base l:=by
  intro l;induction l with
  | nil=>intro _ _;trivial
  | cons env r ih=>
   intro hs hl;obtain ⟨hk,⟨L,o,hf,hn,ho,hd⟩,hr⟩:=hl;have hL:L∈X.fs:=hs L (by unfold frs;rw[List.filterMap_cons,hf];exact List.mem_cons_self)
   obtain ⟨sl,e⟩:=I.base.slot L o ho (I.ok.frf L hL) hL λz=>I.ok.exfs L z hL
   exact⟨hk,⟨L,_,hf,hn,e,hd⟩,ih (λb hb=>hs b (by unfold frs;rw[List.filterMap_cons,hf];exact Ad3 _ hb)) hr⟩
 exact all X.outer (λ_ hb=>hb) I.ok.funs
theorem Inv.stack (I:Inv X pins σ H s):s.heap.FunFrames X.base X.stack:=by
 rcases I.ok.stk with e | ⟨e,hf⟩
 ·rw[e];exact I.funs
 ·rw[e];obtain ⟨m,hn,_⟩:=I.loc;refine .cons (by rw[I.ok.kind];decide) hf hn ?_ I.funs
  exact Heap.get?_none_of_le (Nat.le_trans I.ok.bsz I.ok.above)
theorem Inv.stkSub (I:Inv X pins σ H s):∀b∈frs X.stack,b∈X.env.locals::X.fs:=λb hb=>by
 rcases I.ok.stk with e | ⟨e,hf⟩
 ·rw[e]at hb;exact Ad3 _ hb
 ·rw[e]at hb;unfold frs at hb;rw[List.filterMap_cons,hf]at hb;exact hb
theorem Inv.stkFree (I:Inv X pins σ H s):∀b∈frs X.stack,H b=none:=λb hb=>by
 rcases Aa1.mp (I.stkSub b hb) with e | hb
 ·rw[e];exact I.free
 ·obtain ⟨_,o,ho,_⟩:=I.ok.funs.mem hb;exact I.base.free b o ho (I.ok.frf b hb) λz=>I.ok.exfs b z hb
theorem Inv.step {g':Array GenState}{t':Nat}{d':Drawn}{ch:List Addr}(I:Inv X pins σ H s)
  (hch:∀b∈ch,(b∈X.ex\/X.s₀.heap.objs.size<=b)/\b≠X.env.locals/\(∀x c,X.env.cells.lookup x=some c->c≠b)/\∀p∈X.pn++pins,p.1≠b)
  (keep:∀b o,b≠X.env.locals->b∉X.fs->b∉ch->s.heap.get? b=some o->H b=none->h'.get? b=some o)
  (slot:∀b o,b≠X.env.locals->b∈X.fs->b∉ch->s.heap.get? b=some o->H b=none->∃sl,h'.get? b=some {o with slots:=sl}) (free:∀b o,b∉ch->s.heap.get? b=some o->H b=none->H' b=none)
  (there:∀b o,b∉ch->s.heap.get? b=some o->∃o',h'.get? b=some o')
  (tups:∀b xs,H b=some (.tup xs)->H' b=some (.tup xs)) (frzs:∀b o u,H b=some (.frz o u)->H' b=some (.frz o u)) (tbls:∀b ps,H b=some (.tbl ps)->∃more,H' b=some (.tbl (ps++more)))
  (ns:∀m,s.heap.Ns X.env.locals m->h'.Ns X.env.locals m) (hok:HOk X.prog X.w H' h') (hg:AllBare g') :
  Inv X pins σ H' {s with heap:=h',gens:=g',drawn:=d',toks:=t'}:=by
 have neL:∀b o,X.s₀.heap.get? b=some o->b≠X.env.locals:=λb o e=>Ab9 (Ab8 (Ab3 e) I.ok.above)
 have neC:∀b o,X.s₀.heap.get? b=some o->b∉X.ex->b∉ch:=λb o e hx hb=>by
  rcases (hch b hb).1 with z | z
  ·exact hx z
  ·exact absurd (Ab8 (Ab3 e) z) (Ad7 _)
 have cellK:∀x c,X.env.cells.lookup x=some c->∀v,s.heap.IsCell c v->h'.IsCell c v:=λx c e v ⟨o,ho,hd⟩=>by
  have nch:c∉ch:=λz=>(hch c z).2.2.1 x c e rfl
  by_cases hc:c∈X.fs
  ·obtain ⟨sl,q⟩:=slot c o (I.cne x c e) hc nch ho (I.freeC x c e);exact⟨_,q,hd⟩
  ·exact⟨o,keep c o (I.cne x c e) hc nch ho (I.freeC x c e),hd⟩
 refine⟨I.ok,I.os,hg,⟨λb o e n hb hx=>?_,λb o e n hb hx=>?_,λb o e n hx=>?_,λb o e hx=>?_,λb xs e=>tups b xs (I.base.tups b xs e),λb o xs e=>frzs b o xs (I.base.frzs b o xs e),λb ps e=>?_⟩,?_,λx c e=>?_,?_,λx c e=>?_,λp hp=>?_,hok,I.len⟩
 ·exact keep b o (neL b o e) hb (neC b o e hx) (I.base.keep b o e n hb hx) (I.base.free b o e n hx)
 ·obtain ⟨sl,e1⟩:=I.base.slot b o e n hb hx;obtain ⟨sl',e2⟩:=slot b _ (neL b o e) hb (neC b o e hx) e1 (I.base.free b o e n hx);exact⟨sl',e2⟩
 ·obtain ⟨o',e1⟩:=I.base.there b o e hx;exact free b o' (neC b o e hx) e1 (I.base.free b o e n hx)
 ·obtain ⟨o',e1⟩:=I.base.there b o e hx;exact there b o' (neC b o e hx) e1
 ·obtain ⟨m1,e1⟩:=I.base.tbls b ps e;obtain ⟨m2,e2⟩:=tbls b _ e1;exact⟨m1++m2,by rw[e2,Array.append_assoc]⟩
 ·obtain ⟨m,hn,hl⟩:=I.loc;refine⟨m,ns m hn,λi x v e1 e2 e3=>?_⟩
  obtain ⟨u,r,l⟩:=hl i x v e1 e2 e3;refine⟨u,r,?_⟩;rcases l with l | ⟨k,c,e,z⟩
  ·exact .inl l
  ·exact .inr ⟨k,c,e,cellK x c e _ z⟩
 ·obtain ⟨v,z⟩:=I.cell x c e;exact⟨v,cellK x c e v z⟩
 ·obtain ⟨m,⟨o,_,_,ho,_⟩,_⟩:=I.loc;exact free _ o (λz=>(hch _ z).2.1 rfl) ho I.free
 ·obtain ⟨v,o,ho,hd⟩:=I.cell x c e;exact free c o (λz=>(hch c z).2.2.1 x c e rfl) ho (I.freeC x c e)
 ·obtain ⟨e,n,ne,nf,d⟩:=I.pin p hp;have nch:p.1∉ch:=λz=>(hch p.1 z).2.2.2 p hp rfl
  exact⟨keep p.1 p.2 ne nf nch e n,free p.1 p.2 nch e n,ne,nf,d⟩
theorem Inv.un {t':Nat}(I:Inv X pins σ H s)(u:Un X.fs [] H H' s.heap h')(hok:HOk X.prog X.w H' h'):Inv X pins σ H' {s with heap:=h',toks:=t'}:=by
 obtain ⟨m,⟨o,es,ep,ho,r⟩,_⟩:=id I.loc;obtain ⟨sl,hL⟩:=u.any ho I.free (by simp)
 exact I.step (g':=s.gens) (d':=s.drawn) (ch:=[]) (λ_ z=>nomatch z) (λb o _ hb _ e n=>u.keep b o e n hb (by simp)) (λb o _ hb _ e n=>u.slot b o e n hb (by simp)) (λb o _ e n=>u.free b o e n (by simp)) (λb o _ e=>u.there b o e (by simp)) u.tups u.frzs u.tbls (λm' hm=>by
  obtain ⟨o',es',ep',ho',r'⟩:=hm;rw[ho]at ho';cases ho';exact⟨_,es',ep',hL,r'⟩) hok I.bare
theorem Inv.call {g':Array GenState}{t':Nat}{d':Drawn}{ch:List Addr}(I:Inv X pins σ H s)(u:Un (frs X.stack) ch H H' s.heap h')(hok:HOk X.prog X.w H' h')(hg:AllBare g')
  (hch:∀b∈ch,(b∈X.ex\/X.s₀.heap.objs.size<=b)/\b≠X.env.locals/\(∀x c,X.env.cells.lookup x=some c->c≠b)/\∀p∈X.pn++pins,p.1≠b) :
  Inv X pins σ H' {s with heap:=h',gens:=g',drawn:=d',toks:=t'}:=by
 obtain ⟨m,⟨o,es,ep,ho,r⟩,_⟩:=id I.loc;obtain ⟨sl,hL⟩:=u.any ho I.free λz=>(hch _ z).2.1 rfl
 exact I.step (ch:=ch) hch (λb o hL hb hc e n=>u.keep b o e n (λz=>(Aa1.mp (I.stkSub b z)).elim hL hb) hc) (λb o _ _ hc e n=>u.any e n hc) (λb o hc e n=>u.free b o e n hc) (λb o hc e=>u.there b o e hc) u.tups u.frzs u.tbls (λm' hm=>by
  obtain ⟨o',es',ep',ho',r'⟩:=hm;rw[ho]at ho';cases ho';exact⟨_,es',ep',hL,r'⟩) hok hg
theorem Inv.turned {t':Nat}{it:Addr}(I:Inv X pins σ H s)(k:∀b o,b≠it->s.heap.get? b=some o->h'.get? b=some o)(hn:H it=none)(hL:it≠X.env.locals)
  (h1:it∈X.ex\/X.s₀.heap.objs.size<=it) (h2:∀x c,X.env.cells.lookup x=some c->c≠it) (h3:∀p∈X.pn++pins,p.1≠it):Inv X pins σ H {s with heap:=h',toks:=t'}:=by
 have nit:∀b u,H b=some u->b≠it:=λb u e z=>by rw[z,hn]at e;cases e
 refine I.step (g':=s.gens) (d':=s.drawn) (ch:=[it]) (λb hb=>?_) (λb o _ _ hc e _=>k b o (λz=>hc (by simp[z])) e) (λb o _ _ hc e _=>⟨o.slots,k b o (λz=>hc (by simp[z])) e⟩) (λ_ _ _ _ n=>n)
  (λb o hc e=>⟨o,k b o (λz=>hc (by simp[z])) e⟩) (λ_ _ e=>e) (λ_ _ _ e=>e) (λb ps e=>⟨#[],by rw[e];simp⟩) (λm hm=>?_) (λb u e=>?_) I.bare
 ·have e:b=it:=by simpa using hb
  subst e;exact⟨h1,hL,h2,h3⟩
 ·obtain ⟨o,es,ep,ho,r⟩:=hm;exact⟨o,es,ep,k _ o (Ne.symm hL) ho,r⟩
 ·refine(I.hok b u e).stay (λc v hc q=>k c v ?_ q) (λ_ q=>q) λ_ _ q=>q
  rcases hc with z | z
  ·rw[z];exact nit b u e
  ·exact nit c _ z
theorem Inv.tok (I:Inv X pins σ H s)(t:Nat):Inv X pins σ H {s with toks:=t}:=I.un (h':=s.heap) (t':=t) Un.refl I.hok
theorem Inv.kept {t':Nat}(I:Inv X pins σ H s)(k:∀b u,s.heap.get? b=some u->h'.get? b=some u):Inv X pins σ H {s with heap:=h',toks:=t'}:=I.un (Un.kept k) (I.hok.kept k)
theorem Inv.laid {a:Addr}{o:HO}{t':Nat}(I:Inv X pins σ H s)(k:∀b u,s.heap.get? b=some u->h'.get? b=some u)(hp:s.heap.objs.size<=a)(new:ObjOk X.prog X.w (upd H a o) h' a o) :
  Inv X pins σ (upd H a o) {s with heap:=h',toks:=t'}:=I.un (Un.laid k hp (I.hok.fresh hp)) (I.hok.laid k hp new)
theorem Inv.write {x e:Addr}{o:HO}{t':Nat}(I:Inv X pins σ H s)(mu:Mut (H x))(he:e=x\/H e=some (.own x))(k:∀b u,b≠e->s.heap.get? b=some u->h'.get? b=some u)(heo:∃u,h'.get? e=some u)
  (new:ObjOk X.prog X.w (upd H x o) h' x o):Inv X pins σ (upd H x o) {s with heap:=h',toks:=t'}:=I.un (Un.write mu he k heo) (I.hok.write mu he k heo new)
theorem Inv.weak {σ':List (Option V)}(I:Inv X pins σ H s)(hl:σ'.length=σ.length)(w:∀(i:Nat) v,σ'[i]? = some (some v)->σ[i]? = some (some v)):Inv X pins σ' H s:=
 ⟨I.ok,I.os,I.bare,I.base,let ⟨m,hn,hl'⟩:=I.loc;⟨m,hn,λi x v e1 e2 e3=>hl' i x v e1 (w i v e2) e3⟩,I.cell,I.free,I.freeC,I.pin,I.hok,hl.trans I.len⟩
theorem Inv.pins_of {pins':List (Addr×Obj)}(I:Inv X pins σ H s)(h:∀p∈pins',s.heap.get? p.1=some p.2/\H p.1=none/\p.1≠X.env.locals/\p.1∉X.fs/\∀v,p.2.data≠.cell v):Inv X pins' σ H s:=
 ⟨I.ok,I.os,I.bare,I.base,I.loc,I.cell,I.free,I.freeC,λp hp=>(Aa0.mp hp).elim (λz=>I.pin p (List.mem_append_left _ z)) (h p),I.hok,I.len⟩
theorem bJ5 {N:List Str}(hN:N.Nodup){i j:Nat}{x:Str}(a:N[i]? = some x)(b:N[j]? = some x):i=j:=by
 obtain ⟨h1,e1⟩:=Ab0.mp a;obtain ⟨h2,e2⟩:=Ab0.mp b;exact(List.getElem_inj hN).mp (e1.trans e2.symm)
theorem aY4 {M:Model}{A:Around}{E:Value->Shared->Prop}{i:Nat}{x:Str}{v:V}{u:Value}{Q:Unit->Shared->Prop}(I:Inv X pins σ H s)(hN:X.N.Nodup)(hi:X.N[i]? = some x)(hx:Loc X.env.scope x)(r:RelV v u)
  (h:∀s',Inv X pins (σ.set i (some v)) H s'->(∃a,Heap.SameBut a s.heap s'.heap/\(a=X.env.locals\/X.env.cells.lookup x=some a))->Q () s') (hf:X.fn x=true\/X.env.scope.names.lookup x=some .local:=by first | exact .inl rfl | exact .inr rfl | assumption):wpAny M A (storeName X.env x u) Q E s:=by
 obtain ⟨m,hn,hl⟩:=id I.loc;have hcls:(X.env.scope.kind == .class||(X.env.scope.kind == .module&&X.env.locals != X.env.globals))=false:=by rw[I.ok.kind];rfl
 have hiσ:i<σ.length:=by rw[I.len];exact(Ab0.mp hi).1
 have cne:=I.cne
 have tracked:∀{a:Addr} {h':Heap},(∃o,s.heap.get? a=some o/\H a=none)->Heap.SameBut a s.heap h'->HOk X.prog X.w H h':=λ{a h'} ha hs b ob e=>by
  obtain ⟨_,_,hfree⟩:=ha;refine(I.hok b ob e).stay (λc w' hc q=>(hs.2 c ?_).trans q) (λ_ q=>q) λ_ _ q=>q
  rintro rfl;rcases hc with rfl | hc
  ·rw[hfree]at e;cases e
  ·rw[hfree]at hc;cases hc
 rcases hx with hk | hk
 ·refine wpAny_storeName_local hk hn (λh' hn' hs=>?_) hcls
  obtain ⟨oL,_,_,hoL,_⟩:=id hn;refine h _ ⟨I.ok,I.os,I.bare,⟨λb o e n hb hx=>?_,λb o e n hb hx=>?_,I.base.free,λb o e hx=>?_,I.base.tups,I.base.frzs,I.base.tbls⟩,⟨_,hn',λj y v' e1 e2 e3=>?_⟩,λy c e=>?_,I.free,I.freeC,λp hp=>?_,tracked ⟨oL,hoL,I.free⟩ hs,by simpa using I.len⟩ ⟨_,hs,.inl rfl⟩
  ·exact(hs.2 b (Ab9 (Ab8 (Ab3 e) I.ok.above))).trans (I.base.keep b o e n hb hx)
  ·obtain ⟨sl,e1⟩:=I.base.slot b o e n hb hx;exact⟨sl,(hs.2 b (Ab9 (Ab8 (Ab3 e) I.ok.above))).trans e1⟩
  ·obtain ⟨o',e1⟩:=I.base.there b o e hx;exact⟨o',(hs.2 b (Ab9 (Ab8 (Ab3 e) I.ok.above))).trans e1⟩
  ·by_cases hj:j=i
   ·subst hj;rw[hi]at e1;cases e1;rw[List.getElem?_set_self hiσ]at e2;cases e2;exact⟨u,r,.inl ⟨hk,by simp⟩⟩
   ·rw[Ac9 (Ne.symm hj)]at e2;obtain ⟨u',r',q⟩:=hl j y v' e1 e2 e3;refine⟨u',r',?_⟩;rcases q with ⟨k,e⟩ | ⟨k,c,e,z⟩
    ·refine .inl ⟨k,?_⟩
     have:y≠x:=λe=>hj (bJ5 hN e1 (e▸hi))
     simp[this,e]
    ·exact .inr ⟨k,c,e,z.sameBut hs (cne y c e)⟩
  ·obtain ⟨w',z⟩:=I.cell y c e;exact⟨w',z.sameBut hs (cne y c e)⟩
  ·obtain ⟨e,n,ne,nf,d⟩:=I.pin p hp;exact⟨(hs.2 p.1 ne).trans e,n,ne,nf,d⟩
 ·have hfn:X.fn x=true:=by
   rcases hf with z | z
   ·exact z
   ·rw[z]at hk;cases hk
  obtain ⟨c,hc⟩:=I.ok.has x (.inl hk);obtain ⟨w',z⟩:=I.cell x c hc;refine wpAny_storeName_cell I.ok.kind hk hc z (λh' hc' hs=>?_)
  obtain ⟨oc,hoc,hocd⟩:=id z;refine h {s with heap:=h'} ⟨I.ok,I.os,I.bare,⟨λb o e n hb hx=>?_,λb o e n hb hx=>?_,I.base.free,λb o e hx=>?_,I.base.tups,I.base.frzs,I.base.tbls⟩,⟨m,hn.sameBut hs (Ne.symm (cne x c hc)),λj y v' e1 e2 e3=>?_⟩,λy c' e=>?_,I.free,I.freeC,λp hp=>?_,tracked ⟨oc,hoc,I.freeC x c hc⟩ hs,by simpa using I.len⟩ ⟨c,hs,.inr hc⟩
  ·exact(hs.2 b (Ab9 (Ab8 (Ab3 e) (I.ok.cab x c hfn hc)))).trans (I.base.keep b o e n hb hx)
  ·obtain ⟨sl,e1⟩:=I.base.slot b o e n hb hx;exact⟨sl,(hs.2 b (Ab9 (Ab8 (Ab3 e) (I.ok.cab x c hfn hc)))).trans e1⟩
  ·obtain ⟨o',e1⟩:=I.base.there b o e hx;exact⟨o',(hs.2 b (Ab9 (Ab8 (Ab3 e) (I.ok.cab x c hfn hc)))).trans e1⟩
  ·by_cases hj:j=i
   ·subst hj;rw[hi]at e1;cases e1;rw[List.getElem?_set_self hiσ]at e2;cases e2;exact⟨u,r,.inr ⟨.inl hk,c,hc,hc'⟩⟩
   ·rw[Ac9 (Ne.symm hj)]at e2;obtain ⟨u',r',q⟩:=hl j y v' e1 e2 e3;refine⟨u',r',?_⟩;rcases q with q | ⟨k,c',e,z'⟩
    ·exact .inl q
    ·refine .inr ⟨k,c',e,z'.sameBut hs ?_⟩;rintro rfl;exact hj (bJ5 hN e1 (I.ok.inj _ _ _ e hc▸hi))
  ·by_cases hcc:c'=c
   ·subst hcc;exact⟨_,hc'⟩
   ·obtain ⟨w2,z2⟩:=I.cell y c' e;exact⟨w2,z2.sameBut hs hcc⟩
  ·obtain ⟨e,n,ne,nf,d⟩:=I.pin p hp;refine⟨(hs.2 p.1 ?_).trans e,n,ne,nf,d⟩;intro q;rw[q,hoc]at e;have q':oc=p.2:=Ab4 e;exact d w' (by rw[<- q'];exact hocd)
theorem aS6 {M:Model}{A:Around}{E:Value->Shared->Prop}{i:Nat}{x:Str}{v:V}{u:Value}{Q:Unit->Shared->Prop}(I:Inv X pins σ H s)(hN:X.N.Nodup)(hi:X.N[i]? = some x)(hx:Loc X.env.scope x)(r:RelV v u)
  (h:∀s',Inv X pins (σ.set i (some v)) H s'->Q () s') (hf:X.fn x=true\/X.env.scope.names.lookup x=some .local:=by first | exact .inl rfl | exact .inr rfl | assumption):wpAny M A (storeName X.env x u) Q E s:=
 aY4 I hN hi hx r (λs' I' _=>h s' I') hf
theorem Inv.call' {s':Shared}{ch:List Addr}(I:Inv X pins σ H s)(ho:s'.os=s.os)(u:Un (frs X.stack) ch H H' s.heap s'.heap)(hok:HOk X.prog X.w H' s'.heap)(hg:AllBare s'.gens)
  (hch:∀b∈ch,(b∈X.ex\/X.s₀.heap.objs.size<=b)/\b≠X.env.locals/\(∀x c,X.env.cells.lookup x=some c->c≠b)/\∀p∈X.pn++pins,p.1≠b):Inv X pins σ H' s':=by
 obtain ⟨h',g',d',t',o'⟩:=s';have e:o'=s.os:=ho;subst e;exact I.call (g':=g') (t':=t') (d':=d') u hok hg hch
end
abbrev XK:=Value->Option Addr->Hp->Prop
abbrev St:=List (Option V)
abbrev VK:=V->Hp->Prop
abbrev TE:=St->Hp->VK->Prop
abbrev TT:=St->Hp->(Bool->Hp->Prop)->Prop
abbrev TA:=St->Hp->(List V->Hp->Prop)->Prop
structure aN2 where
 nx:St->Hp->Prop
 rt:VK
 bk:St->Hp->Prop:=λ_ _=>False
 ct:St->Hp->Prop:=λ_ _=>False
abbrev TS:=aN2->St->Hp->Prop
def EP (X:Cx)(pins:List (Addr×Obj))(σ:St)(Q:VK)(u:Value)(s':Shared):Prop:=∃v H',Inv X pins σ H' s'/\RelV v u/\Q v H'
def TP (X:Cx)(pins:List (Addr×Obj))(σ:St)(Q:Bool->Hp->Prop)(b:Bool)(s':Shared):Prop:=∃H',Inv X pins σ H' s'/\Q b H'
def AP (X:Cx)(pins:List (Addr×Obj))(σ:St)(Q:List V->Hp->Prop)(us:List Value)(s':Shared):Prop:=∃vs H',Inv X pins σ H' s'/\Vals vs us/\Q vs H'
def SP (X:Cx)(pins:List (Addr×Obj))(D:aN2)(f:Flow)(s':Shared):Prop:=
 match f with
 | .next=>∃σ' H',Inv X pins σ' H' s'/\D.nx σ' H'
 | .brk=>∃σ' H',Inv X pins σ' H' s'/\D.bk σ' H'
 | .cont=>∃σ' H',Inv X pins σ' H' s'/\D.ct σ' H'
 | .ret u=>∃v σ' H',Inv X pins σ' H' s'/\RelV v u/\D.rt v H'
structure PE (X:Cx)(e:Expr)(t:TE):Prop where
 mk ::
 run :
  ∀(pins:List (Addr×Obj)) (s:Shared) (σ:St) (H:Hp) (Q:VK),Inv X pins σ H s->t σ H Q->wpAny (model X.prog X.w) X.A (eval e X.env) (EP X pins σ Q) X.xe s
instance {X:Cx} {e:Expr} {t:TE}:CoeFun (PE X e t) λ_=>
 (∀(pins:List (Addr×Obj)) (s:Shared) (σ:St) (H:Hp) (Q:VK),Inv X pins σ H s->t σ H Q->wpAny (model X.prog X.w) X.A (eval e X.env) (EP X pins σ Q) X.xe s):=⟨PE.run⟩
structure PT (X:Cx)(e:Expr)(t:TT):Prop where
 mk ::
 run :
  ∀(pins:List (Addr×Obj)) (s:Shared) (σ:St) (H:Hp) (Q:Bool->Hp->Prop),Inv X pins σ H s->t σ H Q->wpAny (model X.prog X.w) X.A (isTrue e X.env (eval e X.env)) (TP X pins σ Q) X.xe s
instance {X:Cx} {e:Expr} {t:TT}:CoeFun (PT X e t) λ_=>
 (∀(pins:List (Addr×Obj)) (s:Shared) (σ:St) (H:Hp) (Q:Bool->Hp->Prop),Inv X pins σ H s->t σ H Q->wpAny (model X.prog X.w) X.A (isTrue e X.env (eval e X.env)) (TP X pins σ Q) X.xe s):=⟨PT.run⟩
structure PW (X:Cx)(e:Expr)(t:TT):Prop where
 mk ::
 run :
  ∀(whole:Sem Value) (pins:List (Addr×Obj)) (s:Shared) (σ:St) (H:Hp) (Q:Bool->Hp->Prop),Inv X pins σ H s->t σ H Q->wpAny (model X.prog X.w) X.A (isTrue e X.env whole) (TP X pins σ Q) X.xe s
instance {X:Cx} {e:Expr} {t:TT}:CoeFun (PW X e t) λ_=>
 (∀(whole:Sem Value) (pins:List (Addr×Obj)) (s:Shared) (σ:St) (H:Hp) (Q:Bool->Hp->Prop),Inv X pins σ H s->t σ H Q->wpAny (model X.prog X.w) X.A (isTrue e X.env whole) (TP X pins σ Q) X.xe s):=⟨PW.run⟩
theorem PW.pt {X:Cx}{e:Expr}{t:TT}(h:PW X e t):PT X e t:=⟨h _⟩
structure PA (X:Cx)(es:List Expr)(t:TA):Prop where
 mk ::
 run :
  ∀(pos:Pos) (pins:List (Addr×Obj)) (s:Shared) (σ:St) (H:Hp) (Q:List V->Hp->Prop),Inv X pins σ H s->t σ H Q->wpAny (model X.prog X.w) X.A (spliced (backTo pos (starEach es X.env))) (AP X pins σ Q) X.xe s
instance {X:Cx} {es:List Expr} {t:TA}:CoeFun (PA X es t) λ_=>
 (∀(pos:Pos) (pins:List (Addr×Obj)) (s:Shared) (σ:St) (H:Hp) (Q:List V->Hp->Prop),Inv X pins σ H s->t σ H Q->wpAny (model X.prog X.w) X.A (spliced (backTo pos (starEach es X.env))) (AP X pins σ Q) X.xe s):=⟨PA.run⟩
structure PS (X:Cx)(st:Stmt)(t:TS):Prop where
 mk ::
 run :
  ∀(pins:List (Addr×Obj)) (s:Shared) (σ:St) (H:Hp) (D:aN2),Inv X pins σ H s->t D σ H->wpAny (model X.prog X.w) X.A (exec st X.env) (SP X pins D) X.xe s
instance {X:Cx} {st:Stmt} {t:TS}:CoeFun (PS X st t) λ_=>
 (∀(pins:List (Addr×Obj)) (s:Shared) (σ:St) (H:Hp) (D:aN2),Inv X pins σ H s->t D σ H->wpAny (model X.prog X.w) X.A (exec st X.env) (SP X pins D) X.xe s):=⟨PS.run⟩
structure PSs (X:Cx)(st:List Stmt)(t:TS):Prop where
 mk ::
 run :
  ∀(pins:List (Addr×Obj)) (s:Shared) (σ:St) (H:Hp) (D:aN2),Inv X pins σ H s->t D σ H->wpAny (model X.prog X.w) X.A (execs st X.env) (SP X pins D) X.xe s
instance {X:Cx} {st:List Stmt} {t:TS}:CoeFun (PSs X st t) λ_=>
 (∀(pins:List (Addr×Obj)) (s:Shared) (σ:St) (H:Hp) (D:aN2),Inv X pins σ H s->t D σ H->wpAny (model X.prog X.w) X.A (execs st X.env) (SP X pins D) X.xe s):=⟨PSs.run⟩
theorem thn {α:Type}{t:Sem α}{Q Q':α->Shared->Prop}{M:Model}{A:Around}{E:Value->Shared->Prop}{s:Shared}(h:wpAny M A t Q E s)(hQ:∀a s,Q a s->Q' a s):wpAny M A t Q' E s:=wpAny_mono h hQ λ_ _ x=>x
section
variable {X:Cx}
def L5 (i:Nat):TE:=λσ H Q=>∃v,σ[i]? = some (some v)/\Q v H
def tC (v:V):TE:=λ_ H Q=>Q v H
theorem dH4 {i:Nat}{x:Str}{pos:Pos}(hN:X.N[i]? = some x)(hv:Vis X.env.scope x)(hd:(x==("__debug__" : Str))=false:=by decide)(hcd:(x==("__classdict__" : Str))=false:=by decide):PE X (.Name x pos) (L5 i):=by
 refine⟨?_⟩;intro pins s σ H Q I h;obtain ⟨v,e,h⟩:=h;obtain ⟨m,hn,hl⟩:=I.loc;obtain ⟨u,r,l⟩:=hl i x v hN e hv;have fin:EP X pins σ Q u s:=⟨v,H,I,r,h⟩;rcases l with ⟨hk,hm⟩ | ⟨hk,c,hc,hcell⟩
 ·exact wpAny_Name (wpAny_loadName_local I.ok.kind hk hn hm fin) hd
 ·rcases hk with hk | hk
  ·exact wpAny_Name (wpAny_loadName_cell I.ok.kind hk hc hcell fin) hd
  ·exact wpAny_Name (wpAny_loadName_free I.ok.kind hk hc hcell fin hcd) hd
theorem A5 {i j pos}:PE X (.Constant (.int i) j pos) (tC (.int i)):=⟨λ_ _ _ H _ I h=>wpAny_Constant_int ⟨.int i,H,I.tok _,⟨_,rfl⟩,h⟩⟩
theorem Z8 {b j pos}:PE X (.Constant (.bool b) j pos) (tC (.bl b)):=⟨λ_ _ _ H _ I h=>Constant_bool ⟨.bl b,H,I,rfl,h⟩⟩
def Gl (X:Cx)(x:Str):Prop:=X.env.kindOf x=some .globalImplicit
theorem aD2 {E:Value->Shared->Prop}{pins:List (Addr×Obj)}{s:Shared}{σ:St}{H:Hp}{x:Str}{u:Value}{pos:Pos}{Q:Value->Shared->Prop}(I:Inv X pins σ H s)(hg:Gl X x)(hm:X.mg x=some u)(h:Q u s)
  (hd:(x==("__debug__" : Str))=false:=by decide):wpAny (model X.prog X.w) X.A (eval (.Name x pos) X.env) Q E s:=
 Calls.Name_function_global I.ok.kind hg (Calls.loadGlobal_global (by rw[I.ok.glob];exact I.mod.glob.keeps I.bk) hm h) hd
theorem i8 {E:Value->Shared->Prop}{pins:List (Addr×Obj)}{s:Shared}{σ:St}{H:Hp}{x:Str}{u:Value}{pos:Pos}{Q:Value->Shared->Prop}(I:Inv X pins σ H s)(hg:Gl X x)(hm:X.mg x=none)(hv:bootBuiltins x=some u)(h:Q u s)
  (hn:x≠"__name__" := by decide) (hd:(x==("__debug__" : Str))=false:=by decide):wpAny (model X.prog X.w) X.A (eval (.Name x pos) X.env) Q E s:=by
 obtain ⟨mb,h1,h2⟩:=I.mod.blt;exact Calls.Name_function_global I.ok.kind hg (Calls.loadGlobal_builtin (by rw[I.ok.glob];exact I.mod.glob.keeps I.bk) hm (by rw[I.ok.blt];exact h1.keeps I.bk) ((h2 x hn).trans hv) h) hd
theorem O3 {x:Str}{v:V}{u:Value}{pos:Pos}(hg:Gl X x)(hm:X.mg x=some u)(r:RelV v u)(hd:(x==("__debug__" : Str))=false:=by decide):PE X (.Name x pos) (tC v):=⟨λ_ _ _ H _ I h=>aD2 I hg hm ⟨v,H,I,r,h⟩ hd⟩
theorem cV5 {x:Str}{v:V}{u:Value}{pos:Pos}(hg:Gl X x)(hm:X.mg x=none)(hv:bootBuiltins x=some u)(r:RelV v u)(hn:x≠"__name__" := by decide)(hd:(x==("__debug__" : Str))=false:=by decide):PE X (.Name x pos) (tC v):=⟨λ_ _ _ H _ I h=>i8 I hg hm hv ⟨v,H,I,r,h⟩ hn hd⟩
def t2I (ta tb:TE)(k:Int->Int->Hp->Prop):St->Hp->Prop:=λσ H=>ta σ H λx H1=>tb σ H1 λy H2=>∃i j,x=.int i/\y=.int j/\k i j H2
variable {a b:Expr}{ta tb:TE}{pos:Pos}
structure PC (X:Cx)(op:CmpOp)(a b:Expr)(t:TE):Prop where
 mk ::
 run :
  ∀(pins:List (Addr×Obj)) (s:Shared) (σ:St) (H:Hp) (Q:VK),Inv X pins σ H s->t σ H Q ->
   wpAny (model X.prog X.w) X.A (eval a X.env) (λv s₁=>wpAny (model X.prog X.w) X.A (eval b X.env) (λu s₂=>wpAny (model X.prog X.w) X.A (compareOp op v u) (EP X pins σ Q) X.xe s₂) X.xe s₁) X.xe s
instance {X:Cx} {op:CmpOp} {a b:Expr} {t:TE}:CoeFun (PC X op a b t) λ_=>
 (∀(pins:List (Addr×Obj)) (s:Shared) (σ:St) (H:Hp) (Q:VK),Inv X pins σ H s->t σ H Q ->
  wpAny (model X.prog X.w) X.A (eval a X.env) (λv s₁=>wpAny (model X.prog X.w) X.A (eval b X.env) (λu s₂=>wpAny (model X.prog X.w) X.A (compareOp op v u) (EP X pins σ Q) X.xe s₂) X.xe s₁) X.xe s):=⟨PC.run⟩
def cE1 (p:Int->Int->Bool)(ta tb:TE):TE:=λσ H Q=>t2I ta tb (λi j H2=>Q (.bl (p i j)) H2) σ H
abbrev tLt:TE->TE->TE:=cE1 λi j=>decide (i<j)
abbrev tLe:TE->TE->TE:=cE1 λi j=>decide (i<=j)
abbrev tGt:TE->TE->TE:=cE1 λi j=>decide (j<i)
abbrev tGe:TE->TE->TE:=cE1 λi j=>decide (j<=i)
abbrev dP5:TE->TE->TE:=cE1 λi j=>decide (i=j)
abbrev dP4:TE->TE->TE:=cE1 λi j => !decide (i=j)
def tB (t:TE):TT:=λσ H Q=>t σ H λx H1=>∃c,x=.bl c/\Q c H1
theorem Z0 {e:Expr}{t:TE}(h:PE X e t)(he:∀whole,isTrue e X.env whole=(do let v <- whole;standAt e.pos;holding [v] (truthy v)):=by intro _;rfl):PT X e (tB t):=by
 refine⟨?_⟩;intro pins s σ H Q I hw;refine isTrue_plain (thn (h pins s σ H _ I hw) λv s1 ⟨x,H1,I1,r1,q1⟩=>?_) (he _)
 obtain ⟨d,rfl,q⟩:=q1;cases r1;exact wpAny_truthy_bool ⟨H1,I1,q⟩
variable {tA tB':TT}{rest:List Expr}
def dE2 (t u:TT):TT:=λσ H Q=>t σ H λc H1=>if c=true then u σ H1 Q else Q false H1
def tOr (t u:TT):TT:=λσ H Q=>t σ H λc H1=>if c=true then Q true H1 else u σ H1 Q
def dK5 (t:TT):TT:=λσ H Q=>t σ H λc H1=>Q (!c) H1
theorem aZ9 (ha:PT X a tA):PW X (.BoolOp .And [a] pos) tA:=by
 refine⟨?_⟩;intro wh pins s σ H Q I h;refine isTrue_and (thn (ha pins s σ H Q I h) λc s1 e=>?_)
 cases c with
 | true=>exact isTrue_and_nil e
 | false=>exact e
theorem bS7 (ha:PT X a tA):PW X (.BoolOp .Or [a] pos) tA:=by
 refine⟨?_⟩;intro wh pins s σ H Q I h;refine isTrue_or (thn (ha pins s σ H Q I h) λc s1 e=>?_)
 cases c with
 | false=>exact isTrue_or_nil e
 | true=>exact e
theorem bT6 (ha:PT X a tA)(hb:PW X (.BoolOp .And (b::rest) pos) tB'):PW X (.BoolOp .And (a::b::rest) pos) (dE2 tA tB'):=by
 refine⟨?_⟩;intro wh pins s σ H Q I h;refine isTrue_and (thn (ha pins s σ H _ I h) λc s1 ⟨H1,I1,q1⟩=>?_)
 cases c with
 | true=>exact hb wh pins s1 σ H1 Q I1 q1
 | false=>exact⟨H1,I1,q1⟩
theorem bG7 (ha:PT X a tA)(hb:PW X (.BoolOp .Or (b::rest) pos) tB'):PW X (.BoolOp .Or (a::b::rest) pos) (tOr tA tB'):=by
 refine⟨?_⟩;intro wh pins s σ H Q I h;refine isTrue_or (thn (ha pins s σ H _ I h) λc s1 ⟨H1,I1,q1⟩=>?_)
 cases c with
 | true=>exact⟨H1,I1,q1⟩
 | false=>exact hb wh pins s1 σ H1 Q I1 q1
theorem i6 (ha:PT X a tA):PT X (.UnaryOp .Not a pos) (dK5 tA):=by
 refine⟨?_⟩;intro pins s σ H Q I h;exact isTrue_not (ha pins s σ H (λc H1=>Q (!c) H1) I h)
def cZ7 (ta tb:TE):TE:=λσ H Q=>ta σ H λx H1=>∃c,x=.bl c/\if c=true then tb σ H1 Q else Q (.bl false) H1
def dN4 (ta tb:TE):TE:=λσ H Q=>ta σ H λx H1=>∃c,x=.bl c/\if c=true then Q (.bl true) H1 else tb σ H1 Q
def cY4 (ta:TE):TE:=λσ H Q=>ta σ H λx H1=>∃c,x=.bl c/\Q (.bl (!c)) H1
theorem aU0 {op}{t:TE}(h:PE X a t):PE X (.BoolOp op [a] pos) t:=⟨λpins s σ H Q I hw=>BoolOp_one (h pins s σ H Q I hw)⟩
theorem bD9 (ha:PE X a ta)(hb:PE X (.BoolOp .And (b::rest) pos) tb):PE X (.BoolOp .And (a::b::rest) pos) (cZ7 ta tb):=by
 refine⟨?_⟩;intro pins s σ H Q I h;refine BoolOp_and (thn (ha pins s σ H _ I h) λv s1 ⟨x,H1,I1,r1,q1⟩=>?_)
 obtain ⟨c,rfl,q1⟩:=q1;cases r1;refine wpAny_truthy_bool ?_;cases c with
 | true=>exact hb pins s1 σ H1 Q I1 q1
 | false=>exact⟨.bl false,H1,I1,rfl,q1⟩
theorem dK1 (ha:PE X a ta)(hb:PE X (.BoolOp .Or (b::rest) pos) tb):PE X (.BoolOp .Or (a::b::rest) pos) (dN4 ta tb):=by
 refine⟨?_⟩;intro pins s σ H Q I h;refine BoolOp_or (thn (ha pins s σ H _ I h) λv s1 ⟨x,H1,I1,r1,q1⟩=>?_)
 obtain ⟨c,rfl,q1⟩:=q1;cases r1;refine wpAny_truthy_bool ?_;cases c with
 | false=>exact hb pins s1 σ H1 Q I1 q1
 | true=>exact⟨.bl true,H1,I1,rfl,q1⟩
theorem dE9 (ha:PE X a ta):PE X (.UnaryOp .Not a pos) (cY4 ta):=by
 refine⟨?_⟩;intro pins s σ H Q I h;refine UnaryOp_ (thn (ha pins s σ H _ I h) λv s1 ⟨x,H1,I1,r1,q1⟩=>?_)
 obtain ⟨c,rfl,q1⟩:=q1;cases r1;exact not_of (wpAny_truthy_bool ⟨.bl (!c),H1,I1,rfl,q1⟩)
def tIf (t:TT)(ta tb:TE):TE:=λσ H Q=>t σ H λc H1=>if c=true then ta σ H1 Q else tb σ H1 Q
theorem bJ9 {c:Expr}(hc:PT X c tA)(ha:PE X a ta)(hb:PE X b tb):PE X (.IfExp c a b pos) (tIf tA ta tb):=by
 refine⟨?_⟩;intro pins s σ H Q I h;refine wpAny_IfExp (thn (hc pins s σ H _ I h) λd s1 ⟨H1,I1,q1⟩=>?_)
 cases d with
 | true=>exact ha pins s1 σ H1 Q I1 q1
 | false=>exact hb pins s1 σ H1 Q I1 q1
end
def SqL (K:PySem.W.Frag)(H:Hp)(a:Addr)(xs:List V):Prop:=
 Rd H a (.lst xs) \/
  ∃(o:Obj) (its:Array Value) (n:Nat),K.lookup a=some o/\o.cls=.type "list" /\ o.dict=none/\o.data=.seq its n/\its.size<=sizeLine/\Vals xs its.toList
def SqT (K:PySem.W.Frag)(H:Hp)(a:Addr)(xs:List V):Prop:=
 Rd H a (.tup xs) \/
  ∃(o:Obj) (its:Array Value) (n:Nat),K.lookup a=some o/\o.cls=.type "tuple" /\ o.dict=none/\o.data=.seq its n/\its.size<=sizeLine/\Vals xs its.toList
def dO0:Value->Option V
 | .none=>some .non
 | .bool b=>some (.bl b)
 | .int i _=>some (.int i)
 | .str x _=>some (.str x)
 | .bytes b _=>some (.byt b)
 | .float b _=>some (.flt b)
 | .ref a=>some (.ref a)
 | .type n=>some (.ty n)
 | _=>none
theorem RelV.abs {x:V}{u:Value}(r:RelV x u):dO0 u=some x:=by
 cases x with
 | non=>cases r;rfl
 | bl _=>cases r;rfl
 | int _=>obtain ⟨t,rfl⟩:=r;rfl
 | str _=>obtain ⟨t,rfl⟩:=r;rfl
 | byt _=>obtain ⟨t,rfl⟩:=r;rfl
 | flt _=>obtain ⟨t,rfl⟩:=r;rfl
 | ref _=>cases r;rfl
 | ty _=>cases r;rfl
theorem RelV.inj {x y:V}{u:Value}(r:RelV x u)(q:RelV y u):x=y:=Ab4 (r.abs.symm.trans q.abs)
theorem Vals.inj:∀{xs ys:List V} {us:List Value},Vals xs us->Vals ys us->xs=ys
 | _,_,_,.nil,.nil=>rfl
 | _,_,_,.cons r t,.cons r' t'=>by rw[r.inj r',Vals.inj t t']
section
variable {X:Cx}{pins:List (Addr×Obj)}{σ:St}{H:Hp}{s:Shared}{a:Addr}{xs ys:List V}
theorem SqL.of {K:PySem.W.Frag}(h:H a=some (.lst xs)):SqL K H a xs:=.inl (.inl h)
theorem SqT.of {K:PySem.W.Frag}(h:H a=some (.tup xs)):SqT K H a xs:=.inl (.inl h)
theorem Inv.list (I:Inv X pins σ H s)(h:SqL X.K H a xs):∃its:List Value,Vals xs its/\PlainL s.heap a its.toArray/\xs.length<=sizeLine:=by
 rcases h with h | ⟨o,its,n,hk,hc,hd,hs,hz,r⟩
 ·obtain ⟨z,its,n,r,e⟩:=h.ok I.hok;exact⟨its,r,⟨_,n,e,rfl,rfl,rfl⟩,z⟩
 ·refine⟨its.toList,r,⟨o,n,I.kIn a o hk,hc,hd,by simpa using hs⟩,?_⟩
  have e:=r.length
  simp only[Array.length_toList]at e;omega
theorem Inv.tuple0 (I:Inv X pins σ H s)(h:SqT X.K H a xs):∃its:List Value,Vals xs its/\Tup0 s.heap a its.toArray/\xs.length<=sizeLine:=by
 rcases h with h | ⟨o,its,n,hk,hc,hd,hs,hz,r⟩
 ·obtain ⟨z,its,r,p⟩:=h.ok I.hok;exact⟨its,r,p,z⟩
 ·refine⟨its.toList,r,⟨o,I.kIn a o hk,hc,⟨n,by simpa using hs⟩,hd⟩,?_⟩
  have e:=r.length
  simp only[Array.length_toList]at e;omega
theorem Inv.tuple (I:Inv X pins σ H s)(h:SqT X.K H a xs):∃its:List Value,Vals xs its/\IsTup s.heap a its.toArray/\xs.length<=sizeLine:=by
 obtain ⟨its,r,p,z⟩:=I.tuple0 h;exact⟨its,r,p.tup,z⟩
theorem Inv.list_inj (I:Inv X pins σ H s)(h:SqL X.K H a xs)(h':SqL X.K H a ys):xs=ys:=by
 obtain ⟨its,r,⟨o,n,e,_,_,d⟩,_⟩:=I.list h;obtain ⟨its',r',⟨o',n',e',_,_,d'⟩,_⟩:=I.list h';rw[e]at e';cases e';rw[d]at d'
 injection d' with d1 _
 have:its=its':=by simpa using congrArg Array.toList d1
 subst this;exact r.inj r'
theorem Inv.tuple_inj (I:Inv X pins σ H s)(h:SqT X.K H a xs)(h':SqT X.K H a ys):xs=ys:=by
 obtain ⟨its,r,⟨o,e,_,n,d⟩,_⟩:=I.tuple h;obtain ⟨its',r',⟨o',e',_,n',d'⟩,_⟩:=I.tuple h';rw[e]at e';cases e';rw[d]at d'
 injection d' with d1 _
 have:its=its':=by simpa using congrArg Array.toList d1
 subst this;exact r.inj r'
end
abbrev Cx.wish (X:Cx)(E:Value->Shared->Prop):Cx:={X with xe:=E}
abbrev Cx.nox (X:Cx):Cx:=X.wish λ_ _=>False
theorem Cx.Ok.wish {X:Cx}(ok:X.Ok)(E:Value->Shared->Prop):(X.wish E).Ok:=
 ⟨ok.mod,ok.kind,ok.glob,ok.blt,ok.above,ok.inj,ok.has,ok.cab,ok.hd,ok.frames,ok.stk,ok.exf,ok.bs,ok.bsz,ok.noex,ok.exfs,ok.funs,ok.frf⟩
theorem Cx.Ok.unwish {X:Cx}{E:Value->Shared->Prop}(ok:(X.wish E).Ok):X.Ok:=
 ⟨ok.mod,ok.kind,ok.glob,ok.blt,ok.above,ok.inj,ok.has,ok.cab,ok.hd,ok.frames,ok.stk,ok.exf,ok.bs,ok.bsz,ok.noex,ok.exfs,ok.funs,ok.frf⟩
section
variable {X:Cx}{pins:List (Addr×Obj)}{σ:St}{H:Hp}{s:Shared}{E:Value->Shared->Prop}
theorem Inv.wish (I:Inv X pins σ H s)(E:Value->Shared->Prop):Inv (X.wish E) pins σ H s:=⟨I.ok.wish E,I.os,I.bare,I.base,I.loc,I.cell,I.free,I.freeC,I.pin,I.hok,I.len⟩
theorem Inv.unwish (I:Inv (X.wish E) pins σ H s):Inv X pins σ H s:=⟨I.ok.unwish,I.os,I.bare,I.base,I.loc,I.cell,I.free,I.freeC,I.pin,I.hok,I.len⟩
theorem SP.unwish {D:aN2}{f:Flow}{s':Shared}(h:SP (X.wish E) pins D f s'):SP X pins D f s':=by
 cases f with
 | next=>obtain ⟨σ',H',I,q⟩:=h;exact⟨σ',H',I.unwish,q⟩
 | brk=>obtain ⟨σ',H',I,q⟩:=h;exact⟨σ',H',I.unwish,q⟩
 | cont=>obtain ⟨σ',H',I,q⟩:=h;exact⟨σ',H',I.unwish,q⟩
 | ret u=>obtain ⟨v,σ',H',I,r,q⟩:=h;exact⟨v,σ',H',I.unwish,r,q⟩
theorem PSs.nox {st:List Stmt}{t:TS}(h:PSs X.nox st t):PSs X st t:=⟨λpins s σ H D I hw=>
 wpAny_mono (h pins s σ H D (I.wish _) hw) (λ_ _ q=>q.unwish) λ_ _ z=>False.elim z⟩
end
section
variable {X:Cx}{st:Stmt}{rest:List Stmt}{t u:TS}{e:Expr}{te:TE}{pos:Pos}
def cY6:TS:=λD σ H=>D.nx σ H
def dD5 (t u:TS):TS:=λD σ H=>t {D with nx:=u D} σ H
theorem N4:PSs X [] cY6:=⟨λ_ _ σ H _ I h=>wpAny_execs_nil ⟨σ,H,I,h⟩⟩
theorem A4 (h1:PS X st t)(h2:PSs X rest u):PSs X (st::rest) (dD5 t u):=by
 refine⟨?_⟩;intro pins s σ H D I h;refine wpAny_execs_cons (thn (h1 pins s σ H {D with nx:=u D} I h) λf s1 q=>?_)
 cases f with
 | next=>
  obtain ⟨σ',H',I',q⟩:=q;exact h2 pins s1 σ' H' D I' q
 | ret v=>exact q
 | brk=>exact q
 | cont=>exact q
theorem A9 (h1:PS X st t):PSs X [st] t:=by
 refine⟨?_⟩;intro pins s σ H D I h;refine wpAny_execs_cons (thn (h1 pins s σ H D I h) λf s1 q=>?_)
 cases f with
 | next=>exact wpAny_execs_nil q
 | ret v=>exact q
 | brk=>exact q
 | cont=>exact q
theorem Inv.quiet {pins:List (Addr×Obj)}{σ:St}{H:Hp}{s:Shared}(I:Inv X pins σ H s):interactive X.env=false:=by simp[interactive,I.ok.kind]
def aN0 (te:TE):TS:=λD σ H=>te σ H λ_ H1=>D.nx σ H1
theorem G3 (he:PE X e te)(hs:swapsWith e none pos.line X.env=pure false:=by rfl):PS X (.Expr e pos) (aN0 te):=by
 refine⟨?_⟩;intro pins s σ H D I h;exact wpAny_Expr_any (thn (he pins s σ H _ I h) λv s1 ⟨x,H1,I1,r1,q1⟩=>⟨σ,H1,I1,q1⟩) I.quiet hs
def cW9 (te:TE):TS:=λD σ H=>te σ H D.rt
theorem E2 (he:PE X e te):PS X (.Return (some e) pos) (cW9 te):=by
 refine⟨?_⟩;intro pins s σ H D I h;exact wpAny_Return_some (thn (he pins s σ H _ I h) λv s1 ⟨x,H1,I1,r1,q1⟩=>⟨x,σ,H1,I1,r1,q1⟩)
def cS8 (c:TT)(t u:TS):TS:=λD σ H=>c σ H λb H1=>if b=true then t D σ H1 else u D σ H1
theorem Y2 {c:Expr}{a b:List Stmt}{tc:TT}(hc:PT X c tc)(ha:PSs X a t)(hb:PSs X b u):PS X (.If c a b pos) (cS8 tc t u):=by
 refine⟨?_⟩;intro pins s σ H D I h;refine wpAny_If (thn (hc pins s σ H _ I h) λd s1 ⟨H1,I1,q1⟩=>?_)
 cases d with
 | true=>exact ha pins s1 σ H1 D I1 q1
 | false=>exact hb pins s1 σ H1 D I1 q1
end
abbrev TG:=V->St->Hp->(St->Hp->Prop)->Prop
abbrev TGs:=List V->St->Hp->(St->Hp->Prop)->Prop
structure PG (X:Cx)(target:Expr)(t:TG):Prop where
 mk ::
 run :
  ∀(pins:List (Addr×Obj)) (s:Shared) (σ:St) (H:Hp) (v:V) (u:Value) (Q:St->Hp->Prop),Inv X pins σ H s->RelV v u->t v σ H Q ->
   wpAny (model X.prog X.w) X.A (assign target X.env u) (λ_ s'=>∃σ' H',Inv X pins σ' H' s'/\Q σ' H') X.xe s
instance {X:Cx} {target:Expr} {t:TG}:CoeFun (PG X target t) λ_=>
 (∀(pins:List (Addr×Obj)) (s:Shared) (σ:St) (H:Hp) (v:V) (u:Value) (Q:St->Hp->Prop),Inv X pins σ H s->RelV v u->t v σ H Q ->
  wpAny (model X.prog X.w) X.A (assign target X.env u) (λ_ s'=>∃σ' H',Inv X pins σ' H' s'/\Q σ' H') X.xe s):=⟨PG.run⟩
structure PGs (X:Cx)(ts:List Expr)(t:TGs):Prop where
 mk ::
 run :
  ∀(pins:List (Addr×Obj)) (s:Shared) (σ:St) (H:Hp) (vs:List V) (us:List Value) (Q:St->Hp->Prop),Inv X pins σ H s->Vals vs us->t vs σ H Q ->
   wpAny (model X.prog X.w) X.A (assignInOrder ((assignEach ts X.env).map (·.2)) us) (λ_ s'=>∃σ' H',Inv X pins σ' H' s'/\Q σ' H') X.xe s
instance {X:Cx} {ts:List Expr} {t:TGs}:CoeFun (PGs X ts t) λ_=>
 (∀(pins:List (Addr×Obj)) (s:Shared) (σ:St) (H:Hp) (vs:List V) (us:List Value) (Q:St->Hp->Prop),Inv X pins σ H s->Vals vs us->t vs σ H Q ->
  wpAny (model X.prog X.w) X.A (assignInOrder ((assignEach ts X.env).map (·.2)) us) (λ_ s'=>∃σ' H',Inv X pins σ' H' s'/\Q σ' H') X.xe s):=⟨PGs.run⟩
abbrev dC4:=V->V->V->Hp->(Hp->Prop)->Prop
def dM2 (X:Cx)(t:dC4):Prop:=
 ∀(pins:List (Addr×Obj)) (s:Shared) (σ:St) (H:Hp) (o i v:V) (ov iv u:Value) (Q:Hp->Prop),Inv X pins σ H s->RelV o ov->RelV i iv->RelV v u->t o i v H Q ->
  wpAny (model X.prog X.w) X.A (setItem ov iv u) (λ_ s'=>∃H',Inv X pins σ H' s'/\Q H') X.xe s
abbrev TIp:=V->V->Hp->VK->Prop
section
variable {X:Cx}{pos:Pos}
def W7 (i:Nat):TG:=λv σ H Q=>Q (σ.set i (some v)) H
theorem B9 {i:Nat}{x:Str}(hN:X.N.Nodup)(hi:X.N[i]? = some x)(hx:Loc X.env.scope x)(hf:X.fn x=true\/X.env.scope.names.lookup x=some .local:=by first | exact .inl rfl | exact .inr rfl | assumption):PG X (.Name x pos) (W7 i):=by
 refine⟨?_⟩;intro pins s σ H v u Q I r h;exact wpAny_assign_Name (aS6 I hN hi hx r (λs' I'=>⟨_,H,I',h⟩) hf)
def dI1:TGs:=λvs σ H Q=>vs=[]/\Q σ H
def cZ0 (t:TG)(u:TGs):TGs:=λvs σ H Q=>∃v r,vs=v::r/\t v σ H λσ' H'=>u r σ' H' Q
theorem bE6:PGs X [] dI1:=by
 refine⟨?_⟩;intro pins s σ H vs us Q I r h;obtain ⟨e,h⟩:=h;subst e;cases r;exact assignInOrder_nil ⟨σ,H,I,h⟩
theorem Y9 {e:Expr}{es:List Expr}{t:TG}{u:TGs}(h1:PG X e t)(h2:PGs X es u)
  (hs:(assignEach (e::es) X.env).map (·.2)=assign e X.env::(assignEach es X.env).map (·.2):=by rfl):PGs X (e::es) (cZ0 t u):=by
 refine⟨?_⟩;intro pins s σ H vs us Q I r h;obtain ⟨v,vr,e1,h⟩:=h;subst e1;cases r with
 | cons r rr=>
  rw[hs];refine assignInOrder_cons (thn (h1 pins s σ H _ _ _ I r h) λ_ s1 ⟨σ1,H1,I1,q1⟩=>?_)
  exact h2 pins s1 σ1 H1 _ _ Q I1 rr q1
def dJ2 (K:PySem.W.Frag)(n:Nat)(t:TGs):TG:=λv σ H Q=>∃a xs,v=.ref a/\SqT K H a xs/\xs.length=n/\t xs σ H Q
theorem bQ4 {es:List Expr}{k:Nat}{t:TGs}{n:Nat}(hc:X.calm=true)(h:PGs X es t)
  (hn:(assignEach es X.env).length=n:=by rfl) (hst:(assignEach es X.env).findIdx? (·.1)=none:=by rfl):PG X (.Tuple es k pos) (dJ2 X.K n t):=by
 refine⟨?_⟩;intro pins s σ H v u Q I r hw;obtain ⟨a,xs,e1,hq,hl,hw⟩:=hw;subst e1;cases r;obtain ⟨its,rv,ht,hz⟩:=I.tuple hq;refine assign_Tuple_tuple (I.ok.hd hc) ht (by simp[hn,<- hl,rv.length]) hst λh' hx=>?_
 have I1:Inv X pins σ H {s with heap:=h'}:=I.kept (t':=s.toks) λb o e=>hx b o (Ab9 (Ab3 e)) e
 exact h pins _ σ H xs _ Q I1 (by simpa using rv) hw
def dC2 (to ti:TE)(t:dC4):TG:=λv σ H Q=>to σ H λo H1=>ti σ H1 λi H2=>t o i v H2 λH3=>Q σ H3
theorem bS8 {o i:Expr}{to ti:TE}{t:dC4}(ho:PE X o to)(hi:PE X i ti)(hs:dM2 X t)
  (ha:∀v,assign (.Subscript o i pos) X.env v=(do
   let ov <- holding [v] (eval o X.env)
   let iv <- holding [v,ov] (eval i X.env)
   standAt pos
   holding [v,ov,iv] (setItem ov iv v)
   release [v,ov,iv] []):=by intro _;rfl):PG X (.Subscript o i pos) (dC2 to ti t):=by
 refine⟨?_⟩;intro pins s σ H v u Q I r h;rw[ha];refine wpAny_bind (wpAny_holding (thn (ho pins s σ H _ I h) λov s1 ⟨x,H1,I1,r1,q1⟩=>?_))
 refine wpAny_bind (wpAny_holding (thn (hi pins s1 σ H1 _ I1 q1) λiv s2 ⟨y,H2,I2,r2,q2⟩=>?_))
 refine wpAny_bind (wpAny_standAt (wpAny_bind (wpAny_holding (thn (hs pins s2 σ H2 x y v ov iv u _ I2 r1 r2 r q2) λ_ s3 ⟨H3,I3,q3⟩=>?_))))
 exact wpAny_release ⟨σ,H3,I3,q3⟩
def aU8 (te:TE)(g:TG):TS:=λD σ H=>te σ H λx H1=>g x σ H1 D.nx
theorem bA6 {tg e:Expr}{te:TE}{g:TG}(he:PE X e te)(hg:PG X tg g)(hs:swapsWithSole [tg] e pos.line X.env=pure false:=by rfl)(hw:swappedStores [tg] e X.env=pure none:=by rfl)
  (h1:(assignEach [tg] X.env).map (·.2)=[assign tg X.env]:=by rfl):PS X (.Assign [tg] e pos) (aU8 te g):=by
 refine⟨?_⟩;intro pins s σ H D I h;refine wpAny_Assign_stores (thn (he pins s σ H _ I h) λv s1 ⟨x,H1,I1,r1,q1⟩=>?_) hs hw
 rw[h1];exact thn (hg pins s1 σ H1 x v _ I1 r1 q1) λ_ s2 q=>q
theorem B5 {i:Nat}{x:Str}{e:Expr}{te:TE}{pos':Pos}(hN:X.N.Nodup)(hi:X.N[i]? = some x)(hx:Loc X.env.scope x)(he:PE X e te)(hs:swapsWith e (some (.Name x pos')) pos.line X.env=pure false:=by rfl)(hf:X.fn x=true\/X.env.scope.names.lookup x=some .local:=by first | exact .inl rfl | exact .inr rfl | assumption) :
  PS X (.Assign [.Name x pos'] e pos) (aU8 te (W7 i)):=by
 refine⟨?_⟩;intro pins s σ H D I h;refine wpAny_Assign_Name (thn (he pins s σ H _ I h) λv s1 ⟨y,H1,I1,r1,q1⟩=>?_) hs
 exact aS6 I1 hN hi hx r1 (λs2 I2=>⟨_,H1,I2,q1⟩) hf
end
section
variable {X:Cx}{pos:Pos}
def cH4 (c:TT)(tb:TS):TS:=λD σ H=>∃W:Nat->St->Hp->Prop,(∃m,W m σ H)/\∀m σ H,W m σ H ->
 c σ H λb H1=>if b=true then ∃N:St->Hp->Prop,(∀σ' H',N σ' H'->∃m',m'<m/\W m' σ' H')/\tb {D with nx:=N,ct:=N,bk:=D.nx} σ H1 else D.nx σ H1
theorem aR6 {c:Expr}{body:List Stmt}{tc:TT}{tb:TS}(hp:PassesOwn (model X.prog X.w) X.A X.env X.xe)(hc:PT X c tc)(hb:PSs X body tb):PS X (.While c body [] pos) (cH4 tc tb):=by
 refine⟨?_⟩;intro pins s σ H D I h;obtain ⟨W,⟨m0,w0⟩,turn⟩:=h;refine wpAny_While (codeAny_whileLoop (λn s'=>∃σ' H',Inv X pins σ' H' s'/\W n σ' H') ?_ m0 ⟨σ,H,I,w0⟩)
 rintro n s1 ⟨σ1,H1,I1,w1⟩;refine wpAny_passesOwn hp (thn (hc pins s1 σ1 H1 _ I1 (turn n σ1 H1 w1)) λb s2 ⟨H2,I2,q2⟩=>?_)
 cases b with
 | true=>
  obtain ⟨N,hN,q2⟩:=q2;rw[if_pos rfl];refine wpAny_passesOwn hp (thn (hb pins s2 σ1 H2 _ I2 q2) λf s3 q3=>?_)
  cases f with
  | next=>
   obtain ⟨σ3,H3,I3,n3⟩:=q3;obtain ⟨m',hm,w3⟩:=hN σ3 H3 n3;exact⟨m',hm,σ3,H3,I3,w3⟩
  | cont=>
   obtain ⟨σ3,H3,I3,n3⟩:=q3;obtain ⟨m',hm,w3⟩:=hN σ3 H3 n3;exact⟨m',hm,σ3,H3,I3,w3⟩
  | brk=>exact q3
  | ret v=>exact q3
 | false=>
  rw[if_neg Bool.false_ne_true];exact wpAny_execs_nil ⟨σ1,H2,I2,q2⟩
end
structure It where
 go:Nat->Hp->Prop
 yld:Nat->Hp->V->Hp->Prop
 stop:Nat->Hp->Prop
def aR5 (X:Cx)(pins:List (Addr×Obj))(H:Hp)(b:Addr):Prop:=
 H b=none/\b≠X.env.locals/\b∉X.fs/\(b∈X.ex\/X.s₀.heap.objs.size<=b)/\(∀x c,X.env.cells.lookup x=some c->c≠b)/\∀p∈X.pn++pins,p.1≠b
theorem Inv.fpOk {X:Cx}{pins:List (Addr×Obj)}{σ:St}{H H':Hp}{s:Shared}{b:Addr}(I:Inv X pins σ H s)(hb:s.heap.objs.size<=b)(hn:H' b=none):aR5 X pins H' b:=by
 refine⟨hn,Nat.ne_of_gt (Ab8 I.lt hb),I.nofs hb,.inr (Nat.le_trans I.sz hb),λx c e z=>?_,λp hp z=>?_⟩
 ·obtain ⟨v,q⟩:=I.cell x c e;exact absurd (Ab8 q.lt (by rw[z];exact hb)) (Ad7 _)
 ·exact absurd (Ab8 (Ab3 (I.pin p hp).1) (by rw[z];exact hb)) (Ad7 _)
structure bO0 (P:Program)(w:World)(K:PySem.W.Frag)(tg:Expr)(J:It)(fp:List Addr)(it:Addr)(tn:Nat->Heap->Prop):Prop where
 mem:it∈fp
 obj:∀i h,tn i h->∀b∈fp,∃o,h.get? b=some o/\∀v,o.data≠.cell v
 keep:∀i h h',tn i h->(∀b∈fp,∀o,h.get? b=some o->h'.get? b=some o)->tn i h'
 item:∀(X:Cx),X.prog=P->X.w=w->X.K=K->X.calm=true->∀(i:Nat) (pins:List (Addr×Obj)) (s:Shared) (σ:St) (H:Hp) (E:Value->Shared->Prop),Inv X pins σ H s->(∀b∈fp,aR5 X pins H b)->tn i s.heap->J.go i H ->
  wpAny (model P w) X.A (pyNext (.ref it)) (λr s1=>∃u,r=some u /\
   wpAny (model P w) X.A (letOwnedTupleGo tg (.ref it) u) (λ_ s2=>∃x H',Inv X pins σ H' s2/\RelV x u/\J.yld i H x H'/\tn (i+1) s2.heap/\∀b∈fp,H' b=none) E s1) E s
 done:∀(X:Cx),X.prog=P->X.w=w->X.K=K->X.calm=true->∀(i:Nat) (pins:List (Addr×Obj)) (s:Shared) (σ:St) (H:Hp) (E:Value->Shared->Prop),Inv X pins σ H s->(∀b∈fp,aR5 X pins H b)->tn i s.heap->J.stop i H ->
  wpAny (model P w) X.A (pyNext (.ref it)) (λr s1=>r=none/\Inv X pins σ H s1) E s
 self:∀(A:Around) (i:Nat) (s:Shared) (Q:Value->Shared->Prop) (E:Value->Shared->Prop),tn i s.heap->Q (.ref it) s->wpAny (model P w) A (pyIter (.ref it)) Q E s
abbrev TI:=St->Hp->(It->Hp->Prop)->Prop
def PIE (X:Cx)(pins:List (Addr×Obj))(σ:St)(tg:Expr)(R:It->Hp->Prop)(itv:Value)(s2:Shared):Prop:=
 ∃(it:Addr) (fp:List Addr) (tn:Nat->Heap->Prop) (J:It) (H':Hp),itv=.ref it/\Inv X pins σ H' s2/\bO0 X.prog X.w X.K tg J fp it tn/\tn 0 s2.heap/\(∀b∈fp,aR5 X pins H' b)/\R J H'
structure PI (X:Cx)(tg iter:Expr)(wi:TI):Prop where
 mk ::
 run :
  ∀(pins:List (Addr×Obj)) (s:Shared) (σ:St) (H:Hp) (R:It->Hp->Prop),Inv X pins σ H s->wi σ H R ->
   wpAny (model X.prog X.w) X.A (eval iter X.env) (λv s1=>wpAny (model X.prog X.w) X.A (pyIter v) (PIE X pins σ tg R) X.xe s1) X.xe s
instance {X:Cx} {tg iter:Expr} {wi:TI}:CoeFun (PI X tg iter wi) λ_=>
 (∀(pins:List (Addr×Obj)) (s:Shared) (σ:St) (H:Hp) (R:It->Hp->Prop),Inv X pins σ H s->wi σ H R ->
  wpAny (model X.prog X.w) X.A (eval iter X.env) (λv s1=>wpAny (model X.prog X.w) X.A (pyIter v) (PIE X pins σ tg R) X.xe s1) X.xe s):=⟨PI.run⟩
theorem cH2 {M:Model}{A:Around}{E:Value->Shared->Prop}{s:Shared}{tg:Expr}{it:Addr}{u:Value}{o:Obj}{n:String}{vs:Array Value}{Q:Unit->Shared->Prop}(ho:s.heap.get? it=some o)(hc:o.cls=.type n)(hd:o.data=.fields vs)
  (hn:["enumerate", "zip", "dict_itemiterator", "dict_reverseitemiterator", "odict_iterator", "itertools.zip_longest", "itertools.pairwise"].contains n=false) (hQ:Q () s):wpAny M A (letOwnedTupleGo tg (.ref it) u) Q E s:=by
 unfold letOwnedTupleGo;cases tg <;> first
  | exact wpAny_pure hQ
  | (cases u <;> first
    | exact wpAny_pure hQ
    | (refine wpAny_bind (wpAny_load ho ?_)
       rw[hc,hd];show wpAny M A (if(["enumerate", "zip", "dict_itemiterator", "dict_reverseitemiterator", "odict_iterator", "itertools.zip_longest", "itertools.pairwise"].contains n&&vs[0]? == some (rawInt _))=true then _ else _) Q E s;rw[if_neg (by intro h;rw[hn,Bool.false_and]at h;cases h)]
       exact wpAny_pure hQ))
def Itl (K:PySem.W.Frag)(a:Addr):It:=
 ⟨λi H=>∃xs x,SqL K H a xs/\xs[i]? = some x,λi H x H'=>H'=H/\∀xs,SqL K H a xs->xs[i]? = some x,λi H=>∃xs,SqL K H a xs/\xs.length<=i⟩
def Itt (K:PySem.W.Frag)(a:Addr):It:=
 ⟨λi H=>∃xs x,SqT K H a xs/\xs[i]? = some x,λi H x H'=>H'=H/\∀xs,SqT K H a xs->xs[i]? = some x,λi H=>∃xs,SqT K H a xs/\xs.length<=i⟩
def Itr (lo:Int)(n:Nat):It:=⟨λi _=>i<n,λi H x H'=>H'=H/\x=.int (lo+i),λi _=>n<=i⟩
theorem cC5 {P:Program}{w:World}{K:PySem.W.Frag}{tg:Expr}(a it:Addr):bO0 P w K tg (Itl K a) [it] it (λi h=>h.IsListIter it a i) where
 mem:=by simp
 obj:=λi h st b hb=>by
  have e:b=it:=by simpa using hb
  subst e;obtain ⟨o,e,c,d⟩:=st;exact⟨o,e,λv z=>by rw[d]at z;cases z⟩
 keep:=λi h h' st k=>st.at λo e=>k it (by simp) o e
 item:=by
  intro X hP hw hK hc i pins s σ H E I hf st hg;subst hP hw hK;obtain ⟨xs,x,hq,hx⟩:=hg;obtain ⟨its,rv,p,hz⟩:=I.list hq;obtain ⟨u,hu,ru⟩:=rv.get hx;obtain ⟨f0,f1,f2,f3,f4,f5⟩:=hf it (by simp)
  refine wpAny_pyNext_list_item st p.isList (x:=u) (by simpa using hu) λh' st' sb=>?_
  have I1:Inv X pins σ H {s with heap:=h'}:=I.turned (t':=s.toks) (λb o hb e=>(sb.2 b hb).trans e) f0 f1 f3 f4 f5
  obtain ⟨o,e,c,d⟩:=id st';exact⟨u,rfl,cH2 (s:={s with heap:=h'}) e c d (by decide) ⟨x,H,I1,ru,⟨rfl,λys hy=>by rw[I.list_inj hy hq];exact hx⟩,st',λb hb=>(hf b hb).1⟩⟩
 done:=by
  intro X hP hw hK hc i pins s σ H E I hf st hg;subst hP hw hK;obtain ⟨xs,hq,hx⟩:=hg;obtain ⟨its,rv,p,hz⟩:=I.list hq;obtain ⟨f0,f1,f2,f3,f4,f5⟩:=hf it (by simp)
  have hl:=rv.length
  exact wpAny_pyNext_list_end (I.ok.hd hc) st p.isList (by simp;omega) λh' eb=>⟨rfl,I.turned (t':=s.toks) (λb o hb e=>eb b o hb e) f0 f1 f3 f4 f5⟩
 self:=λ_ _ _ _ _ st h=>wpAny_pyIter_listiter st h
theorem bQ1 {P:Program}{w:World}{K:PySem.W.Frag}{tg:Expr}(a it:Addr):bO0 P w K tg (Itt K a) [it] it (λi h=>h.IsTupleIter it a i) where
 mem:=by simp
 obj:=λi h st b hb=>by
  have e:b=it:=by simpa using hb
  subst e;obtain ⟨o,e,c,d⟩:=st;exact⟨o,e,λv z=>by rw[d]at z;cases z⟩
 keep:=λi h h' st k=>st.at λo e=>k it (by simp) o e
 item:=by
  intro X hP hw hK hc i pins s σ H E I hf st hg;subst hP hw hK;obtain ⟨xs,x,hq,hx⟩:=hg;obtain ⟨its,rv,p,hz⟩:=I.tuple hq;obtain ⟨u,hu,ru⟩:=rv.get hx;obtain ⟨f0,f1,f2,f3,f4,f5⟩:=hf it (by simp)
  refine wpAny_pyNext_tuple_item st (show s.heap.IsTuple a its.toArray from p) (x:=u) (by simpa using hu) λh' st' sb=>?_
  have I1:Inv X pins σ H {s with heap:=h'}:=I.turned (t':=s.toks) (λb o hb e=>(sb.2 b hb).trans e) f0 f1 f3 f4 f5
  obtain ⟨o,e,c,d⟩:=id st';exact⟨u,rfl,cH2 (s:={s with heap:=h'}) e c d (by decide) ⟨x,H,I1,ru,⟨rfl,λys hy=>by rw[I.tuple_inj hy hq];exact hx⟩,st',λb hb=>(hf b hb).1⟩⟩
 done:=by
  intro X hP hw hK hc i pins s σ H E I hf st hg;subst hP hw hK;obtain ⟨xs,hq,hx⟩:=hg;obtain ⟨its,rv,p,hz⟩:=I.tuple hq;obtain ⟨f0,f1,f2,f3,f4,f5⟩:=hf it (by simp)
  have hl:=rv.length
  exact wpAny_pyNext_tuple_end (I.ok.hd hc) st (show s.heap.IsTuple a its.toArray from p) (by simp;omega) λh' eb=>⟨rfl,I.turned (t':=s.toks) (λb o hb e=>eb b o hb e) f0 f1 f3 f4 f5⟩
 self:=λ_ _ _ _ _ st h=>wpAny_pyIter_tupleiter st h
theorem bP3 {P:Program}{w:World}{K:PySem.W.Frag}{tg:Expr}(it:Addr)(lo:Int)(n:Nat):bO0 P w K tg (Itr lo n) [it] it (λi h=>IsRangeIter h it (lo+(i:Nat)*1) ((n:Int)-(i:Nat)) 1) where
 mem:=by simp
 obj:=λi h st b hb=>by
  have e:b=it:=by simpa using hb
  subst e;exact⟨_,st,λv z=>by
   have z':Data.fields _=Data.cell v:=z
   cases z'⟩
 keep:=λi h h' st k=>k it (by simp) _ st
 item:=by
  intro X hP hw hK hc i pins s σ H E I hf st hg;subst hP hw hK;obtain ⟨f0,f1,f2,f3,f4,f5⟩:=hf it (by simp)
  have W:=Walks.range (prog:=X.prog) (w:=X.w) (I.ok.hd hc) it lo 1 n
  refine W.item i s _ _ hg st λv h' tk hv st' kk=>?_
  obtain ⟨t,rfl⟩:=hv;have I1:Inv X pins σ H {s with heap:=h',toks:=tk}:=I.turned (λb o hb e=>kk b o (by simpa using hb) e) f0 f1 f3 f4 f5
  refine⟨_,rfl,cH2 (s:={s with heap:=h',toks:=tk}) (n := "range_iterator") st' rfl rfl (by decide) ⟨.int (lo+i),H,I1,⟨t,?_⟩,⟨rfl,rfl⟩,st',λb hb=>(hf b hb).1⟩⟩
  rw[Int.mul_one]
 done:=by
  intro X hP hw hK hc i pins s σ H E I hf st hg;subst hP hw hK;obtain ⟨f0,f1,f2,f3,f4,f5⟩:=hf it (by simp)
  exact wpAny_pyNext_range_end (I.ok.hd hc) st (by have:n<=i:=hg;omega) λh' eb=>⟨rfl,I.turned (t':=s.toks) (λb o hb e=>eb b o hb e) f0 f1 f3 f4 f5⟩
 self:=λ_ _ _ _ _ st h=>wpAny_pyIter_rangeiter st h
section
variable {X:Cx}{tg:Expr}
def dA2 (K:PySem.W.Frag)(tl:TE):TI:=λσ H R=>tl σ H λx H1=>∃a,x=.ref a/\(∃xs,SqL K H1 a xs)/\R (Itl K a) H1
def dI9 (K:PySem.W.Frag)(tl:TE):TI:=λσ H R=>tl σ H λx H1=>∃a,x=.ref a/\(∃xs,SqT K H1 a xs)/\R (Itt K a) H1
theorem Z9 {l:Expr}{tl:TE}(hl:PE X l tl):PI X tg l (dA2 X.K tl):=by
 refine⟨?_⟩;intro pins s σ H R I h;refine thn (hl pins s σ H _ I h) λv s1 ⟨x,H1,I1,r1,q1⟩=>?_
 obtain ⟨a,e,⟨xs,hq⟩,q⟩:=q1;subst e;cases r1;obtain ⟨its,rv,p,hz⟩:=I1.list hq;refine wpAny_pyIter_list p.isList ?_;refine⟨s1.heap.objs.size,[s1.heap.objs.size],_,_,H1,rfl,I1.kept (t':=s1.toks) λb o e=>Aa6 _ e,cC5 a _,⟨_,Ac3 _ rfl,rfl,rfl⟩,λb hb=>?_,q⟩
 have e:b=s1.heap.objs.size:=by simpa using hb
 subst e;exact I1.fpOk (Aa7 _) (I1.hok.fresh (Aa7 _))
theorem bP7 {l:Expr}{tl:TE}(hl:PE X l tl):PI X tg l (dI9 X.K tl):=by
 refine⟨?_⟩;intro pins s σ H R I h;refine thn (hl pins s σ H _ I h) λv s1 ⟨x,H1,I1,r1,q1⟩=>?_
 obtain ⟨a,e,⟨xs,hq⟩,q⟩:=q1;subst e;cases r1;obtain ⟨its,rv,p,hz⟩:=I1.tuple hq;refine wpAny_pyIter_tuple (show s1.heap.IsTuple a its.toArray from p) ?_
 refine⟨s1.heap.objs.size,[s1.heap.objs.size],_,_,H1,rfl,I1.kept (t':=s1.toks) λb o e=>Aa6 _ e,bQ1 a _,⟨_,Ac3 _ rfl,rfl,rfl⟩,λb hb=>?_,q⟩
 have e:b=s1.heap.objs.size:=by simpa using hb
 subst e;exact I1.fpOk (Aa7 _) (I1.hok.fresh (Aa7 _))
theorem bG9 {pins:List (Addr×Obj)}{σ:St}{H:Hp}{s:Shared}{R:It->Hp->Prop}{E:Value->Shared->Prop}{lo hi:Int}{t u v:Tok}{tk:Nat}(I:Inv X pins σ H s)(h1 : -(2^62)<=lo)(h2:lo<2^62)(h3 : -(2^62)<=hi)(h4:hi<2^62)
  (q:R (Itr lo (hi-lo).toNat) H):wpAny (model X.prog X.w) X.A (pyIter (.ref s.heap.objs.size)) (PIE X pins σ tg R) E {s with heap:=s.heap.push {cls:=.type "range",data:=.fields #[.int lo t,.int hi u,.int 1 v]},toks:=tk}:=by
 refine wpAny_pyIter_range (IsRange.new ..) (small_one h1 h2 h3 h4) ?_;have I1:Inv X pins σ H {s with heap:=s.heap.push {cls:=.type "range",data:=.fields #[.int lo t,.int hi u,.int 1 v]},toks:=tk}:=I.kept λb o e=>Aa6 _ e
 refine⟨(s.heap.push {cls:=.type "range",data:=.fields #[.int lo t,.int hi u,.int 1 v]}).objs.size,[(s.heap.push {cls:=.type "range",data:=.fields #[.int lo t,.int hi u,.int 1 v]}).objs.size],_,_,H,rfl,
  I1.kept (t':=tk) λb o e=>Aa6 _ e,bP3 _ lo (hi-lo).toNat,?_,λb hb=>?_,q⟩
 ·have e1:lo+((0:Nat):Int)*1=lo:=by simp
  have e2:(((hi-lo).toNat:Nat):Int)-((0:Nat):Int)=Builtin.Range.rangeSize lo hi 1:=by rw[rangeSize_one];split <;> omega
  show IsRangeIter _ _ (lo+((0:Nat):Int)*1) ((((hi-lo).toNat:Nat):Int)-((0:Nat):Int)) 1
  rw[e1,e2];exact Ac3 _ rfl
 ·have e:b=(s.heap.push {cls:=.type "range",data:=.fields #[.int lo t,.int hi u,.int 1 v]}).objs.size:=by simpa using hb
  subst e;exact I1.fpOk (Aa7 _) (I1.hok.fresh (Aa7 _))
def cY8 (ta:TA):TI:=λσ H R=>ta σ H λvs H1=>∃j:Int,vs=[.int j] /\ -(2^62)<=j/\j<2^62/\R (Itr 0 j.toNat) H1
def cZ2 (ta:TA):TI:=λσ H R=>ta σ H λvs H1=>∃i j:Int,vs=[.int i,.int j]/\(-(2^62)<=i/\i<2^62 /\ -(2^62)<=j/\j<2^62)/\R (Itr i (j-i).toNat) H1
theorem G0 {a:Expr}{ta:TA}{p pos:Pos}(hg:Gl X "range")(hm:X.mg "range" = none)(ha:PA X [a] ta)(hs:starEach [a] X.env=[(false,eval a X.env)]:=by rfl):PI X tg (.Call (.Name "range" p) [a] [] pos) (cY8 ta):=by
 refine⟨?_⟩;intro pins s σ H R I h;refine Call_ (i8 I hg hm boot_range (PyProof.Rows.callWith_type1 (thn (ha pos pins s σ H _ I h) λus s1 ⟨vs,H1,I1,r1,q1⟩=>?_) hs rfl))
 obtain ⟨j,e,q1,q2,q⟩:=q1;subst e;cases r1 with
 | cons r rr=>
  cases rr
  obtain ⟨t,rfl⟩:=r;exact call_range_1 (bG9 I1 (by omega) (by omega) q1 q2 (by simpa using q))
theorem aL5 {a b:Expr}{ta:TA}{p pos:Pos}(hg:Gl X "range")(hm:X.mg "range" = none)(ha:PA X [a,b] ta)(hs:starEach [a,b] X.env=[(false,eval a X.env),(false,eval b X.env)]:=by rfl)(hs2:starEach [b] X.env=[(false,eval b X.env)]:=by rfl) :
  PI X tg (.Call (.Name "range" p) [a,b] [] pos) (cZ2 ta):=by
 refine⟨?_⟩;intro pins s σ H R I h;refine Call_ (i8 I hg hm boot_range (PyProof.Rows.callWith_type1 (thn (ha pos pins s σ H _ I h) λus s1 ⟨vs,H1,I1,r1,q1⟩=>?_) (by rw[hs,hs2]) (by rw[hs2];rfl)))
 obtain ⟨i,j,e,⟨q1,q2,q3,q4⟩,q⟩:=q1;subst e;cases r1 with
 | cons r rr=>
  cases rr with
  | cons r' rr=>
   cases rr
   obtain ⟨t,rfl⟩:=r;obtain ⟨t',rfl⟩:=r';exact call_range_2 (bG9 I1 q1 q2 q3 q4 q)
def dE7 (wi:TI)(g:TG)(tb:TS):TS:=λD σ H=>wi σ H λJ H1=>∃W:Nat->Nat->St->Hp->Prop,(∃m,W 0 m σ H1)/\∀i m σ H,W i m σ H ->
 (J.stop i H/\D.nx σ H)\/(J.go i H/\∃N:St->Hp->Prop,(∀σ' H',N σ' H'->∃m',m'<m/\W (i+1) m' σ' H')/\∀x H',J.yld i H x H'->g x σ H' λσ2 H2=>tb {D with nx:=N,ct:=N,bk:=D.nx} σ2 H2)
def aA1 (fp:List Addr)(h:Heap):List (Addr×Obj):=fp.filterMap λb=>(h.get? b).map λo=>(b,o)
theorem z0 {fp:List Addr}{h:Heap}{b:Addr}{o:Obj}(hb:b∈fp)(e:h.get? b=some o):(b,o)∈aA1 fp h:=List.mem_filterMap.mpr ⟨b,hb,by rw[e];rfl⟩
theorem aW2 {fp:List Addr}{h:Heap}{p:Addr×Obj}(hp:p∈aA1 fp h):p.1∈fp/\h.get? p.1=some p.2:=by
 obtain ⟨b,hb,e⟩:=List.mem_filterMap.mp hp;cases q:h.get? b with
 | none=>rw[q]at e;cases e
 | some o=>
  rw[q]at e;have e':(b,o)=p:=Ab4 e;subst e';exact⟨hb,q⟩
theorem Inv.pinned {pins:List (Addr×Obj)}{σ:St}{H:Hp}{s:Shared}{fp:List Addr}(I:Inv X pins σ H s)(hf:∀b∈fp,aR5 X pins H b)(ho:∀b∈fp,∃o,s.heap.get? b=some o/\∀v,o.data≠.cell v):Inv X (pins++aA1 fp s.heap) σ H s:=
 I.pins_of λp hp=>(Aa0.mp hp).elim (λz=>I.pin p (Ac1 _ z)) λz=>by
  obtain ⟨hb,e⟩:=aW2 z;obtain ⟨f0,f1,f2,_⟩:=hf p.1 hb;obtain ⟨o,e',d⟩:=ho p.1 hb;rw[e]at e';cases e';exact⟨e,f0,f1,f2,d⟩
theorem Inv.unpinned {pins pl:List (Addr×Obj)}{σ:St}{H:Hp}{s:Shared}(I:Inv X (pins++pl) σ H s):Inv X pins σ H s:=I.pins_of λp hp=>I.pin p (Ac1 _ (List.mem_append_left _ hp))
theorem L6 {iter:Expr}{body:List Stmt}{wi:TI}{g:TG}{tb:TS}{pos:Pos}(hp:PassesOwn (model X.prog X.w) X.A X.env X.xe)(hc:X.calm=true)(hi:PI X tg iter wi)(hg:PG X tg g)(hb:PSs X body tb)
  (hs:∀x,foldedSetIterable iter X.env x=pure x:=by intro _;rfl):PS X (.For tg iter body [] pos) (dE7 wi g tb):=by
 refine⟨?_⟩;intro pins s σ H D I h;refine wpAny_For (thn (hi pins s σ H _ I h) λv s1 h1=>thn h1 λitv s2 h2=>?_) hs
 obtain ⟨it,fp,tn,J,H2,e,I2,T,st2,f2,W,⟨m0,w0⟩,turn⟩:=h2;subst e;have stat:∀{H':Hp},(∀b∈fp,H' b=none)->∀b∈fp,aR5 X pins H' b:=λhn b hb=>⟨hn b hb,(f2 b hb).2⟩
 refine codeAny_forLoop_any (λn s'=>∃i σ' H',Inv X pins σ' H' s'/\tn i s'.heap/\(∀b∈fp,H' b=none)/\W i n σ' H') ?_ m0 ⟨0,σ,H2,I2,st2,λb hb=>(f2 b hb).1,w0⟩
 rintro n s3 ⟨i,σ3,H3,I3,st3,fr3,w3⟩;rcases turn i n σ3 H3 w3 with ⟨stop,qn⟩ | ⟨go,N,hN,step⟩
 ·refine wpAny_passesOwn hp (thn (T.done X rfl rfl rfl hc i pins s3 σ3 H3 X.xe I3 (stat fr3) st3 stop) λr s4 ⟨hr,I4⟩=>?_)
  subst hr;exact wpAny_execs_nil ⟨σ3,H3,I4,qn⟩
 ·refine wpAny_passesOwn hp (thn (T.item X rfl rfl rfl hc i pins s3 σ3 H3 X.xe I3 (stat fr3) st3 go) λr s4 ⟨u,hr,h4⟩=>?_)
  subst hr;refine wpAny_passesOwn hp (thn h4 λ_ s5 ⟨x,H5,I5,r5,y5,st5,fr5⟩=>?_)
  have I5':=I5.pinned (stat fr5) (T.obj _ _ st5)
  refine wpAny_passesOwn hp (thn (hg _ s5 σ3 H5 x u _ I5' r5 (step x H5 y5)) λ_ s6 ⟨σ6,H6,I6,q6⟩=>?_)
  refine wpAny_passesOwn hp (thn (hb _ s6 σ6 H6 _ I6 q6) λf s7 q7=>?_)
  have again:∀{σ7:St} {H7:Hp},Inv X (pins++aA1 fp s5.heap) σ7 H7 s7->N σ7 H7->∃m,m<n/\∃i σ' H',Inv X pins σ' H' s7/\tn i s7.heap/\(∀b∈fp,H' b=none)/\W i m σ' H':=λ{σ7 H7} I7 n7=>by
   obtain ⟨m',hm,w7⟩:=hN σ7 H7 n7;refine⟨m',hm,i+1,σ7,H7,I7.unpinned,T.keep _ _ _ st5 λb hb o e=>(I7.pin (b,o) (Ac1 _ (Ac1 _ (z0 hb e)))).1,λb hb=>?_,w7⟩
   obtain ⟨o,e,d⟩:=T.obj _ _ st5 b hb;exact(I7.pin (b,o) (Ac1 _ (Ac1 _ (z0 hb e)))).2.1
  cases f with
  | next=>obtain ⟨σ7,H7,I7,n7⟩:=q7;exact again I7 n7
  | cont=>obtain ⟨σ7,H7,I7,n7⟩:=q7;exact again I7 n7
  | brk=>obtain ⟨σ7,H7,I7,q7⟩:=q7;exact⟨σ7,H7,I7.unpinned,q7⟩
  | ret v=>obtain ⟨x7,σ7,H7,I7,r7,q7⟩:=q7;exact⟨x7,σ7,H7,I7.unpinned,r7,q7⟩
end
abbrev R2:=V->V->Hp->VK->Prop
def OpR (X:Cx)(f:Value->Value->Sem Value)(r:R2):Prop:=
 ∀(pins:List (Addr×Obj)) (s:Shared) (σ:St) (H:Hp) (x y:V) (v u:Value) (Q:VK),Inv X pins σ H s->RelV x v->RelV y u->r x y H Q ->
  wpAny (model X.prog X.w) X.A (f v u) (EP X pins σ Q) X.xe s
def UnR (X:Cx)(f:Value->Sem Value)(r:V->Hp->VK->Prop):Prop:=
 ∀(pins:List (Addr×Obj)) (s:Shared) (σ:St) (H:Hp) (x:V) (v:Value) (Q:VK),Inv X pins σ H s->RelV x v->r x H Q ->
  wpAny (model X.prog X.w) X.A (f v) (EP X pins σ Q) X.xe s
def W4 (X:Cx)(f:Value)(r:List V->Hp->VK->Prop):Prop:=
 ∀(pins:List (Addr×Obj)) (s:Shared) (σ:St) (H:Hp) (xs:List V) (us:List Value) (Q:VK),Inv X pins σ H s->Vals xs us->r xs H Q ->
  wpAny (model X.prog X.w) X.A (call f us) (EP X pins σ Q) X.xe s
def tOp (r:R2)(ta tb:TE):TE:=λσ H Q=>ta σ H λx H1=>tb σ H1 λy H2=>r x y H2 Q
def tUn (r:V->Hp->VK->Prop)(ta:TE):TE:=λσ H Q=>ta σ H λx H1=>r x H1 Q
def rI (C:Int->Int->Prop)(g:Int->Int->V):R2:=λx y H Q=>∃i j,x=.int i/\y=.int j/\C i j/\Q (g i j) H
def rI0 (g:Int->Int->V):R2:=λx y H Q=>∃i j,x=.int i/\y=.int j/\Q (g i j) H
def rU (g:Int->V):V->Hp->VK->Prop:=λx H Q=>∃i,x=.int i/\Q (g i) H
section
variable {X:Cx}{a b c:Expr}{ta tb tc:TE}{pos:Pos}
theorem dF9 (ha:PE X a ta)(hb:PE X b tb){pins:List (Addr×Obj)}{s:Shared}{σ:St}{H:Hp}{R:V->V->Hp->Prop}(I:Inv X pins σ H s)
  (h:ta σ H λx H1=>tb σ H1 λy H2=>R x y H2) {Q:Value->Shared->Prop} {f:Value->Value->Sem Value}
  (hf:∀v u s2 x y H2,Inv X pins σ H2 s2->RelV x v->RelV y u->R x y H2->wpAny (model X.prog X.w) X.A (f v u) Q X.xe s2) :
  wpAny (model X.prog X.w) X.A (eval a X.env) (λv s₁=>wpAny (model X.prog X.w) X.A (eval b X.env) (λu s₂=>wpAny (model X.prog X.w) X.A (f v u) Q X.xe s₂) X.xe s₁) X.xe s:=by
 refine thn (ha pins s σ H _ I h) λv s1 ⟨x,H1,I1,r1,q1⟩=>?_
 refine thn (hb pins s1 σ H1 _ I1 q1) λu s2 ⟨y,H2,I2,r2,q2⟩=>?_
 exact hf v u s2 x y H2 I2 r1 r2 q2
theorem B4 {op:Operator}{r:R2}(ho:OpR X (binaryOp op) r)(ha:PE X a ta)(hb:PE X b tb):PE X (.BinOp a op b pos) (tOp r ta tb):=by
 refine⟨?_⟩;intro pins s σ H Q I h;exact wpAny_BinOp (dF9 ha hb I h λv u s2 x y H2 I2 rx ry q=>ho pins s2 σ H2 x y v u Q I2 rx ry q)
theorem aI0 {op:UnaryOp}{r:V->Hp->VK->Prop}(ho:UnR X (unaryOp op) r)(ha:PE X a ta):PE X (.UnaryOp op a pos) (tUn r ta):=by
 refine⟨?_⟩;intro pins s σ H Q I h;exact UnaryOp_ (thn (ha pins s σ H _ I h) λv s1 ⟨x,H1,I1,r1,q1⟩=>ho pins s1 σ H1 x v Q I1 r1 q1)
theorem opI {f:Value->Value->Sem Value}{C:Int->Int->Prop}{g:Int->Int->Int}
  (rule:∀(i j:Int) (t u:Tok) (s:Shared) (Q:Value->Shared->Prop) (E:Value->Shared->Prop),C i j->Q (.int (g i j) s.toks) {s with toks:=s.toks+1}->wpAny (model X.prog X.w) X.A (f (.int i t) (.int j u)) Q E s) :
  OpR X f (rI C λi j=>.int (g i j)):=by
 intro pins s σ H x y v u Q I rx ry h;obtain ⟨i,j,rfl,rfl,hc,q⟩:=h;obtain ⟨t,rfl⟩:=rx;obtain ⟨t',rfl⟩:=ry;exact rule i j t t' s _ _ hc ⟨.int (g i j),H,I.tok _,⟨_,rfl⟩,q⟩
theorem dJ3 {f:Value->Value->Sem Value}{g:Int->Int->Int}
  (rule:∀(i j:Int) (t u:Tok) (s:Shared) (Q:Value->Shared->Prop) (E:Value->Shared->Prop),Q (.int (g i j) s.toks) {s with toks:=s.toks+1}->wpAny (model X.prog X.w) X.A (f (.int i t) (.int j u)) Q E s) :
  OpR X f (rI0 λi j=>.int (g i j)):=by
 intro pins s σ H x y v u Q I rx ry h;obtain ⟨i,j,rfl,rfl,q⟩:=h;obtain ⟨t,rfl⟩:=rx;obtain ⟨t',rfl⟩:=ry;exact rule i j t t' s _ _ ⟨.int (g i j),H,I.tok _,⟨_,rfl⟩,q⟩
theorem cT1 {f:Value->Value->Sem Value}{g:Int->Int->Bool}
  (rule:∀(i j:Int) (t u:Tok) (s:Shared) (Q:Value->Shared->Prop) (E:Value->Shared->Prop),Q (.bool (g i j)) s->wpAny (model X.prog X.w) X.A (f (.int i t) (.int j u)) Q E s) :
  OpR X f (rI0 λi j=>.bl (g i j)):=by
 intro pins s σ H x y v u Q I rx ry h;obtain ⟨i,j,rfl,rfl,q⟩:=h;obtain ⟨t,rfl⟩:=rx;obtain ⟨t',rfl⟩:=ry;exact rule i j t t' s _ _ ⟨.bl (g i j),H,I,rfl,q⟩
def dP0 (i j:Int):Prop:=0<j/\j<1073741824
theorem J8:OpR X (binaryOp .Add) (rI0 λi j=>.int (i+j)):=dJ3 λ_ _ _ _ _ _ _ q=>add_int q
theorem X8:OpR X (binaryOp .Sub) (rI0 λi j=>.int (i-j)):=dJ3 λ_ _ _ _ _ _ _ q=>sub_int q
theorem aD5:OpR X (binaryOp .FloorDiv) (rI dP0 λi j=>.int (i / j)):=opI λi j _ _ _ _ _ hc q=>by
 have h1:(0:Int)<j:=hc.1
 have h2:j<1073741824:=hc.2
 exact floordiv_int (by omega) (by rw[Int.fdiv_eq_ediv_of_nonneg i (by omega)];exact q) (.inl (PyProof.noPylong_small (by omega)))
theorem d7:OpR X (binaryOp .Mod) (rI (λ_ j=>0<j) λi j=>.int (i % j)):=opI λi j _ _ _ _ _ hc q=>by
 have h1:(0:Int)<j:=hc
 exact mod_int' (by omega) (by rw[Int.fmod_eq_emod_of_nonneg i (by omega)];exact q)
theorem unI {f:Value->Sem Value}{g:Int->Int}
  (rule:∀(i:Int) (t:Tok) (s:Shared) (Q:Value->Shared->Prop) (E:Value->Shared->Prop),Q (.int (g i) s.toks) {s with toks:=s.toks+1}->wpAny (model X.prog X.w) X.A (f (.int i t)) Q E s) :
  UnR X f (rU λi=>.int (g i)):=by
 intro pins s σ H x v Q I rx h;obtain ⟨i,rfl,q⟩:=h;obtain ⟨t,rfl⟩:=rx;exact rule i t s _ _ ⟨.int (g i),H,I.tok _,⟨_,rfl⟩,q⟩
theorem p8:UnR X (unaryOp .USub) (rU λi=>.int (-i)):=unI λ_ _ _ _ _ q=>neg_int q
end
def dL3:V->V->Bool
 | .non,.non=>true | .non,.int _=>true | .int _,.non=>true | .non,.bl _=>true | .bl _,.non=>true | .non,.str _=>true | .str _,.non=>true
 | .int _,.int _=>true | .bl _,.bl _=>true | .str _,.str _=>true | .byt _,.byt _=>true
 | .int _,.str _=>true | .str _,.int _=>true | .bl _,.str _=>true | .str _,.bl _=>true
 | _,_=>false
def rEq:R2:=λx y H Q=>dL3 x y=true/\Q (.bl (decide (x=y))) H
def rNe:R2:=λx y H Q=>dL3 x y=true/\Q (.bl (!decide (x=y))) H
theorem bX5 {i j:Int}:decide (V.int i=V.int j)=(i==j):=by
 rw[Bool.eq_iff_iff]
 simp
theorem cK1 {i j:Bool}:decide (V.bl i=V.bl j)=(i==j):=by
 rw[Bool.eq_iff_iff]
 simp
theorem bX3 {i j:Str}:decide (V.str i=V.str j)=(i==j):=by
 rw[Bool.eq_iff_iff]
 simp
theorem bZ0 {i j:Array UInt8}:decide (V.byt i=V.byt j)=(i.toList==j.toList):=by
 rw[Bool.eq_iff_iff];cases i;cases j
 simp
section
variable {X:Cx}{a b c:Expr}{ta tb tc:TE}{pos:Pos}
theorem E4 {pins:List (Addr×Obj)}{σ:St}{H:Hp}{s:Shared}{Q:VK}{k k':Bool}(I:Inv X pins σ H s)(q:Q (.bl k) H)(e:k=k'):EP X pins σ Q (.bool k') s:=by
 subst e;exact⟨.bl k,H,I,rfl,q⟩
theorem bN9:OpR X (compareOp .Eq) rEq:=by
 intro pins s σ H x y v u Q I rx ry h;obtain ⟨hs,q⟩:=h;cases x with
 | non=>
  cases rx
  cases y with
  | non=>cases ry;exact PySem.EqNone.eq_none_none (E4 I q (by simp))
  | bl j=>cases ry;exact PySem.EqNone.eq_none_bool (E4 I q (by simp))
  | int j=>obtain ⟨t',rfl⟩:=ry;exact PySem.EqNone.eq_none_int (E4 I q (by simp))
  | str j=>obtain ⟨t',rfl⟩:=ry;exact PySem.EqNone.eq_none_str (E4 I q (by simp))
  | _=>exact absurd (show false=true from hs) Bool.false_ne_true
 | bl i=>
  cases rx
  cases y with
  | non=>cases ry;exact PySem.EqNone.eq_bool_none (E4 I q (by simp))
  | bl j=>cases ry;exact eq_bool (E4 I q cK1)
  | str j=>obtain ⟨t',rfl⟩:=ry;exact PySem.EqMixed.eq_bool_str (E4 I q (by simp))
  | _=>exact absurd (show false=true from hs) Bool.false_ne_true
 | int i=>
  obtain ⟨t,rfl⟩:=rx;cases y with
  | non=>cases ry;exact PySem.EqNone.eq_int_none (E4 I q (by simp))
  | int j=>obtain ⟨t',rfl⟩:=ry;exact eq_int (E4 I q bX5)
  | str j=>obtain ⟨t',rfl⟩:=ry;exact PySem.EqMixed.eq_int_str (E4 I q (by simp))
  | _=>exact absurd (show false=true from hs) Bool.false_ne_true
 | str i=>
  obtain ⟨t,rfl⟩:=rx;cases y with
  | non=>cases ry;exact PySem.EqNone.eq_str_none (E4 I q (by simp))
  | bl j=>cases ry;exact PySem.EqMixed.eq_str_bool (E4 I q (by simp))
  | int j=>obtain ⟨t',rfl⟩:=ry;exact PySem.EqMixed.eq_str_int (E4 I q (by simp))
  | str j=>obtain ⟨t',rfl⟩:=ry;exact eq_str (E4 I q bX3)
  | _=>exact absurd (show false=true from hs) Bool.false_ne_true
 | byt i=>
  obtain ⟨t,rfl⟩:=rx;cases y with
  | byt j=>obtain ⟨t',rfl⟩:=ry;exact PySem.W.eq_bytes (E4 I q bZ0)
  | _=>exact absurd (show false=true from hs) Bool.false_ne_true
 | _=>cases y <;> exact absurd (show false=true from hs) Bool.false_ne_true
theorem dI4:OpR X (compareOp .NotEq) rNe:=by
 intro pins s σ H x y v u Q I rx ry h;obtain ⟨hs,q⟩:=h;cases x with
 | non=>
  cases rx
  cases y with
  | non=>cases ry;exact PySem.EqNone.ne_none_none (E4 I q (by simp))
  | bl j=>cases ry;exact PySem.EqNone.ne_none_bool (E4 I q (by simp))
  | int j=>obtain ⟨t',rfl⟩:=ry;exact PySem.EqNone.ne_none_int (E4 I q (by simp))
  | str j=>obtain ⟨t',rfl⟩:=ry;exact PySem.EqNone.ne_none_str (E4 I q (by simp))
  | _=>exact absurd (show false=true from hs) Bool.false_ne_true
 | bl i=>
  cases rx
  cases y with
  | non=>cases ry;exact PySem.EqNone.ne_bool_none (E4 I q (by simp))
  | bl j=>cases ry;exact ne_bool (E4 I q (congrArg not cK1))
  | str j=>obtain ⟨t',rfl⟩:=ry;exact PySem.EqMixed.ne_bool_str (E4 I q (by simp))
  | _=>exact absurd (show false=true from hs) Bool.false_ne_true
 | int i=>
  obtain ⟨t,rfl⟩:=rx;cases y with
  | non=>cases ry;exact PySem.EqNone.ne_int_none (E4 I q (by simp))
  | int j=>obtain ⟨t',rfl⟩:=ry;exact ne_int (E4 I q (congrArg not bX5))
  | str j=>obtain ⟨t',rfl⟩:=ry;exact PySem.EqMixed.ne_int_str (E4 I q (by simp))
  | _=>exact absurd (show false=true from hs) Bool.false_ne_true
 | str i=>
  obtain ⟨t,rfl⟩:=rx;cases y with
  | non=>cases ry;exact PySem.EqNone.ne_str_none (E4 I q (by simp))
  | bl j=>cases ry;exact PySem.EqMixed.ne_str_bool (E4 I q (by simp))
  | int j=>obtain ⟨t',rfl⟩:=ry;exact PySem.EqMixed.ne_str_int (E4 I q (by simp))
  | str j=>obtain ⟨t',rfl⟩:=ry;exact ne_str (E4 I q (congrArg not bX3))
  | _=>exact absurd (show false=true from hs) Bool.false_ne_true
 | byt i=>
  obtain ⟨t,rfl⟩:=rx;cases y with
  | byt j=>obtain ⟨t',rfl⟩:=ry;exact PySem.W.ne_bytes (E4 I q (congrArg not bZ0))
  | _=>exact absurd (show false=true from hs) Bool.false_ne_true
 | _=>cases y <;> exact absurd (show false=true from hs) Bool.false_ne_true
theorem bV0:OpR X (compareOp .Lt) (rI0 λi j=>.bl (decide (i<j))):=cT1 λ_ _ _ _ _ _ _ q=>lt_int q
theorem cY5:OpR X (compareOp .LtE) (rI0 λi j=>.bl (decide (i<=j))):=cT1 λ_ _ _ _ _ _ _ q=>le_int q
theorem aW9:OpR X (compareOp .Gt) (rI0 λi j=>.bl (decide (j<i))):=cT1 λ_ _ _ _ _ _ _ q=>gt_int q
theorem dL0:OpR X (compareOp .GtE) (rI0 λi j=>.bl (decide (j<=i))):=cT1 λ_ _ _ _ _ _ _ q=>ge_int q
theorem M4 (b:Expr){op:CmpOp}(h:op≠.In:=by decide)(h2:op≠.NotIn:=by decide):behindInMarks op b=false:=by
 have e1:(op==CmpOp.In)=false:=by cases op <;> first | rfl | exact absurd rfl h
 have e2:(op==CmpOp.NotIn)=false:=by cases op <;> first | rfl | exact absurd rfl h2
 cases b <;> simp[behindInMarks,e1,e2]
theorem aI7 {op:CmpOp}{r:R2}(ho:OpR X (compareOp op) r)(ha:PE X a ta)(hb:PE X b tb)(hm:behindInMarks op b=false):PE X (.Compare a [op] [b] pos) (tOp r ta tb):=by
 refine⟨?_⟩;intro pins s σ H Q I h;exact wpAny_Compare1 (dF9 ha hb I h λv u s2 x y H2 I2 rx ry q=>ho pins s2 σ H2 x y v u Q I2 rx ry q) hm
def bH2 (t:TE):TT:=λσ H Q=>t σ H λx H'=>∃k,x=.bl k/\Q k H'
theorem G7 {op:CmpOp}{r:R2}(ho:OpR X (compareOp op) r)(ha:PE X a ta)(hb:PE X b tb)(hm:behindInMarks op b=false):PT X (.Compare a [op] [b] pos) (bH2 (tOp r ta tb)):=by
 refine⟨?_⟩;intro pins s σ H Q I h;refine wpAny_isTrue_Compare1 (thn (ha pins s σ H _ I h) λv s1 ⟨x,H1,I1,r1,q1⟩=>thn (hb pins s1 σ H1 _ I1 q1) λu s2 ⟨y,H2,I2,r2,q2⟩=>
  thn (ho pins s2 σ H2 x y v u _ I2 r1 r2 q2) λc s3 ⟨z,H3,I3,r3,k,e,q3⟩=>?_) hm
 subst e;cases r3;exact wpAny_truthy_bool ⟨H3,I3,q3⟩
def cN5 (r r':R2)(ta tb tc:TE):TE:=λσ H Q=>ta σ H λx H1=>tb σ H1 λy H2=>r x y H2 λz H3=>∃k,z=.bl k /\
 (if k=true then tc σ H3 λw' H4=>r' y w' H4 Q else Q (.bl false) H3)
theorem bL8 {op op':CmpOp}{r r':R2}(ho:OpR X (compareOp op) r)(ho':OpR X (compareOp op') r')(ha:PE X a ta)(hb:PE X b tb)(hc:PE X c tc)
  (hm:lastMarks [op,op'] [b,c]=false:=by with_unfolding_all rfl):PE X (.Compare a [op,op'] [b,c] pos) (cN5 r r' ta tb tc):=by
 refine⟨?_⟩;intro pins s σ H Q I h;refine Compare_chain (thn (ha pins s σ H _ I h) λv s1 ⟨x,H1,I1,r1,q1⟩=>chain_link (thn (hb pins s1 σ H1 _ I1 q1) λu s2 ⟨y,H2,I2,r2,q2⟩=>
  thn (ho pins s2 σ H2 x y v u _ I2 r1 r2 q2) λd s3 ⟨z,H3,I3,r3,k,e,q3⟩=>?_)) hm
 subst e;cases r3;refine wpAny_truthy_bool ?_;cases k with
 | false=>exact ite_ff ⟨.bl false,H3,I3,rfl,q3⟩
 | true=>exact ite_tt (chain_last (thn (hc pins s3 σ H3 _ I3 q3) λw' s4 ⟨z',H4,I4,r4,q4⟩=>ho' pins s4 σ H4 y z' u w' Q I4 r2 r4 q4))
theorem aM2:(sizeLine:Nat)<2^63:=by rw[sizeLine_eq];decide
theorem aB1 {x:V}{us:List Value}(r:Vals [x] us):∃u,us=[u]/\RelV x u:=by
 cases r with
 | cons r1 r2=>cases r2;exact⟨_,rfl,r1⟩
end
structure Cls (K:PySem.W.Frag)(C:Addr):Prop where
 pg:PySem.W.plainGet K C Str.empty=true
 hd:PySem.W.hasDictIn K C=true
 po:PySem.W.plainOver K C=true
 sa:PySem.W.findIn K (.ref C) "__setattr__" = some (some (.builtin "object.__setattr__"))
structure Room (k:Nat)(A:Around):Prop where
 hd:A.handled=none
 dp:A.depth+3*k+5<recursionLimit
 un:A.units+16*k+200<cLine
theorem Room.mono {j k:Nat}{A:Around}(r:Room k A)(h:j<=k):Room j A:=⟨r.hd,by have:=r.dp;omega,by have:=r.un;omega⟩
theorem Room.deeper {k:Nat}{A:Around}(r:Room (k+1) A)(env:Env):Room k (A.deeper env):=
 ⟨r.hd,by have:=r.dp;show A.depth+1+3*k+5<_;omega,by have:=r.un;show A.units+3+16*k+200<_;omega⟩
theorem Room.depth {k:Nat}{A:Around}(r:Room k A):A.depth<recursionLimit:=by have:=r.dp;omega
theorem Room.units {k:Nat}{A:Around}(r:Room k A):A.units+64<cLine:=by have:=r.un;omega
def W1:TA:=λ_ H Q=>Q [] H
def E9 (ta:TE)(tr:TA):TA:=λσ H Q=>ta σ H λx H1=>tr σ H1 λxs H2=>Q (x::xs) H2
section
variable {X:Cx}{e:Expr}{es:List Expr}{te:TE}{t:TA}{pos:Pos}
theorem A3:PA X [] W1:=⟨λ_ _ _ _ H Q I h=>Calls.spliced_nil ⟨[],H,I,.nil,h⟩⟩
theorem cX7 (ha:PE X e te)(hr:PA X es t)(hs:starEach (e::es) X.env=(false,eval e X.env)::starEach es X.env:=by rfl):PA X (e::es) (E9 te t):=by
 refine⟨?_⟩;intro pos pins s σ H Q I h;rw[hs];show wpAny _ _ (spliced ((false,eval e X.env)::backTo pos (starEach es X.env))) _ _ s;refine Calls.spliced_cons (thn (ha pins s σ H _ I h) λu s1 ⟨x,H1,I1,r1,q1⟩=>?_)
 exact thn (hr pos pins s1 σ H1 _ I1 q1) λus s2 ⟨xs,H2,I2,r2,q2⟩=>⟨x::xs,H2,I2,.cons r1 r2,q2⟩
def bH7 (t:TA):TE:=λσ H Q=>t σ H λxs H1=>xs.length<=sizeLine/\∀p,H1 p=none->Q (.ref p) (upd H1 p (.tup xs))
def dF7 (t:TA):TE:=λσ H Q=>t σ H λxs H1=>xs.length<=sizeLine/\∀p,H1 p=none->Q (.ref p) (upd H1 p (.lst xs))
theorem J0 {x1}(h:PA X es t):PE X (.Tuple es x1 pos) (bH7 t):=by
 refine⟨?_⟩;intro pins s σ H Q I hq;refine wpAny_Tuple_spliced (thn (h pos pins s σ H _ I hq) λus s1 ⟨xs,H1,I1,r,z,q⟩=>⟨by rw[<- r.length];exact z,?_⟩)
 have hf:H1 s1.heap.objs.size=none:=I1.hok.fresh (Aa7 _)
 refine⟨.ref s1.heap.objs.size,upd H1 s1.heap.objs.size (.tup xs),I1.laid (t':=s1.toks) (λb u e=>Aa6 _ e) (Aa7 _) ?_,rfl,q _ hf⟩
 exact⟨z,us,r,⟨_,Ac3 _ rfl,rfl,⟨_,rfl⟩,rfl⟩⟩
theorem C5 (h:PA X es t):PE X (.List es pos) (dF7 t):=by
 refine⟨?_⟩;intro pins s σ H Q I hq;refine wpAny_List_spliced (thn (h pos pins s σ H _ I hq) λus s1 ⟨xs,H1,I1,r,z,q⟩=>⟨by rw[<- r.length];exact z,?_⟩)
 have hf:H1 s1.heap.objs.size=none:=I1.hok.fresh (Aa7 _)
 refine⟨.ref s1.heap.objs.size,upd H1 s1.heap.objs.size (.lst xs),I1.laid (t':=s1.toks) (λb u e=>Aa6 _ e) (Aa7 _) ?_,rfl,q _ hf⟩
 exact⟨z,us,0,r,Ac3 _ rfl⟩
end
abbrev Sp:=List V->Hp->VK->XK->Prop
abbrev CXT:=List Env->Hp->Shared->XK->Value->Shared->Prop
structure cB8 (P:Program)(w:World)(K:PySem.W.Frag)(mg:Str->Option Value)(base:Heap)(A:Around)(outer:List Env)(s:Shared)(H:Hp):Prop where
 frames:A.frames=some outer
 mod:Mod K mg base
 bs:∀b o,base.get? b=some o->s.heap.get? b=some o/\H b=none
 bsz:base.objs.size<=s.heap.objs.size
 funs:s.heap.FunFrames base outer
 frf:∀b∈frs outer,H b=none
 hok:HOk P w H s.heap
 bare:AllBare s.gens
def CE (outer:List Env)(P:Program)(w:World)(H:Hp)(s:Shared)(Q:VK)(u:Value)(s':Shared):Prop:=
 ∃v H',s'.os=s.os/\AllBare s'.gens/\Un (frs outer) [] H H' s.heap s'.heap/\HOk P w H' s'.heap/\RelV v u/\Q v H'
def CR (CX:CXT)(outer:List Env)(P:Program)(w:World)(H:Hp)(s:Shared)(Q:VK)(E:XK)(r:Result)(s':Shared):Prop:=
 match r with
 | .ok (.ret u)=>CE outer P w H s Q u s'
 | .ok _=>False
 | .error e=>CX outer H s E e s'
structure E3 (P:Program)(w:World)(K:PySem.W.Frag)(mg:Str->Option Value)(base:Heap)(CX:CXT)(k:Nat)(f:Addr)(fd:FuncData)(ps:List Str)(sp:Sp):Prop where
 len:∀vs H Q E,sp vs H Q E->vs.length=ps.length
 run:∀(A:Around) (outer:List Env) (s:Shared) (H:Hp) (args:Args) (us:List Value) (vs:List V) (Q:VK) (E:XK),Room k A->cB8 P w K mg base A outer s H->BindsTo s fd args (ps.zip us)->Vals vs us->sp vs H Q E ->
  codeAny (model P w) A (.call (.ref f) args) (CR CX outer P w H s Q E) s
section
variable {X:Cx}{pins:List (Addr×Obj)}{σ:St}{H:Hp}{s s':Shared}
theorem Inv.env0 (I:Inv X pins σ H s):cB8 X.prog X.w X.K X.mg X.base X.A X.stack s H:=
 ⟨I.ok.frames,I.ok.mod,I.bs,Nat.le_trans I.ok.bsz I.sz,I.stack,I.stkFree,I.hok,I.bare⟩
theorem Inv.after {Q:VK}{u:Value}(I:Inv X pins σ H s)(h:CE X.stack X.prog X.w H s Q u s'):EP X pins σ Q u s':=by
 obtain ⟨v,H',os,bare,un,hok,r,q⟩:=h;obtain ⟨hh,g,d,t,os'⟩:=s';obtain rfl:os'=s.os:=os;exact⟨v,H',I.call (h':=hh) (g':=g) (d':=d) (t':=t) (ch:=[]) un hok bare (λb z=>absurd z (by simp)),r,q⟩
end
def aT5 (sp:Sp)(dvs:List V)(E:XK)(t:TA):TE:=λσ H Q=>t σ H λvs H1=>sp (vs++dvs) H1 Q E
def Binds (K:PySem.W.Frag)(fd:FuncData)(ps:List Str)(ds:List Value):Prop:=
 ∀(s:Shared) (us:List Value),K.In s.heap->(us++ds).length=ps.length->BindsTo s fd ⟨us,[]⟩ (ps.zip (us++ds))
theorem Binds.all {K:PySem.W.Frag}{fd:FuncData}{ps:List Str}(h:∀us:List Value,us.length=ps.length->bindArgs fd ⟨us,[]⟩=pure (ps.zip us)):Binds K fd ps []:=λs us _ hl=>by
 rw[List.append_nil]at hl ⊢;exact .of_eq (h us hl)
def bC5 (CX:CXT)(X:Cx)(E:XK):Prop:=∀(pins:List (Addr×Obj)) (σ:St) (H:Hp) (s:Shared) (e:Value) (s':Shared),Inv X pins σ H s->CX X.stack H s E e s'->X.xe e s'
section
variable {X:Cx}{CX:CXT}{k:Nat}{f C:Addr}{fd:FuncData}{ps:List Str}{sp:Sp}{dvs:List V}{ds:List Value}{E:XK}{x m:Str}{p pos apos:Pos}{e o:Expr}{es:List Expr}{ta:TE}{t:TA}
theorem dH8 {pins:List (Addr×Obj)}{σ:St}{H:Hp}{s:Shared}{Q:VK}{us:List Value}{vs:List V}(F:E3 X.prog X.w X.K X.mg X.base CX k f fd ps sp)(hr:Room k X.A)(hb:Binds X.K fd ps ds)(hd:Vals dvs ds)(hx:bC5 CX X E)
  (I:Inv X pins σ H s) (r:Vals vs us) (h:sp (vs++dvs) H Q E):wpAny (model X.prog X.w) X.A (call (.ref f) us) (EP X pins σ Q) X.xe s:=by
 have r2:Vals (vs++dvs) (us++ds):=r.append hd
 have hl:(us++ds).length=ps.length:=by rw[<- r2.length];exact F.len _ _ _ _ h
 refine wpAny_call (codeAny_mono (F.run X.A X.stack s H ⟨us,[]⟩ (us++ds) (vs++dvs) Q E hr I.env0 (hb s us I.kIn hl) r2 h) λr s' hq=>?_)
 cases r with
 | error e=>exact hx pins σ H s e s' I hq
 | ok fl=>
  cases fl with
  | ret u=>exact I.after hq
  | next=>exact False.elim hq
  | brk=>exact False.elim hq
  | cont=>exact False.elim hq
theorem C1 (F:E3 X.prog X.w X.K X.mg X.base CX k f fd ps sp)(hr:Room k X.A)(hg:Gl X x)(hm:X.mg x=some (.ref f))(hk:PySem.W.keepIn X.K (.ref f)=true)(hb:Binds X.K fd ps ds)(hd:Vals dvs ds)(hx:bC5 CX X E)
  (ha:PA X (e::es) t) (hdb:(x==("__debug__" : Str))=false:=by decide) (he:starEach (e::es) X.env=(false,eval e X.env)::starEach es X.env:=by rfl) (hpl:(backTo pos (starEach es X.env)).any (·.1)=false:=by rfl) :
  PE X (.Call (.Name x p) (e::es) [] pos) (aT5 sp dvs E t):=by
 refine⟨?_⟩;intro pins s σ H Q I h;refine wpAny_Call_Name_kw (aD2 I hg hm ?_ hdb);refine PySem.W.callWith_K (h₀:=X.base) I.ok.mod.kin hk (thn (ha pos pins s σ H _ I h) λus s1 ⟨vs,H1,I1,r,q⟩=>⟨I1.kIn,?_⟩) he hpl
 exact dH8 F hr hb hd hx I1 r q
end
structure D6 (N P:List Str)(sc:Scope):Prop where
 kind:sc.kind=.function
 co:sc.isCoroutine=false
 gen:sc.isGenerator=false
 nd:N.Nodup
 pre:N.take P.length=P
 par:∀x∈P,sc.names.lookup x=some .local\/sc.names.lookup x=some .cell
 nofree:∀y∈sc.names,y.2≠.free
theorem aV8 {kindOf:Str->Option NameKind}{x:Str}:∀{binds:List (Str×Value)} {m:Str->Option Value},(∀v,(x,v)∉binds)->bindL kindOf binds m x=m x
 | [],_,_=>rfl
 | (n,v)::r,m,h=>by
  unfold bindL;rw[aV8 λw hw=>h w (Ad3 _ hw)]
  split
  ·have:x≠n:=by rintro rfl;exact h v List.mem_cons_self
   simp[this]
  ·rfl
theorem aW0 {kindOf:Str->Option NameKind}{x:Str}:∀{binds:List (Str×Value)} {m:Str->Option Value},(∀v,(x,v)∉binds)->bindC kindOf binds m x=m x
 | [],_,_=>rfl
 | (n,v)::r,m,h=>by
  unfold bindC;rw[aW0 λw hw=>h w (Ad3 _ hw)]
  split
  ·rfl
  ·have:x≠n:=by rintro rfl;exact h v List.mem_cons_self
   simp[this]
theorem aX2 {kindOf:Str->Option NameKind}{x:Str}{v:Value}:∀{P:List Str} {vs:List Value} {i:Nat} {m:Str->Option Value},P.Nodup->P[i]? = some x->vs[i]? = some v->kindOf x=some .local ->
  bindL kindOf (P.zip vs) m x=some v
 | [],_,_,_,_,h,_,_=>by simp at h
 | _::_,[],_,_,_,_,h,_=>by simp at h
 | p::P,w::vs,0,m,nd,h1,h2,hk=>by
  simp at h1 h2;subst h1;subst h2
  show bindL kindOf ((p,w)::P.zip vs) m p=_
  unfold bindL;rw[aV8 λv hv=>(Aa5.mp nd).1 (List.of_mem_zip hv).1,if_pos hk]
  simp
 | p::P,w::vs,i+1,m,nd,h1,h2,hk=>by
  show bindL kindOf ((p,w)::P.zip vs) m x=_
  unfold bindL;exact aX2 (i:=i) (Aa5.mp nd).2 (by simpa using h1) (by simpa using h2) hk
theorem aY3 {kindOf:Str->Option NameKind}{x:Str}{v:Value}:∀{P:List Str} {vs:List Value} {i:Nat} {m:Str->Option Value},P.Nodup->P[i]? = some x->vs[i]? = some v->kindOf x≠some .local ->
  bindC kindOf (P.zip vs) m x=some v
 | [],_,_,_,_,h,_,_=>by simp at h
 | _::_,[],_,_,_,_,h,_=>by simp at h
 | p::P,w::vs,0,m,nd,h1,h2,hk=>by
  simp at h1 h2;subst h1;subst h2
  show bindC kindOf ((p,w)::P.zip vs) m p=_
  unfold bindC;rw[aW0 λv hv=>(Aa5.mp nd).1 (List.of_mem_zip hv).1,if_neg hk]
  simp
 | p::P,w::vs,i+1,m,nd,h1,h2,hk=>by
  show bindC kindOf ((p,w)::P.zip vs) m x=_
  unfold bindC;exact aY3 (i:=i) (Aa5.mp nd).2 (by simpa using h1) (by simpa using h2) hk
def U1 (N:List Str)(vs:List V):St:=vs.map some++List.replicate (N.length-vs.length) none
def aQ9 (CX:CXT)(P:Program)(w:World)(K:PySem.W.Frag)(mg:Str->Option Value)(base:Heap)(N:List Str)(qual:Str)(scope:Scope)(f:Addr)(cd:Value)(A:Around)(outer:List Env)(s:Shared)(H:Hp)(E:XK):Cx where
 prog:=P
 w:=w
 K:=K
 mg:=mg
 base:=base
 A:=A.deeper (envOfC qual scope s.heap.objs.size f cd)
 N:=N
 s₀:=s
 H₀:=H
 env:=envOfC qual scope s.heap.objs.size f cd
 outer:=outer
 stack:=envOfC qual scope s.heap.objs.size f cd::outer
 ex:=[]
 calm:=true
 fn:=λ_=>true
 pn:=[]
 xe:=λe s'=>wpAny (model P w) (A.deeper (envOfC qual scope s.heap.objs.size f cd)) (leaving (envOfC qual scope s.heap.objs.size f cd) e) (λ_ s''=>CX outer H s E e s'') (λe' s''=>CX outer H s E e' s'') s'
theorem bH4 {sc:Scope}{n:Nat}{x:Str}(h:sc.names.lookup x=some .cell):∃c,(cellsFrom n sc.names []).lookup x=some c:=by
 have q:=PySem.W.cellsFrom_some sc.names n [] (.inl h)
 exact Option.isSome_iff_exists.mp q
theorem aY6 {CX:CXT}{P:Program}{w:World}{K:PySem.W.Frag}{mg:Str->Option Value}{base:Heap}{N ps:List Str}{qual:Str}{scope:Scope}{f:Addr}{cd:Value}{A:Around}{outer:List Env}{s s1:Shared}{H:Hp}{E:XK}{us:List Value}{vs:List V}
  (S:D6 N ps scope) (hd:A.handled=none) (e0:cB8 P w K mg base A outer s H) (hl:vs.length=ps.length) (r:Vals vs us)
  (x:InCallC s s.heap.objs.size (bindL (envOfC qual scope s.heap.objs.size f cd).kindOf (ps.zip us) λ_=>none) (cellsFrom (s.heap.objs.size+1) scope.names []) (bindC (envOfC qual scope s.heap.objs.size f cd).kindOf (ps.zip us) λ_=>none) s1) :
  Inv (aQ9 CX P w K mg base N qual scope f cd A outer s H E) [] (U1 N vs) H s1:=by
 have hpl:ps.length<=N.length:=by have:=congrArg List.length S.pre;rw[Ad0]at this;omega
 obtain ⟨h1,tk,rfl,hk⟩:=x.done;have noA:∀b:Addr,b∉(aQ9 CX P w K mg base N qual scope f cd A outer s H E).ex:=λb z=>absurd (show b∈([]:List Addr) from z) (by simp)
 refine⟨⟨e0.mod,S.kind,rfl,rfl,Aa7 _,λy z c h1 h2=>?_,λy hy=>?_,λy c _ h=>?_,λ_=>hd,Around.frames_deeper e0.frames,.inr ⟨rfl,rfl⟩,λb z=>absurd z (noA b),e0.bs,e0.bsz,λb _ _=>noA b,λb z=>absurd z (noA b),e0.funs,e0.frf⟩,
  rfl,e0.bare,Un.kept hk,⟨_,x.toInCall.ns,λi y v h1 h2 h3=>?_⟩,λy c h=>⟨_,x.cell y c h⟩,e0.hok.fresh (Aa7 _),λy c h=>?_,λp hp=>absurd (show p∈([]:List (Addr×Obj)) from hp) (by simp),e0.hok.kept hk,?_⟩
 ·exact name_of_addr x.apart (PySem.mem_of_lookup h1) (PySem.mem_of_lookup h2)
 ·have hy:scope.names.lookup y=some .cell\/scope.names.lookup y=some .free:=hy
  rcases hy with hy | hy
  ·exact bH4 hy
  ·exact absurd rfl (S.nofree _ (PySem.mem_of_lookup hy))
 ·exact Nat.le_of_lt (x.above y c (PySem.mem_of_lookup h))
 ·have hi:i<vs.length:=by
   unfold U1 at h2;by_cases hi:i<vs.length
   ·exact hi
   ·rw[List.getElem?_append_right (by simpa using hi)]at h2
    rw[List.getElem?_replicate]at h2;split at h2 <;> cases h2
  have ha:vs[i]? = some v:=by
   unfold U1 at h2;rw[List.getElem?_append_left (by simpa using hi),Aa9]at h2
   cases e:vs[i]? with
   | none=>rw[e]at h2;cases h2
   | some a=>rw[e]at h2;cases h2;rfl
  obtain ⟨u,hu,rv⟩:=r.get ha;have hp:ps[i]? = some y:=by
   rw[<- S.pre,List.getElem?_take_of_lt (by omega)];exact h1
  have ndP:ps.Nodup:=by rw[<- S.pre];exact S.nd.sublist (List.take_sublist _ _)
  refine⟨u,rv,?_⟩;rcases S.par y (List.mem_of_getElem? hp) with k | k
  ·exact .inl ⟨k,aX2 ndP hp hu k⟩
  ·obtain ⟨c,e⟩:=bH4 (n:=s.heap.objs.size+1) k;refine .inr ⟨.inl k,c,e,?_⟩;have q:=x.cell y c e;rw[aY3 ndP hp hu (by show scope.names.lookup y≠_;rw[k];decide)]at q
   exact q
 ·exact e0.hok.fresh (Nat.le_of_lt (x.above y c (PySem.mem_of_lookup h)))
 ·unfold U1;show _=N.length;rw[Ab7,Aa3,List.length_replicate];omega
theorem dA0 {CX:CXT}{P:Program}{w:World}{K:PySem.W.Frag}{mg:Str->Option Value}{base:Heap}{k:Nat}{f:Addr}{name qual:Str}{params:Arguments}{body:List Stmt}{scope:Scope}{dV kV doc pm cdv ct oc:Value}{an od:Option Addr}
  {osl:Array (Option Value)} {N ps:List Str} {sp:Sp} (lk:K.lookup f=some ⟨oc,od,.func (PySem.W.fnOf name qual params body scope dV kV doc pm an cdv ct),osl⟩) (hcd:PySem.W.codeIn K cdv qual=true) (S:D6 N ps scope)
  (len:∀vs H Q E,sp vs H Q E->vs.length=ps.length)
  (hbody:∀(A:Around) (outer:List Env) (s:Shared) (H:Hp) (vs:List V) (Q:VK) (E:XK),Room k (A.deeper (envOfC qual scope s.heap.objs.size f cdv))->sp vs H Q E ->
   ∃t,PSs (aQ9 CX P w K mg base N qual scope f cdv A outer s H E) body t/\t {nx:=λ_ H'=>Q .non H',rt:=Q} (U1 N vs) H) :
  E3 P w K mg base CX (k+1) f (PySem.W.fnOf name qual params body scope dV kV doc pm an cdv ct) ps sp:=by
 refine⟨len,λA outer s H args us vs Q E hr e0 hb r hsp=>?_⟩
 have hl:=len _ _ _ _ hsp
 have KX:K.In s.heap:=e0.mod.kin.keeps λb o e=>(e0.bs b o e).1
 have lim:s.heap.NoLimit:=e0.mod.nolimit.keeps λb o e=>(e0.bs b o e).1
 have hkind:∀y∈ps.zip us,scope.names.lookup y.1=some .local\/(scope.names.lookup y.1=some .cell/\((cellsFrom (s.heap.objs.size+1) scope.names []).lookup y.1).isSome=true):=λ⟨n,v⟩ hy=>by
  rcases S.par n (List.of_mem_zip hy).1 with q | q
  ·exact .inl q
  ·exact .inr ⟨q,PySem.W.cellsFrom_some _ _ _ (.inl q)⟩
 refine codeAny_call_function hr.depth (KX _ _ lk) rfl S.co S.gen rfl (PySem.W.codeRec_of KX hcd) (hb _ _ _ _ ?_);refine wpAny_newFunctionEnv_cells S.kind hkind λenv he s1 x=>?_
 subst he;refine⟨lim.keeps x.toInCall.keep,codeAny_func ?_⟩;obtain ⟨t,ht,hq⟩:=hbody A outer s H vs Q E (hr.deeper _) hsp;have I:Inv (aQ9 CX P w K mg base N qual scope f cdv A outer s H E) [] (U1 N vs) H s1:=aY6 S hr.hd e0 hl r x;refine wpAny_mono (ht [] s1 (U1 N vs) H _ I hq) (λfl s' hs=>?_) λe s' hs=>hs
 have fin:∀{σ':St} {H':Hp} {v:V} {u:Value},Inv (aQ9 CX P w K mg base N qual scope f cdv A outer s H E) [] σ' H' s'->RelV v u->Q v H'->CE outer P w H s Q u s':=
  λ{σ' H' v u} J rv q=>⟨v,H',J.os,J.bare,J.base,J.hok,rv,q⟩
 cases fl with
 | ret u=>
  obtain ⟨v,σ',H',J,rv,q⟩:=hs;exact fin J rv q
 | next=>
  obtain ⟨σ',H',J,q⟩:=hs;exact fin (v:=V.non) (u:=Value.none) J rfl q
 | brk=>
  obtain ⟨_,_,_,q⟩:=hs;exact False.elim q
 | cont=>
  obtain ⟨_,_,_,q⟩:=hs;exact False.elim q
section
variable {X:Cx}{x:Str}{p pos:Pos}{e:Expr}{es:List Expr}{t:TA}{id T:String}{r:List V->Hp->VK->Prop}
def tCB (r:List V->Hp->VK->Prop)(t:TA):TE:=λσ H Q=>t σ H λvs H1=>r vs H1 Q
theorem B6 (hc:W4 X (.builtin id) r)(hg:Gl X x)(hm:X.mg x=none)(hv:bootBuiltins x=some (.builtin id))(ha:PA X (e::es) t)(hn:x≠"__name__" := by decide)(hdb:(x==("__debug__" : Str))=false:=by decide)
  (he:starEach (e::es) X.env=(false,eval e X.env)::starEach es X.env:=by rfl) (hpl:(backTo pos (starEach es X.env)).any (·.1)=false:=by rfl):PE X (.Call (.Name x p) (e::es) [] pos) (tCB r t):=by
 refine⟨?_⟩;intro pins s σ H Q I h;refine wpAny_Call_Name_kw (i8 I hg hm hv ?_ hn hdb);exact PyProof.Rows.callWith_builtin1 (thn (ha pos pins s σ H _ I h) λus s1 ⟨vs,H1,I1,r1,q1⟩=>hc pins s1 σ H1 vs us Q I1 r1 q1) he hpl
theorem U6 (hc:W4 X (.type T) r)(hg:Gl X x)(hm:X.mg x=none)(hv:bootBuiltins x=some (.type T))(ha:PA X (e::es) t)(hn:x≠"__name__" := by decide)(hdb:(x==("__debug__" : Str))=false:=by decide)
  (he:starEach (e::es) X.env=(false,eval e X.env)::starEach es X.env:=by rfl) (hpl:(backTo pos (starEach es X.env)).any (·.1)=false:=by rfl):PE X (.Call (.Name x p) (e::es) [] pos) (tCB r t):=by
 refine⟨?_⟩;intro pins s σ H Q I h;refine wpAny_Call_Name_kw (i8 I hg hm hv ?_ hn hdb);exact PyProof.Rows.callWith_type1 (thn (ha pos pins s σ H _ I h) λus s1 ⟨vs,H1,I1,r1,q1⟩=>hc pins s1 σ H1 vs us Q I1 r1 q1) he hpl
end
end L2
namespace HT
open PySem PyProof.Rows
def Y0:List Int->List Int->Bool
 | [],[]=>false
 | [],_::_=>true
 | _::_,[]=>false
 | x::xs,y::ys=>if x=y then Y0 xs ys else decide (x<y)
section
open PySem.SeqAt
open PySem.AutoSeq1 (wpAny_loadPart')
open PySem.MeetsSeq PySem.MeetsSeq2 PySem.MeetsSeq3
end
section
variable {prog:Program}{w:World}{A:Around}{E:Value->Shared->Prop}{s:Shared}
def sIx (n d:Nat):Option Int->Nat
 | none=>d
 | some v=>if v<0 then(v+(n:Int)).toNat else min v.toNat n
end
end HT
namespace L2
open PySem PySem.Spec PyProof.Rows
abbrev TO:=St->Hp->(Option Int->Hp->Prop)->Prop
structure PO (X:Cx)(e:Option Expr)(t:TO):Prop where
 mk ::
 run :
  ∀(pins:List (Addr×Obj)) (s:Shared) (σ:St) (H:Hp) (Q:Option Int->Hp->Prop),Inv X pins σ H s->t σ H Q ->
   wpAny (model X.prog X.w) X.A (evalPart e X.env) (λu s'=>∃o H',Inv X pins σ H' s'/\IsPart u o/\Q o H') X.xe s
instance {X:Cx} {e:Option Expr} {t:TO}:CoeFun (PO X e t) λ_=>
 (∀(pins:List (Addr×Obj)) (s:Shared) (σ:St) (H:Hp) (Q:Option Int->Hp->Prop),Inv X pins σ H s->t σ H Q ->
  wpAny (model X.prog X.w) X.A (evalPart e X.env) (λu s'=>∃o H',Inv X pins σ H' s'/\IsPart u o/\Q o H') X.xe s):=⟨PO.run⟩
def bU9:TO:=λ_ H Q=>Q none H
def dA7 (t:TE):TO:=λσ H Q=>t σ H λx H1=>∃i,x=.int i/\Q (some i) H1
section
variable {X:Cx}{e:Expr}{te:TE}{lo hi:Option Expr}{tl th:TO}{pos p2:Pos}
theorem bU7:PO X none bU9:=by
 refine⟨?_⟩;intro pins s σ H Q I h;rw[evalPart_none];exact wpAny_pure ⟨none,H,I,.none,h⟩
theorem aD8 (h:PE X e te):PO X (some e) (dA7 te):=by
 refine⟨?_⟩;intro pins s σ H Q I hw;rw[evalPart_some];refine thn (h pins s σ H _ I hw) λu s1 ⟨x,H1,I1,r1,q1⟩=>?_
 obtain ⟨i,rfl,q⟩:=q1;obtain ⟨t,rfl⟩:=r1;exact⟨some i,H1,I1,.int i t,q⟩
def SlR (X:Cx)(r:V->Option Int->Option Int->Hp->VK->Prop):Prop:=
 ∀(pins:List (Addr×Obj)) (s:Shared) (σ:St) (H:Hp) (x:V) (v vl vu:Value) (lo hi:Option Int) (sl:Addr) (Q:VK),Inv X pins σ H s->RelV x v->s.heap.IsSliceOf sl vl vu .none->IsPart vl lo->IsPart vu hi->r x lo hi H Q ->
  ∃T id,typeLookup (.type T) "__getitem__" = pure (some (.builtin id))/\s.TypeIs v T/\wpAny (model X.prog X.w) X.A (getItem v (.ref sl)) (EP X pins σ Q) X.xe s
def tSl (r:V->Option Int->Option Int->Hp->VK->Prop)(te:TE)(tl th:TO):TE:=λσ H Q=>te σ H λx H1=>tl σ H1 λl H2=>th σ H2 λu H3=>r x l u H3 Q
theorem aJ1 {r:V->Option Int->Option Int->Hp->VK->Prop}(hr:SlR X r)(he:PE X e te)(hl:PO X lo tl)(hu:PO X hi th):PE X (.Subscript e (.Slice lo hi none p2) pos) (tSl r te tl th):=by
 refine⟨?_⟩;intro pins s σ H Q I h;refine Subscript_ (thn (he pins s σ H _ I h) λv s1 ⟨x,H1,I1,r1,q1⟩=>?_)
 refine wpAny_Slice (thn (hl pins s1 σ H1 _ I1 q1) λvl s2 ⟨l,H2,I2,pl,q2⟩=>thn (hu pins s2 σ H2 _ I2 q2) λvu s3 ⟨u,H3,I3,pu,q3⟩=>?_)
 rw[evalPart_none];refine wpAny_pure ?_;have I4:Inv X pins σ H3 {s3 with heap:=s3.heap.push {cls:=.type "slice",data:=.fields #[vl,vu,.none]}}:=I3.kept (t':=s3.toks) λb ob q=>Aa6 _ q
 obtain ⟨T,id,hT,ht,hg⟩:=hr pins {s3 with heap:=s3.heap.push {cls:=.type "slice",data:=.fields #[vl,vu,.none]}} σ H3 x v vl vu l u s3.heap.objs.size Q I4 r1 (Heap.IsSliceOf.new ..) pl pu q3
 show wpAny (model X.prog X.w) X.A (subscriptTail e (.Slice lo hi none p2) v (.ref s3.heap.objs.size)) (EP X pins σ Q) X.xe {s3 with heap:=s3.heap.push {cls:=.type "slice",data:=.fields #[vl,vu,.none]}}
 exact tail_any (ops:=[.ref s3.heap.objs.size,v]) ht hT hg (by with_unfolding_all rfl)
def cA2 (xs:List V)(lo hi:Option Int):List V:=(xs.drop (HT.sIx xs.length 0 lo)).take (HT.sIx xs.length xs.length hi-HT.sIx xs.length 0 lo)
theorem bH8 (xs:List V)(lo hi:Option Int):(cA2 xs lo hi).length<=xs.length:=by
 unfold cA2;rw[Ad0,List.length_drop];omega
end
def ixN (n:Nat)(i:Int):Option Nat:=if 0<=i then(if i<n then some i.toNat else none) else if -(n:Int)<=i then some (i+n).toNat else none
def atI {α:Type}(xs:List α)(i:Int):Option α:=(ixN xs.length i).bind λj=>xs[j]?
theorem bF8 {n:Nat}{i:Int}{j:Nat}(h:ixN n i=some j):seqIndex? i n=some j/\j<n /\ -(n:Int)<=i/\i<n:=by
 unfold ixN at h;by_cases h0:0<=i
 ·rw[if_pos h0]at h;by_cases h1:i<n
  ·rw[if_pos h1]at h;have e:i.toNat=j:=Ab4 h;exact⟨by rw[seqIndex_of h0 h1,e],by omega,by omega,h1⟩
  ·rw[if_neg h1]at h;cases h
 ·rw[if_neg h0]at h;by_cases h1 : -(n:Int)<=i
  ·rw[if_pos h1]at h;have e:(i+n).toNat=j:=Ab4 h;exact⟨by rw[seqIndex_neg (by omega) h1,e],by omega,h1,by omega⟩
  ·rw[if_neg h1]at h;cases h
theorem bF4 {α:Type}{xs:List α}{i:Int}{v:α}(h:atI xs i=some v):∃j,seqIndex? i xs.length=some j/\xs[j]? = some v/\j<xs.length /\ -(xs.length:Int)<=i/\i<xs.length:=by
 unfold atI at h;cases e:ixN xs.length i with
 | none=>rw[e]at h;cases h
 | some j=>
  rw[e]at h;obtain ⟨h1,h2,h3,h4⟩:=bF8 e;exact⟨j,h1,h,h2,h3,h4⟩
def cV2 (b:Expr):Prop:=∀o i,subscripted b false o i=operate [o,i] (getItem o i)
def IxR (X:Cx)(r:R2):Prop:=
 ∀(value slice:Expr) (pins:List (Addr×Obj)) (s:Shared) (σ:St) (H:Hp) (x y:V) (v u:Value) (Q:VK),Inv X pins σ H s->RelV x v->RelV y u->r x y H Q ->
  subscripted slice false v u=operate [v,u] (getItem v u)->wpAny (model X.prog X.w) X.A (subscriptTail value slice v u) (EP X pins σ Q) X.xe s
def MtR (X:Cx)(id:String)(r:V->List V->Hp->VK->Prop):Prop:=
 ∀(pins:List (Addr×Obj)) (s:Shared) (σ:St) (H:Hp) (x:V) (xs:List V) (v:Value) (us:List Value) (Q:VK),Inv X pins σ H s->RelV x v->Vals xs us->r x xs H Q ->
  wpAny (model X.prog X.w) X.A (call (.builtin id) (v::us)) (EP X pins σ Q) X.xe s
section
variable {X:Cx}{a b:Expr}{ta tb:TE}{pos:Pos}
theorem IxR.or {r r':R2}(h:IxR X r)(h':IxR X r'):IxR X (λx y H Q=>r x y H Q\/r' x y H Q):=by
 intro value slice pins s σ H x y v u Q I rx ry q hs;rcases q with q | q
 ·exact h value slice pins s σ H x y v u Q I rx ry q hs
 ·exact h' value slice pins s σ H x y v u Q I rx ry q hs
theorem B8 {r:R2}(hr:IxR X r)(ha:PE X a ta)(hb:PE X b tb)(hs:cV2 b):PE X (.Subscript a b pos) (tOp r ta tb):=by
 refine⟨?_⟩;intro pins s σ H Q I h;exact Subscript_ (dF9 ha hb I h λv u s2 x y H2 I2 rx ry q=>hr a b pins s2 σ H2 x y v u Q I2 rx ry q (hs _ _))
def dI5 (K:PySem.W.Frag):R2:=λx y H Q=>∃p xs i v,x=.ref p/\y=.int i/\SqL K H p xs/\atI xs i=some v/\Q v H
def dL5 (K:PySem.W.Frag):R2:=λx y H Q=>∃p xs i v,x=.ref p/\y=.int i/\SqT K H p xs/\atI xs i=some v/\Q v H
def dK0:R2:=λx y H Q=>∃z i c,x=.str z/\y=.int i/\z.length<=sizeLine/\atI z.cps.toList i=some c/\Q (.str ⟨#[c]⟩) H
theorem ix_list:IxR X (dI5 X.K):=by
 intro value slice pins s σ H x y v u Q I rx ry h hs;obtain ⟨p,xs,i,z,rfl,rfl,hq,he,q⟩:=h;cases rx;obtain ⟨t,rfl⟩:=ry;obtain ⟨its,r,pl,hz⟩:=I.list hq;obtain ⟨j,h1,h2,h3,h4,h5⟩:=bF4 he;obtain ⟨w,ew,rw'⟩:=r.get h2;have hl:=r.length;have hn:=aM2;have fin:EP X pins σ Q w s:=⟨z,H,I,rw',q⟩;by_cases h0:0<=i
 ·have hj:i.toNat=j:=by
   rw[seqIndex_of h0 h5]at h1;exact Ab4 h1
  exact item_listR pl.isList h0 (by omega) (by rw[hj];simpa using ew) fin hs
 ·have hj:(i+(its.toArray.size:Int)).toNat=j:=by
   rw[seqIndex_neg (by omega) h4]at h1
   rw[Ab2,<- hl];exact Ab4 h1
  exact subscriptTail_builtinR (x:=w) pl.isList.typeIs slot_list_getitem.lookup
   (wpAny_getItem_list_neg (Q:=λr s'=>r=w/\EP X pins σ Q r s') pl.isList (by omega) (by rw[Ab2] <;> omega) (by omega) (by rw[hj];simpa using ew) ⟨rfl,fin⟩) hs
theorem ix_tup:IxR X (dL5 X.K):=by
 intro value slice pins s σ H x y v u Q I rx ry h hs;obtain ⟨p,xs,i,z,rfl,rfl,hq,he,q⟩:=h;cases rx;obtain ⟨t,rfl⟩:=ry;obtain ⟨its,r,pl,hz⟩:=I.tuple hq;obtain ⟨j,h1,h2,h3,h4,h5⟩:=bF4 he;obtain ⟨w,ew,rw'⟩:=r.get h2;have hl:=r.length;have hn:=aM2;have fin:EP X pins σ Q w s:=⟨z,H,I,rw',q⟩;exact subscriptTail_builtinR (x:=w) pl.typeIs slot_tuple_getitem.lookup
  (getItem_tuple (j:=j) (Q:=λr s'=>r=w/\EP X pins σ Q r s') pl (by omega) (by omega) (by rw[Ab2,<- hl];exact h1) (by simpa using ew) ⟨rfl,fin⟩) hs
theorem dF6:IxR X dK0:=by
 intro value slice pins s σ H x y v u Q I rx ry h hs;obtain ⟨z,i,c,rfl,rfl,hz,he,q⟩:=h;obtain ⟨t,rfl⟩:=rx;obtain ⟨t',rfl⟩:=ry;obtain ⟨j,h1,h2,h3,h4,h5⟩:=bF4 he;have hl:z.cps.toList.length=z.length:=by simp[Str.length]
 rw[hl]at h1 h4 h5;have hn:=aM2;exact tail_any (typeIs_str s z t) slot_str_getitem.lookup (getItem_str (c:=c) (by
  have e1:decide (i < -(2^63:Int))=false:=decide_eq_false (by omega)
  have e2:decide (i≥2^63)=false:=decide_eq_false (by omega)
  rw[e1,e2,Bool.or_false]) (by rw[h1];simpa using h2) ⟨.str ⟨#[c]⟩,H,I.tok _,⟨_,rfl⟩,q⟩) hs
def rIx (K:PySem.W.Frag):R2:=λx y H Q=>dI5 K x y H Q\/dL5 K x y H Q\/dK0 x y H Q
theorem C2:IxR X (rIx X.K):=ix_list.or (ix_tup.or dF6)
theorem bR5 (its:List Value)(n j:Nat)(u:Value):Obj.mapSeq (·.setIfInBounds j u) {cls:=.type "list",data:=.seq its.toArray n}={cls:=.type "list",data:=.seq (its.set j u).toArray n}:=by
 simp[Obj.mapSeq]
theorem Inv.lst {pins:List (Addr×Obj)}{σ:St}{H:Hp}{s:Shared}{p:Addr}{xs:List V}(I:Inv X pins σ H s)(h:H p=some (.lst xs)) :
  ∃(its:List Value) (n:Nat),Vals xs its/\s.heap.get? p=some {cls:=.type "list",data:=.seq its.toArray n}/\xs.length<=sizeLine:=by
 obtain ⟨z,its,n,r,e⟩:=I.hok p _ h;exact⟨its,n,r,e,z⟩
theorem Inv.lstUpd {pins:List (Addr×Obj)}{σ:St}{H:Hp}{s:Shared}{p:Addr}{xs ys:List V}{its its':List Value}{n n':Nat}{f:Obj->Obj}(I:Inv X pins σ H s)(h:H p=some (.lst xs))
  (ho:s.heap.get? p=some {cls:=.type "list",data:=.seq its.toArray n}) (hf:f {cls:=.type "list",data:=.seq its.toArray n}={cls:=.type "list",data:=.seq its'.toArray n'}) (r:Vals ys its') (hz:ys.length<=sizeLine) (t:Nat) :
  Inv X pins σ (upd H p (.lst ys)) {s with heap:=s.heap.update p f,toks:=t}:=by
 have e:(s.heap.update p f).get? p=some {cls:=.type "list",data:=.seq its'.toArray n'}:=by
  rw[Heap.get?_update_self f ho (by rw[hf] <;> rfl),hf]
 refine I.write (x:=p) (e:=p) (by rw[h];trivial) (.inl rfl) (λb u hb q=>(Heap.get?_update_other _ _ (Ne.symm hb)).trans q) ⟨_,e⟩ ?_
 exact⟨hz,its',n',r,e⟩
def cH1:V->V->V->Hp->(Hp->Prop)->Prop:=λo i v H Q=>∃p xs k j,o=.ref p/\i=.int k/\H p=some (.lst xs)/\ixN xs.length k=some j/\Q (upd H p (.lst (xs.set j v)))
theorem aR2:dM2 X cH1:=by
 intro pins s σ H o i v ov iv u Q I ro ri rv h;obtain ⟨p,xs,k,j,rfl,rfl,hp,hj,q⟩:=h;cases ro;obtain ⟨t,rfl⟩:=ri;obtain ⟨its,n,r,ho,hz⟩:=I.lst hp;obtain ⟨h1,h2,h3,h4⟩:=bF8 hj;have hl:=r.length;have hn:=aM2;have I':Inv X pins σ (upd H p (.lst (xs.set j v))) {s with heap:=s.heap.update p (Obj.mapSeq (·.setIfInBounds j u))}:=
  I.lstUpd hp ho (bR5 its n j u) (r.set rv j) (by rw[List.length_set];exact hz) s.toks
 by_cases h0:0<=k
 ·have hk:k.toNat=j:=by
   rw[seqIndex_of h0 h4]at h1;exact Ab4 h1
  exact PySem.W.ki_setAt ho h0 (by omega) (by rw[Ab2,<- hl];exact h4) (by rw[hk];exact⟨_,I',q⟩)
 ·have hk:(k+(its.toArray.size:Int)).toNat=j:=by
   rw[seqIndex_neg (by omega) h3]at h1
   rw[Ab2,<- hl];exact Ab4 h1
  exact PySem.W.ki_setBack ho (by omega) (by rw[Ab2,<- hl];exact h3) (by omega) (by rw[hk];exact⟨_,I',q⟩)
theorem bE7 (lo hi:Option Int)(n:Nat):(sliceBounds lo hi none n).1=((HT.sIx n 0 lo:Nat):Int)/\(sliceBounds lo hi none n).2.1=((HT.sIx n n hi:Nat):Int)/\(sliceBounds lo hi none n).2.2=1:=by
 refine⟨?_,?_,rfl⟩
 ·cases lo with
  | none=>simp[sliceBounds,HT.sIx]
  | some i=>
   simp only[sliceBounds,HT.sIx,Option.getD_none,show(1:Int)>0 by decide,if_true]
   by_cases h:i<0
   ·simp only[h,if_true] <;> omega
   ·simp only[h,if_false] <;> omega
 ·cases hi with
  | none=>simp[sliceBounds,HT.sIx]
  | some i=>
   simp only[sliceBounds,HT.sIx,Option.getD_none,show(1:Int)>0 by decide,if_true]
   by_cases h:i<0
   ·simp only[h,if_true] <;> omega
   ·simp only[h,if_false] <;> omega
theorem aV7 (its:List Value)(lo hi:Option Int):slicePick its.toArray lo hi none=((its.drop (HT.sIx its.length 0 lo)).take (HT.sIx its.length its.length hi-HT.sIx its.length 0 lo)).toArray:=by
 obtain ⟨h1,h2,h3⟩:=bE7 lo hi its.toArray.size;unfold slicePick;rw[h1,h2,h3];simp only[sliceRange_one,pick_run,Ab2] <;> rfl
def dB5 (K:PySem.W.Frag):V->Option Int->Option Int->Hp->VK->Prop:=λx lo hi H Q=>∃a xs,x=.ref a/\SqL K H a xs/\∀p,H p=none->Q (.ref p) (upd H p (.lst (cA2 xs lo hi)))
theorem bE0:SlR X (dB5 X.K):=by
 intro pins s σ H x v vl vu lo hi sl Q I rx hs pl pu h;obtain ⟨a,xs,rfl,hx,q⟩:=h;cases rx;obtain ⟨its,r,ht,hz⟩:=I.list hx;have hlen:=r.length;refine⟨"list",_,slot_list_getitem.lookup,ht.isList.typeIs,?_⟩;refine wpAny_getItem_list_slice ht.isList hs pl pu .none (by simp) ?_ (by rw[Ab2] <;> omega)
 rw[aV7,<- hlen];refine⟨.ref s.heap.objs.size,_,I.laid (t':=s.toks) (o:=.lst (cA2 xs lo hi)) (λb ob q=>Aa6 _ q) (Aa7 _) ?_,rfl,q _ (I.hok.fresh (Aa7 _))⟩
 exact⟨Nat.le_trans (bH8 xs lo hi) hz,_,0,(r.drop (HT.sIx xs.length 0 lo)).take (HT.sIx xs.length xs.length hi-HT.sIx xs.length 0 lo),Ac3 _ rfl⟩
theorem L8:W4 X (.builtin "len") (λxs H Q=>∃p ys,xs=[.ref p]/\(SqL X.K H p ys\/SqT X.K H p ys)/\Q (.int ys.length) H):=by
 intro pins s σ H xs us Q I r h;obtain ⟨p,ys,rfl,hq,q⟩:=h;obtain ⟨u,rfl,rx⟩:=aB1 r;cases rx;have hn:=aM2;rcases hq with hq | hq
 ·obtain ⟨its,r',pl,hz⟩:=I.list hq;have hlen:=r'.length;exact Calls.call_len_list pl.isList (by simp only[Ab2] <;> omega) ⟨.int ys.length,H,I.tok _,⟨s.toks+1,by rw[Ab2,hlen]⟩,q⟩
 ·obtain ⟨its,r',pl,hz⟩:=I.tuple hq;have hlen:=r'.length;exact len_tuple pl (by simp only[Ab2] <;> omega) ⟨.int ys.length,H,I.tok _,⟨s.toks+1,by rw[Ab2,hlen]⟩,q⟩
theorem R3:W4 X (.type "tuple") (λxs H Q=>∃p ys,xs=[.ref p]/\((SqL X.K H p ys/\∀l,H l=none->Q (.ref l) (upd H l (.tup ys)))\/(SqT X.K H p ys/\Q (.ref p) H))):=by
 intro pins s σ H xs us Q I r h;obtain ⟨p,ys,rfl,h⟩:=h;obtain ⟨u,rfl,rx⟩:=aB1 r;cases rx;rcases h with ⟨hq,q⟩ | ⟨hq,q⟩
 ·obtain ⟨its,r',pl,hz⟩:=I.list hq;have hlen:=r'.length;refine call_tuple_list pl.isList (λh' kp=>?_) (by simp only[Ab2] <;> omega)
  have I1:Inv X pins σ H {s with heap:=h'}:=I.kept (t':=s.toks) kp
  have I2:Inv X pins σ (upd H h'.objs.size (.tup ys)) {s with heap:=h'.push {cls:=.type "tuple",data:=.seq its.toArray}}:=
   I1.laid (t':=s.toks) (λb o e=>Aa6 _ e) (Aa7 _) (show ObjOk X.prog X.w _ _ _ (.tup ys) from⟨hz,its,r',Tup0.nw _ _ _⟩)
  exact⟨.ref h'.objs.size,_,I2,rfl,q _ (I1.hok.fresh (Aa7 _))⟩
 ·obtain ⟨its,r',pl,hz⟩:=I.tuple hq;exact call_tuple_same pl ⟨.ref p,H,I,rfl,q⟩
def tyV (K:PySem.W.Frag)(T:String)(x:V)(H:Hp):Prop:=match x with
 | .str _=>T = "str"
 | .int _=>T = "int"
 | .ref p=>(T = "list" /\ ∃xs,SqL K H p xs)\/(T = "tuple" /\ ∃xs,SqT K H p xs) \/
   (T = "dict" /\ ((∃kvs,H p=some (.dK kvs))\/∃kvs,H p=some (.dT kvs)))\/(T = "set" /\ ∃S n,H p=some (.set S n))
 | _=>False
theorem cQ6 {pins:List (Addr×Obj)}{σ:St}{H:Hp}{s:Shared}{T:String}{x:V}{v:Value}(I:Inv X pins σ H s)(r:RelV x v)(ty:tyV X.K T x H) :
  s.TypeIs v T/\∀a,v=.ref a->∃ob,s.heap.get? a=some ob/\ob.dict=none:=by
 cases x with
 | str z=>
  obtain ⟨t,rfl⟩:=r;cases (show T = "str" from ty)
  exact⟨typeIs_str s z t,λ_ e=>nomatch e⟩
 | int i=>
  obtain ⟨t,rfl⟩:=r;cases (show T = "int" from ty)
  exact⟨typeIs_int s i t,λ_ e=>nomatch e⟩
 | ref p=>
  cases r
  rcases ty with ⟨rfl,xs,hq⟩ | ⟨rfl,xs,hq⟩ | ⟨rfl,hk⟩ | ⟨rfl,S,n,hk⟩
  ·obtain ⟨its,_,pl,_⟩:=I.list hq;refine⟨pl.isList.typeIs,λa e=>?_⟩
   cases e
   obtain ⟨o,n,e,c,hd,_⟩:=pl;exact⟨o,e,hd⟩
  ·obtain ⟨its,_,p0,_⟩:=I.tuple0 hq;obtain ⟨o,h1,h2,_,h3⟩:=p0;refine⟨⟨o,h1,h2⟩,λa e=>?_⟩
   cases e
   exact⟨o,h1,h3⟩
  ·have z:∃o,s.heap.get? p=some o/\o.ExactDict:=by
    rcases hk with ⟨kvs,hk⟩ | ⟨kvs,hk⟩
    ·obtain ⟨_,_,_,_,o,_,_,e,ex,_⟩:=I.hok p _ hk;exact⟨o,e,ex⟩
    ·obtain ⟨_,_,_,_,o,_,_,e,ex,_⟩:=I.hok p _ hk;exact⟨o,e,ex⟩
   obtain ⟨o,e,ex⟩:=z;refine⟨⟨o,e,ex.1⟩,λa e2=>?_⟩
   cases e2
   exact⟨o,e,ex.2.1⟩
  ·obtain ⟨o,_,_,_,e,ex,_⟩:=I.hok p _ hk;refine⟨⟨o,e,ex.1⟩,λa e2=>?_⟩
   cases e2
   exact⟨o,e,ex.2.1⟩
 | _=>exact False.elim ty
def dC9 (K:PySem.W.Frag)(T:String)(r:V->List V->Hp->VK->Prop)(to:TE):TE:=λσ H Q=>to σ H λx H1=>tyV K T x H1/\r x [] H1 Q
def tBM (K:PySem.W.Frag)(T:String)(r:V->List V->Hp->VK->Prop)(to:TE)(t:TA):TE:=λσ H Q=>to σ H λx H1=>tyV K T x H1/\t σ H1 λxs H2=>r x xs H2 Q
variable {o e:Expr}{es:List Expr}{to:TE}{t:TA}{name:Str}{apos cpos:Pos}{T id:String}{r:V->List V->Hp->VK->Prop}
theorem bA3 (pa:PlainAttrs T)(slot:Slot T name id)(hty:typeOf (.builtin id)=pure (.type "method_descriptor"))(hm:MtR X id r)(ho:PE X o to)
  (hbase:attributeBase o name X.env (eval o X.env)=eval o X.env:=by rfl) (hline:(apos.endLine==cpos.line)=true:=by rfl):PE X (.Call (.Attribute o name apos) [] [] cpos) (dC9 X.K T r to):=by
 refine⟨?_⟩;intro pins s σ H Q I h;refine wpAny_Call_method0_late hbase hline (thn (ho pins s σ H _ I h) λv s1 ⟨x,H1,I1,r1,ty,q1⟩=>?_)
 obtain ⟨h1,h2⟩:=cQ6 I1 r1 ty;exact⟨T,id,pa,slot,hty,h1,h2,Calls.callWith_builtin rfl (PySem.evalArgs_none (hm pins s1 σ H1 x [] v [] Q I1 r1 .nil q1))⟩
theorem N6 (pa:PlainAttrs T)(slot:Slot T name id)(hty:typeOf (.builtin id)=pure (.type "method_descriptor"))(hm:MtR X id r)(ho:PE X o to)(ha:PA X (e::es) t)
  (hbase:attributeBase o name X.env (eval o X.env)=eval o X.env:=by rfl)
  (hfew:((backTo cpos (starEach (e::es) X.env)).all (λx => !x.1)&&(backToKw cpos (keywordEach [] X.env)).all (λx=>x.1.isSome)
   && decide ((e::es).length+([]:List Keyword).length+(if([]:List Keyword).isEmpty then 0 else 1)<30))=true:=by rfl)
  (hline:(apos.endLine==cpos.line)=true:=by rfl) (hs:starEach (e::es) X.env=(false,eval e X.env)::starEach es X.env:=by rfl) (hplain:(backTo cpos (starEach es X.env)).any (·.1)=false:=by rfl) :
  PE X (.Call (.Attribute o name apos) (e::es) [] cpos) (tBM X.K T r to t):=by
 refine⟨?_⟩;intro pins s σ H Q I h;refine wpAny_Call_method_late hbase hfew hline rfl (thn (ho pins s σ H _ I h) λv s1 ⟨x,H1,I1,r1,ty,q1⟩=>?_)
 obtain ⟨h1,h2⟩:=cQ6 I1 r1 ty;refine⟨T,id,pa,slot,hty,h1,h2,?_⟩;have hA:=ha cpos pins s1 σ H1 _ I1 q1;rw[hs]at hA ⊢;refine Calls.callWith_builtin (by show(false||(backTo cpos (starEach es X.env)).any (·.1))=false;rw[hplain] <;> rfl) (Calls.evalArgs_plain ?_)
 exact thn hA λus s2 ⟨vs,H2,I2,r2,q2⟩=>hm pins s2 σ H2 x vs v us Q I2 r1 r2 q2
end
def MtM (X:Cx)(id:String)(r:V->List V->Hp->VK->Prop):Prop:=
 ∀(pins:List (Addr×Obj)) (s:Shared) (σ:St) (H:Hp) (x:V) (xs:List V) (v:Value) (us:List Value) (Q:VK),Inv X pins σ H s->RelV x v->Vals xs us->r x xs H Q ->
  wpAny (model X.prog X.w) X.A (call (.builtin id) (v::us)) (EP X pins σ Q) X.xe s
theorem Vals.one:∀{x:V} {us:List Value},Vals [x] us->∃u,us=[u]/\RelV x u
 | _,_,.cons r .nil=>⟨_,rfl,r⟩
theorem Vals.zero:∀{us:List Value},Vals [] us->us=[]
 | _,.nil=>rfl
theorem Vals.dropLast {xs:List V}{us:List Value}(h:Vals xs us):Vals xs.dropLast us.dropLast:=by
 induction h with
 | nil=>exact .nil
 | cons r t ih=>
  cases t with
  | nil=>exact .nil
  | cons q t'=>exact .cons r ih
theorem Vals.eraseIdx:∀{xs:List V} {us:List Value} (i:Nat),Vals xs us->Vals (xs.eraseIdx i) (us.eraseIdx i)
 | _,_,_,.nil=>.nil
 | _,_,0,.cons _ t=>t
 | _,_,i+1,.cons r t=>.cons r (Vals.eraseIdx i t)
theorem Vals.rep {xs:List V}{us:List Value}(h:Vals xs us):∀k:Nat,Vals (List.replicate k xs).flatten (List.replicate k us).flatten
 | 0=>.nil
 | k+1=>by
  rw[List.replicate_succ,List.replicate_succ,List.flatten_cons,List.flatten_cons];exact Vals.append h (Vals.rep h k)
theorem bS5 {α:Type}(l:List α):l.eraseIdx (l.length-1)=l.dropLast:=by
 induction l with
 | nil=>rfl
 | cons a r ih=>
  cases r with
  | nil=>rfl
  | cons b r=>
   have e:(a::b::r).length-1=((b::r).length-1)+1:=by
    have h1:(a::b::r).length=r.length+2:=rfl
    have h2:(b::r).length=r.length+1:=rfl
    omega
   rw[e,List.eraseIdx_cons_succ,ih]
   all_goals rfl
theorem aX0 {α:Type}:∀(l:List α) (i:Nat),(l.eraseIdx i).length<=l.length
 | [],_=>Aa7 _
 | _::_,0=>Nat.le_succ _
 | _::r,i+1=>Nat.succ_le_succ (aX0 r i)
theorem aZ1 (its:List Value):∀(k:Nat) (acc:List Value),
  List.foldl (λx1 x2=>x1++x2) acc.toArray (List.replicate k its.toArray)=(acc++(List.replicate k its).flatten).toArray
 | 0,acc=>by simp
 | k+1,acc=>by
  have e:acc.toArray++its.toArray=(acc++its).toArray:=by simp
  have e2:(acc++its)++(List.replicate k its).flatten=acc++(List.replicate (k+1) its).flatten:=by
   rw[List.replicate_succ,List.flatten_cons,Ad5]
  rw[<- e2,<- aZ1 its k (acc++its),<- e,List.replicate_succ,List.foldl_cons]
section
variable {X:Cx}{pins:List (Addr×Obj)}{σ:St}{H:Hp}{s:Shared}{l b:Addr}{xs ys zs:List V}
theorem Inv.lset {its its':List Value}{n:Nat}{f:Array Value->Array Value}{t':Nat}(I:Inv X pins σ H s)(hH:H l=some (.lst xs))
  (e:s.heap.get? l=some {cls:=.type "list",data:=.seq its.toArray n}) (hf:f its.toArray=its'.toArray) (hv:Vals ys its') (hz:ys.length<=sizeLine) :
  Inv X pins σ (upd H l (.lst ys)) {s with heap:=s.heap.update l (Obj.mapSeq f),toks:=t'}:=by
 have q:=PySem.IsL.update e f
 rw[hf]at q;refine I.write (x:=l) (e:=l) (by rw[hH];exact trivial) (.inl rfl) (λb' u hb hu=>(Heap.get?_update_other s.heap (Obj.mapSeq f) (Ne.symm hb)).trans hu) ⟨_,q⟩ ?_
 exact⟨hz,its',_,hv,q⟩
theorem Inv.lnew {its:List Value}{t':Nat}(I:Inv X pins σ H s)(hv:Vals ys its)(hz:ys.length<=sizeLine) :
  Inv X pins σ (upd H s.heap.objs.size (.lst ys)) {s with heap:=s.heap.push {cls:=.type "list",data:=.seq its.toArray},toks:=t'}:=
 I.laid (λ_ _ q=>Aa6 _ q) (Aa7 _) ⟨hz,its,0,hv,Ac3 _ rfl⟩
theorem Inv.fresh (I:Inv X pins σ H s):H s.heap.objs.size=none:=I.hok.fresh (Aa7 _)
theorem Inv.lstM (I:Inv X pins σ H s)(hH:H l=some (.lst xs)):xs.length<=sizeLine/\∃(its:List Value) (n:Nat),Vals xs its/\xs.length=its.length/\s.heap.get? l=some {cls:=.type "list",data:=.seq its.toArray n}:=by
 obtain ⟨z,its,n,r,e⟩:=I.hok l _ hH;exact⟨z,its,n,r,r.length,e⟩
theorem bN2 {n:Nat}(h:n<=sizeLine):Builtin.List.listTooLong n=false:=by
 unfold Builtin.List.listTooLong;exact decide_eq_false (by omega)
end
section
variable {X:Cx}
def aI4:V->List V->Hp->VK->Prop:=λx vs H Q=>∃l xs y,x=.ref l/\vs=[y]/\H l=some (.lst xs)/\xs.length<sizeLine/\Q .non (upd H l (.lst (xs++[y])))
theorem D5:MtM X "list.append" aI4:=by
 intro pins s σ H x vs v us Q I rx rv h;obtain ⟨l,xs,y,rfl,rfl,hH,hz,q⟩:=h;cases rx;obtain ⟨u,rfl,ru⟩:=rv.one;obtain ⟨z,its,n,r,hl,e⟩:=I.lstM hH;refine call_meets F.slot_list_append ⟨_,e,rfl⟩ F.entry_list_append (F.args_list_append_2 _ _) (PySem.list_append l its.toArray n u (by rw[Ab2];omega)) ⟨e,?_⟩
 refine⟨.non,_,I.lset (its':=its++[u]) hH e (by simp) (r.append (.cons ru .nil)) ?_,rfl,q⟩
 rw[Ab7,List.length_singleton];omega
def bZ4:V->List V->Hp->VK->Prop:=λx vs H Q=>∃l b xs zs,x=.ref l/\vs=[.ref b]/\H l=some (.lst xs)/\H b=some (.lst zs)/\xs.length+zs.length<=sizeLine/\Q .non (upd H l (.lst (xs++zs)))
theorem cD2:MtM X "list.extend" bZ4:=by
 intro pins s σ H x vs v us Q I rx rv h;obtain ⟨l,b,xs,zs,rfl,rfl,hH,hB,hz,q⟩:=h;cases rx;obtain ⟨u,rfl,ru⟩:=rv.one;cases ru;obtain ⟨z,its,n,r,hl,e⟩:=I.lstM hH;obtain ⟨z2,its2,n2,r2,hl2,e2⟩:=I.lstM hB;have hsz:its.toArray.size+its2.toArray.size<=sizeLine:=by rw[Ab2,Ab2];omega
 have hlong:¬(!its.toArray.isEmpty&&Builtin.List.listTooLong (its.toArray.size+its2.toArray.size))=true:=by
  rw[bN2 hsz,Bool.and_false];exact Bool.false_ne_true
 refine call_meets F.slot_list_extend ⟨_,e,rfl⟩ F.entry_list_extend (F.args_list_extend_2 _ _)
  (AutoSeq1.list_extend_list_list_0 l its.toArray n b its2.toArray n2 hlong (by rw[Ab2];omega) (by omega)) ⟨e,e2,?_⟩
 refine⟨.non,_,I.lset (its':=its++its2) hH e (by simp) (r.append r2) ?_,rfl,q⟩
 rw[Ab7];omega
def dG6:V->List V->Hp->VK->Prop:=λx vs H Q=>∃l xs y,x=.ref l/\vs=[]/\H l=some (.lst xs)/\xs[xs.length-1]? = some y/\Q y (upd H l (.lst xs.dropLast))
theorem bG2:MtM X "list.pop" dG6:=by
 intro pins s σ H x vs v us Q I rx rv h;obtain ⟨l,xs,y,rfl,rfl,hH,hy,q⟩:=h;cases rx;have hus:=rv.zero;subst hus;obtain ⟨z,its,n,r,hl,e⟩:=I.lstM hH;obtain ⟨u,hu,ru⟩:=r.get hy;have hy':its.toArray[its.toArray.size-1]? = some u:=by
  show its.toArray[its.length-1]? = some u
  rw[<- Array.getElem?_toList,<- hl];exact hu
 refine call_meets F.slot_list_pop ⟨_,e,rfl⟩ F.entry_list_pop (F.args_list_pop_1 _) (MeetsSeq.list_pop_last l its.toArray n u hy' (by rw[Ab2];omega)) ⟨e,?_⟩
 refine⟨y,_,I.lset (its':=its.dropLast) hH e ?_ r.dropLast ?_,ru,q⟩
 ·show its.toArray.eraseIdxIfInBounds (its.toArray.size-1)=its.dropLast.toArray
  rw[Ab2,List.eraseIdxIfInBounds_toArray,bS5]
 ·rw[List.length_dropLast];omega
def cO7:V->List V->Hp->VK->Prop:=λx vs H Q=>∃l xs i k y,x=.ref l/\vs=[.int i]/\H l=some (.lst xs) /\ -(2^63)<=i/\i<2^63/\seqIndex? i xs.length=some k/\xs[k]? = some y/\Q y (upd H l (.lst (xs.eraseIdx k)))
theorem cG8:MtM X "list.pop" cO7:=by
 intro pins s σ H x vs v us Q I rx rv h;obtain ⟨l,xs,i,k,y,rfl,rfl,hH,h1,h2,hk,hy,q⟩:=h;cases rx;obtain ⟨u,rfl,ru⟩:=rv.one;obtain ⟨t,rfl⟩:=ru;obtain ⟨z,its,n,r,hl,e⟩:=I.lstM hH;obtain ⟨w,hw,rw'⟩:=r.get hy;refine call_meets F.slot_list_pop ⟨_,e,rfl⟩ F.entry_list_pop (F.args_list_pop_2 _ _)
  (MeetsSeq.list_pop_at l its.toArray n i t k w (fitsIndex_both h1 h2) (by rw[Ab2,<- hl];exact hk) (by rw[<- Array.getElem?_toList];exact hw) (by rw[Ab2];omega)) ⟨e,?_⟩
 refine⟨y,_,I.lset (its':=its.eraseIdx k) hH e ?_ (r.eraseIdx k) ?_,rw',q⟩
 ·show its.toArray.eraseIdxIfInBounds k=(its.eraseIdx k).toArray
  rw[List.eraseIdxIfInBounds_toArray]
 ·have:=aX0 xs k
  omega
def dI0:R2:=λx y H Q=>∃l k xs,x=.ref l/\y=.int k/\H l=some (.lst xs) /\ -(2^63)<=k/\k<2^63/\xs.length*k.toNat<=sizeLine /\
 ∀p,H p=none->Q (.ref p) (upd H p (.lst (List.replicate k.toNat xs).flatten))
theorem cV7 {α:Type}(xs:List α)(k:Nat):(List.replicate k xs).flatten.length=k*xs.length:=by
 induction k with
 | zero=>simp
 | succ k ih=>rw[List.replicate_succ,List.flatten_cons,Ab7,ih,Nat.succ_mul,Nat.add_comm]
theorem cF6:OpR X (binaryOp .Mult) dI0:=by
 intro pins s σ H x y v u Q I rx ry h;obtain ⟨l,k,xs,rfl,rfl,hH,h1,h2,hz,q⟩:=h;cases rx;obtain ⟨t,rfl⟩:=ry;obtain ⟨z,its,n,r,hl,e⟩:=I.lstM hH;have hlen:its.toArray.size*k.toNat<=sizeLine:=by rw[Ab2,<- hl];exact hz
 have hcap:¬its.toArray.size*k.toNat>(2^63-1) / 8:=by
  have:(sizeLine:Nat)<=(2^63-1) / 8:=by decide
  omega
 have hfit:¬(!Builtin.List.listFitsIndex k)=true:=by
  rw[fitsIndex_both h1 h2];exact Bool.false_ne_true
 have hlong:¬Builtin.List.listTooLong (its.toArray.size*k.toNat)=true:=by
  rw[bN2 hlen];exact Bool.false_ne_true
 have hnew:List.foldl (λx1 x2=>x1++x2) #[] (List.replicate (if its.toArray.isEmpty=true then 0 else k.toNat) its.toArray)=(List.replicate k.toNat its).flatten.toArray:=by
  have f0:∀m:Nat,List.foldl (λx1 x2=>x1++x2) #[] (List.replicate m its.toArray)=(List.replicate m its).flatten.toArray:=λm=>by
   have:=aZ1 its m []
   rw[List.nil_append]at this;exact this
  rw[f0];cases its with
  | nil=>simp
  | cons a r'=>rw[if_neg (by simp)]
 refine wpAny_binaryOp_repeat_ref (T := "list") (U := "int") (by decide) ⟨_,e,rfl⟩ (λs'=>typeIs_int s' k t) noFill_list_mul F.fills_int_mul F.slot_int_rmul repeat_list F.slot_int_index.lookup
  (call_meets F.slot_int_rmul (typeIs_int s k t) F.entry_int_rmul (F.args_int_rmul_2 _ _) (int___rmul___int_list k t l its.toArray n)
   ⟨e,rfl,⟨_,e,rfl⟩,call_meets F.slot_list_mul ⟨_,e,rfl⟩ F.entry_list_mul (F.args_list_mul_2 _ _) (AutoListH.list___mul___list_int_3 l its.toArray n k t hfit hcap hlong) ⟨e,?_⟩⟩)
 rw[hnew];exact⟨.ref _,_,I.lnew (t':=s.toks) (r.rep k.toNat) (by rw[cV7,Nat.mul_comm];exact hz),rfl,q _ I.fresh⟩
end
end L2
namespace Att
open PySem PySem.W PySem.Calls PyProof.Rows
theorem aN5 {P:Params}{h:Heap}:∀(ns:List Int) (vs:List Value),WellAll P h vs (ns.map WData.int)->IntsAre vs ns:=by
 intro ns;induction ns with
 | nil=>
  intro vs w;rw[List.map_nil]at w;cases w;exact .nil
 | cons n ns ih=>
  intro vs w;rw[Ac6]at w;cases w with
  | cons a b=>
   cases a
   exact .cons _ _ (ih _ b)
theorem cE0 {l:OpenLaw}{n:Nat}(hn:l.most=some n){P:Params}{h:Heap}{args:List WData}{vals:List Value}
  (hpre:l.row.toRowW.claim.pre args=true) (hwl:WellAll P h vals args) :
  ∃a vs ns,vals=[Value.ref a]/\args=[WData.list (ns.map WData.int)]/\h.get? a=some {cls:=.type "list",data:=.seq vs.toArray}/\IntsAre vs ns/\ns.length<=n:=by
 have hsh:WShape.hasAll [] args [.list .int]=true:=(pre_splitW hpre).1
 have hc:l.pre.holds [] {args:=args}=true:=(pre_splitW hpre).2
 obtain ⟨d,r,rfl,h1,h2⟩:=hasAllW_cons hsh;obtain rfl:=hasAllW_nil h2;obtain ⟨xs,rfl,h3⟩:=hasW_list h1;obtain ⟨ns,rfl⟩:=items_int h3;have hlen:ns.length<=n:=by
  unfold OpenLaw.pre at hc;have h4:(WTm.not (.lt (.lit (.int (n:Int))) (.len (.arg 0)))).holds [] {args:=[.list (ns.map .int)]}=true:=by
   have h4:=(holds_andW hc).1
   rw[hn]at h4;exact h4
  have h5:=condW_of h4 (w_not (w_lt w_lit (w_len_list (w_arg rfl))))
  rw[Aa3]at h5;refine Nat.le_of_not_lt λq=>?_
  have q':(n:Int)<((ns.length:Nat):Int):=by omega
  first
   | (rw[decide_eq_true q']at h5;exact absurd h5 (by decide))
   | (simp at h5;omega)
 cases hwl with
 | cons w1 w2=>
  cases w2
  cases w1 with
  | list ho hall=>exact⟨_,_,ns,rfl,rfl,ho,aN5 ns _ hall,hlen⟩
theorem cF5 (l:OpenLaw)(args:List WData):l.row.toRowW.claim.post args (.bool true) args=true:=
 postW_of (r:=l.row.toRowW) (X:=(true==true))
  (show WShape.has [] (.bool true) .bool=true by first | rfl | decide | simp[WShape.has,WShape.arms,WShape.armsAll])
  (show(WTm.eq .res (.lit (.bool true))).value [] {args:=args,res:=some (.bool true),after:=args}=some (.bool (true==true)) from w_eq_bool (w_res rfl) w_lit) rfl
theorem bG8 {l:OpenLaw}{n:Nat}{q:Program}{loose:List Str}{XP:(Str->Option Value)->Heap->Prop}{YP:World->Heap->Prop}{d:DefRec}
  (hn:l.most=some n) (hdf:d.params.defaults=[])
  (call:∀(w:World) (s₀ s₁:Shared) (mg mb:Str->Option Value) (fa:Addr) (o:Obj) (pm cd doc:Value) (a:Addr) (vs:List Value) (ns:List Int),
   Ground q loose [] XP w s₀ mg mb s₁.heap->YP w s₁.heap ->
   s₁.heap.get? fa=some o->o.data=.func (docDef d.name d.params d.body d.scope pm cd doc)->s₁.heap.CodeRec cd d.name->mg d.name=some (.ref fa) ->
   s₁.heap.get? a=some {cls:=.type "list",data:=.seq vs.toArray}->IntsAre vs ns->ns.length<=n->s₁.gens = #[] ->
   codeAny (model l.prog w) callerA (.call (.ref fa) ⟨[.ref a],[]⟩) (λr s'=>r=.ok (.ret (.bool true))/\OldK s₁.heap s'.heap/\s'.os=s₁.os/\AllBare s'.gens) s₁) :
  WalkO q loose XP YP l.row.toRowW d [] (λf vs=>PySem.call f vs):=by
 intro w s₀ s₁ mg mb G Y fa o pm cd doc dV kV ho hd hcd hD hmg hg args vals as hpre hlay hrd hwl hlo;obtain rfl:dV=.none:=Dflts.none hD hdf;obtain rfl:kV=.none:=Dflts.noKw hD;obtain ⟨a,vs,ns,rfl,rfl,hobj,hints,hlen⟩:=cE0 hn hpre hwl;refine enter_call (codeAny_mono (call w s₀ s₁ mg mb fa o pm cd doc a vs ns G Y ho (fd_plain hd) hcd hmg hobj hints hlen hg) λr s' hq=>?_)
 obtain ⟨rfl,h2,h3,h4⟩:=hq;exact⟨.inl ⟨.bool true,.bool true,[],rfl,λ_=>rfl,.bool true,cF5 l _,λ_=>⟨List.Pairwise.nil,λ_ hm=>(nomatch hm)⟩⟩,h2,h3,h4⟩
section
variable {prog:Program}{w:World}{A:Around}{E:Value->Shared->Prop}{s:Shared}{K:Frag}
def bT3 (h:Heap):Heap:={h with objs := #[]}
theorem S1 (h:Heap)(b:Addr):(bT3 h).get? b=none:=by
 cases e:(bT3 h).get? b with
 | none=>rfl
 | some o=>exact absurd (Ab3 e) (Nat.not_lt_zero _)
theorem cQ1 {h:Heap}{L:Addr}{m:Str->Option Value}(n:h.Ns L m):Fr (bT3 h) L h m:=
 ⟨n,λb o e=>(by rw[S1]at e;cases e),Nat.zero_le _⟩
end
end Att
namespace L2
open PySem PySem.Spec PyProof.Rows
theorem V2:∀{vs:List Value} {ns:List Int},IntsAre vs ns->Vals (ns.map V.int) vs
 | _,_,.nil=>.nil
 | _,_,.cons n t h=>.cons ⟨t,rfl⟩ (V2 h)
def dG4 (H:Hp):Prop:=∀b,H b=none\/∃o xs,H b=some (.frz o (.lst xs))
theorem cO1 {P:Program}{w:World}{K:PySem.W.Frag}{mg mb:Str->Option Value}{CX:CXT}{k:Nat}{fa a:Addr}{fd:FuncData}{x:Str}{sp:Sp}{s₁:Shared}{vs:List Value}{ns:List Int}
  (KX:K.In s₁.heap) (hns:s₁.heap.Ns mainGlobals mg) (hb:s₁.heap.Ns builtinsNs mb) (hbb:∀x:Str,x≠"__name__" -> mb x=bootBuiltins x) (hlim:s₁.heap.NoLimit) (hg:s₁.gens = #[])
  (ha:s₁.heap.get? a=some {cls:=.type "list",data:=.seq vs.toArray}) (hi:IntsAre vs ns) (hl:ns.length<=sizeLine) (hr:Room k callerA)
  (F:∀base:Heap,K.In base->base.Ns mainGlobals mg->E3 P w K mg base CX k fa fd [x] sp) (hbind:∀(s:Shared) (u:Value),BindsTo s fd ⟨[u],[]⟩ [(x,u)])
  (hsp:∀H:Hp,dG4 H->SqL K H a (ns.map V.int)->sp [.ref a] H (λv _=>v=.bl true) λ_ _ _=>False)
  (hCX:∀H e s',CX [] H s₁ (λ_ _ _=>False) e s'->False) :
  codeAny (model P w) callerA (.call (.ref fa) ⟨[.ref a],[]⟩) (λr s'=>r=.ok (.ret (.bool true))/\OldK s₁.heap s'.heap/\s'.os=s₁.os/\AllBare s'.gens) s₁:=by
 have rv:=V2 hi
 have aE1:=hi.length
 have core:∀H:Hp,dG4 H->SqL K H a (ns.map V.int)->HOk P w H s₁.heap->(∀b,H b≠none->b=a)->(H a≠none->K.lookup a=none) ->
   codeAny (model P w) callerA (.call (.ref fa) ⟨[.ref a],[]⟩) (λr s'=>r=.ok (.ret (.bool true))/\OldK s₁.heap s'.heap/\s'.os=s₁.os/\AllBare s'.gens) s₁:=by
  intro H hO hS hok hA hK;have base_of:∀{b:Addr} {o:Obj},s₁.heap.get? b=some o->H b=none->(bE3 s₁.heap H).get? b=some o:=λe n=>cQ2 e n
  have noA:∀{b:Addr} {o:Obj} {es:Array DictEntry} {ep:Nat},s₁.heap.get? b=some o->o.data=.dict es ep->H b=none:=λ{b o es ep} e d=>by
   cases q:H b with
   | none=>rfl
   | some u=>
    have e':b=a:=hA b (by rw[q];simp)
    subst e';rw[ha]at e;cases e;have d':Data.seq vs.toArray _=Data.dict es ep:=d;cases d'
  have nsK:∀{b:Addr} {m:Str->Option Value},s₁.heap.Ns b m->(bE3 s₁.heap H).Ns b m:=λ{b m} ⟨o,es,ep,e,d,r⟩=>⟨o,es,ep,base_of e (noA e d),d,r⟩
  have hKb:K.In (bE3 s₁.heap H):=λb o e=>base_of (KX b o e) (by
   cases q:H b with
   | none=>rfl
   | some u=>
    have e':b=a:=hA b (by rw[q];simp)
    subst e';rw[hK (by rw[q];simp)]at e;cases e)
  have hM:Mod K mg (bE3 s₁.heap H):=⟨hKb,nsK hns,⟨mb,nsK hb,hbb⟩,let ⟨mc,h1,h2⟩:=hlim;⟨mc,nsK h1,h2⟩⟩
  have e0:cB8 P w K mg (bE3 s₁.heap H) callerA [] s₁ H:=⟨rfl,hM,λb o e=>cU1 e,Nat.le_of_eq (cD1 _ _),trivial,λb hb=>absurd (show b∈([]:List Addr) from hb) (by simp),hok,.of_eq hg⟩
  refine codeAny_mono ((F _ hKb (nsK hns)).run callerA [] s₁ H ⟨[.ref a],[]⟩ [.ref a] [.ref a] _ _ hr e0 (hbind s₁ (.ref a)) (.cons rfl .nil) (hsp H hO hS)) λr s' h=>?_
  cases r with
  | error e=>exact(hCX H e s' h).elim
  | ok fl=>
   cases fl with
   | next=>exact False.elim h
   | brk=>exact False.elim h
   | cont=>exact False.elim h
   | ret u=>
    obtain ⟨v,H',os,bare,un,hok',r',q⟩:=h;have q':v=.bl true:=q;subst q';obtain rfl:u=Value.bool true:=r';refine⟨rfl,OldK.of_keep λb o e=>?_,os,bare⟩
    cases q:H b with
    | none=>exact un.keep b o e q (by intro z;exact absurd (show b∈([]:List Addr) from z) (by simp)) (by simp)
    | some u=>
     rcases hO b with z | ⟨ob,xs,z⟩
     ·rw[q]at z;cases z
     ·have z2:=un.frzs b ob _ z
      obtain ⟨e1,_⟩:=hok b _ z;obtain ⟨e2,_⟩:=hok' b _ z2;rw[e]at e1;cases e1;exact e2
 cases hk:K.lookup a with
 | some o=>
  have e:=KX a o hk
  rw[ha]at e;cases e;refine core (λ_=>none) (λ_=>.inl rfl) (.inr ⟨_,vs.toArray,_,hk,rfl,rfl,rfl,by rw[Ab2,aE1];exact hl,by simpa using rv⟩) (λb u z=>by have z':(none:Option HO)=some u:=z;cases z') (λb z=>absurd rfl z) λz=>absurd rfl z
 | none=>
  refine core (λb=>if b=a then some (.frz {cls:=.type "list",data:=.seq vs.toArray} (.lst (ns.map V.int))) else none) (λb=>?_) (.inl (.inr ⟨{cls:=.type "list",data:=.seq vs.toArray},if_pos rfl⟩)) (λb u z=>?_) (λb z=>?_) λ_=>hk
  ·by_cases hb:b=a
   ·exact .inr ⟨_,_,if_pos hb⟩
   ·exact .inl (if_neg hb)
  ·by_cases hb:b=a
   ·have z':=(if_pos hb).symm.trans z
    cases z'
    subst hb;exact⟨ha,by rw[Aa3];exact hl,vs,_,rv,ha⟩
   ·have z':=(if_neg hb).symm.trans z
    cases z'
  ·by_cases hb:b=a
   ·exact hb
   ·exact absurd (if_neg hb) z
abbrev KOf {K:PySem.W.Frag}{h:Heap}(_:K.In h):PySem.W.Frag:=K
theorem cT0 {l:PySem.W.OpenLaw}{n k:Nat}{q:Program}{loose:List Str}{XP:(Str->Option Value)->Heap->Prop}{YP:World->Heap->Prop}{d:DefRec}{K:Params->PySem.W.Frag}{CX:World->CXT}{sp:World->Sp}{x:Str}
  (hn:l.most=some n) (hn2:n<=sizeLine) (hdf:d.params.defaults=[]) (hr:Room k callerA)
  (hY:∀(w:World) (h:Heap),YP w h->(K w.params).In h)
  (F:∀(w:World) (mg:Str->Option Value) (fa:Addr) (h:Heap),(K w.params).In h->h.Ns mainGlobals mg->mg d.name=some (.ref fa) ->
   ∃fd:FuncData,(∀(s:Shared) (u:Value),BindsTo s fd ⟨[u],[]⟩ [(x,u)]) /\
    ∀base:Heap,(K w.params).In base->base.Ns mainGlobals mg->E3 l.prog w (K w.params) mg base (CX w) k fa fd [x] (sp w))
  (hsp:∀(w:World) (H:Hp) (a:Addr) (ns:List Int),ns.length<=n->dG4 H->SqL (K w.params) H a (ns.map V.int)->sp w [.ref a] H (λv _=>v=.bl true) λ_ _ _=>False)
  (hCX:∀(w:World) (H:Hp) (s:Shared) (e:Value) (s':Shared),CX w [] H s (λ_ _ _=>False) e s'->False) :
  PySem.W.WalkO q loose XP YP l.row.toRowW d [] (λf vs=>PySem.call f vs):=by
 refine Att.bG8 hn hdf λw s₀ s₁ mg mb fa o pm cd doc a vs ns G Y ho hd hcd hmg hobj hints hlen hg=>?_
 have KX:=hY w _ Y
 obtain ⟨fd,hb,hF⟩:=F w mg fa _ KX G.T.g hmg;exact cO1 KX G.T.g G.T.b G.T.builtins G.T.nolimit hg hobj hints (Nat.le_trans hlen hn2) hr hF hb (λH hO hS=>hsp w H a ns hlen hO hS) λH e s'=>hCX w H s₁ e s'
def D8 (s:Stmt):Arguments:=match s with
 | .FunctionDef _ a _ _ _ _ _ _ _ _=>a
 | _=>{posonlyargs:=[],args:=[],vararg:=none,kwonlyargs:=[],kw_defaults:=[],kwarg:=none,defaults:=[]}
def C8 (s:Stmt):List Stmt:=match s with
 | .FunctionDef _ _ b _ _ _ _ _ _ _=>b
 | _=>[]
def A6 (s:Stmt):Scope:=match s with
 | .FunctionDef _ _ _ _ _ _ sc _ _ _=>sc
 | _=>{kind:=.function,names:=[],isGenerator:=false,isCoroutine:=false}
abbrev CX0:CXT:=λ_ _ _ _ _ _=>False
abbrev E0:XK:=λ_ _ _=>False
theorem G6 {X:Cx}:bC5 CX0 X E0:=λ_ _ _ _ _ _ _ h=>h.elim
structure Fun (K:PySem.W.Frag)(x qual:Str)(st:Stmt)(f:Addr)(fd:FuncData):Prop where
 ex:∃(oc:Value) (od:Option Addr) (kV doc pm:Value) (an:Option Addr) (cdv ct:Value) (osl:Array (Option Value)),
  fd=PySem.W.fnOf x qual (D8 st) (C8 st) (A6 st) .none kV doc pm an cdv ct/\K.lookup f=some ⟨oc,od,.func fd,osl⟩/\PySem.W.codeIn K cdv qual=true
 kp:PySem.W.keepIn K (.ref f)=true
section
variable {P:Program}{w:World}{K:PySem.W.Frag}{mg:Str->Option Value}{base:Heap}
theorem Fun.ok {x qual:Str}{st:Stmt}{f:Addr}{fd:FuncData}{N ps:List Str}{k:Nat}{sp:Sp}(F:Fun K x qual st f fd)(S:D6 N ps (A6 st))(len:∀vs H Q E,sp vs H Q E->vs.length=ps.length)
  (hbody:∀(cdv:Value) (A:Around) (outer:List Env) (s:Shared) (H:Hp) (vs:List V) (Q:VK) (E:XK),Room k (A.deeper (envOfC qual (A6 st) s.heap.objs.size f cdv))->sp vs H Q E ->
   ∃t,PSs (aQ9 CX0 P w K mg base N qual (A6 st) f cdv A outer s H E).nox (C8 st) t/\t {nx:=λ_ H'=>Q .non H',rt:=Q} (U1 N vs) H):E3 P w K mg base CX0 (k+1) f fd ps sp:=by
 obtain ⟨oc,od,kV,doc,pm,an,cdv,ct,osl,rfl,lk,hcd⟩:=F.ex;refine dA0 lk hcd S len λA outer s H vs Q E hr hsp=>?_
 obtain ⟨t,h,q⟩:=hbody cdv A outer s H vs Q E hr hsp;exact⟨t,h.nox,q⟩
theorem Fun.binds {x qual:Str}{st:Stmt}{f:Addr}{fd:FuncData}{ps:List Str}(F:Fun K x qual st f fd)
  (h:∀(kV doc pm:Value) (an:Option Addr) (cdv ct:Value) (us:List Value),us.length=ps.length->bindArgs (PySem.W.fnOf x qual (D8 st) (C8 st) (A6 st) .none kV doc pm an cdv ct) ⟨us,[]⟩=pure (ps.zip us)):Binds K fd ps []:=by
 obtain ⟨oc,od,kV,doc,pm,an,cdv,ct,osl,rfl,lk,hcd⟩:=F.ex;exact .all (h kV doc pm an cdv ct)
theorem K7 {x qual:Str}{st:Stmt}{f:Addr}{oc:Value}{od an:Option Addr}{osl:Array (Option Value)}{kV doc pm cdv ct:Value}(l:K.lookup f=some ⟨oc,od,.func (PySem.W.fnOf x qual (D8 st) (C8 st) (A6 st) .none kV doc pm an cdv ct),osl⟩)
  (c:PySem.W.codeIn K cdv qual=true) (k:PySem.W.keepIn K (.ref f)=true):Fun K x qual st f (PySem.W.fnOf x qual (D8 st) (C8 st) (A6 st) .none kV doc pm an cdv ct):=⟨⟨oc,od,kV,doc,pm,an,cdv,ct,osl,rfl,l,c⟩,k⟩
end
section
variable {X:Cx}
theorem pv (i:Nat){x:Str}{pos:Pos}(hN:X.N[i]? = some x:=by rfl)(hv:Vis X.env.scope x:=by first | exact Or.inl rfl | exact Or.inr (Or.inl rfl) | exact Or.inr (Or.inr rfl))(hd:(x==("__debug__" : Str))=false:=by decide)
  (hcd:(x==("__classdict__" : Str))=false:=by decide):PE X (.Name x pos) (L5 i):=dH4 hN hv hd hcd
end
def Same (H H':Hp):Prop:=∀b o,H b=some o->H' b=some o
section
variable {prog:Program}{w:World}{A:Around}{R:Result->Shared->Prop}{s:Shared}
theorem bI6 {elt target iter:Expr}{ifs:List Expr}{scope:Scope}{pos:Pos}{it acc:Value}{env:Env}(I:Nat->Shared->Prop)
  (turn:∀n s,I n s->wpAny (model prog w) A (pyNext it) (λr s₁=>match r with
   | none=>R (.ok .next) s₁
   | some v=>wpAny (model prog w) A (letOwnedTupleGo target it v) (λ_ s₁'=>wpAny (model prog w) A (assign target env v) (λ_ s₂ =>
     wpAny (model prog w) A (forIn ifs true λc r=>if r=true then do let ok <- isTrue c env (eval c env);pure (ForInStep.yield ok) else pure (ForInStep.yield r)) (λok s₃ =>
      if ok=true then wpAny (model prog w) A (eval elt env) (λx s₄ =>
       wpAny (model prog w) A (call (.builtin "list.append") [acc,x]) (λ_ s₅=>∃m,m<n/\I m s₅) (λ_ _=>False) s₄) (λ_ _=>False) s₃
      else ∃m,m<n/\I m s₃) (λ_ _=>False) s₂) (λ_ _=>False) s₁') (λ_ _=>False) s₁) (λ_ _=>False) s)
  (n:Nat) (h:I n s) :
  codeAny (model prog w) A (.compLoop (.ListComp elt [⟨target,iter,ifs,0⟩] scope pos) 0 it acc env) R s:=by
 refine codeAny_loop rfl I (λn s hI=>?_) n h
 show wpAny _ A ((compTurn (.ListComp elt [⟨target,iter,ifs,0⟩] scope pos) 0 it acc env).onRaise (λx=>do noteFrame x env;theTreesLotGoes x)) _ _ s
 refine wpAny_noted ?_;rw[compTurn_list];refine wpAny_bind (wpAny_standAt (wpAny_bind (wpAny_mono (turn n s hI) (λr s₁ h₁=>?_) λ_ _ h'=>h'.elim)))
 cases r with
 | none=>exact wpAny_pure h₁
 | some v=>
  refine wpAny_bind (wpAny_mono h₁ (λ_ s₁' h₁'=>?_) λ_ _ h'=>h'.elim)
  refine wpAny_bind (wpAny_mono h₁' (λ_ s₂ h₂=>wpAny_bind (wpAny_mono h₂ (λok s₃ h₃=>?_) λ_ _ h'=>h'.elim)) λ_ _ h'=>h'.elim)
  cases ok with
  | false=>exact wpAny_pure ⟨rfl,h₃⟩
  | true=>
   exact wpAny_bind (wpAny_bind (wpAny_mono h₃ (λx s₄ h₄=>wpAny_bind (wpAny_mono h₄ (λ_ s₅ h₅=>wpAny_pure (wpAny_pure ⟨rfl,h₅⟩)) λ_ _ h'=>h'.elim)) λ_ _ h'=>h'.elim))
end
section
variable {X:Cx}
def cxC (X:Cx)(N':List Str)(scope:Scope)(cl:List (Str×Addr))(C:Addr)(ex:List Addr)(s:Shared)(H:Hp):Cx:=
 {X with N:=N',s₀:=s,H₀:=H,env:=compEnvC scope cl C X.env,outer:=X.stack,ex:=ex,fn:=λ_=>false,xe:=λ_ _=>False}
structure PIfs (X:Cx)(ifs:List Expr)(t:TT):Prop where
 mk ::
 run :
  ∀(pins:List (Addr×Obj)) (s:Shared) (σ:St) (H:Hp) (Q:Bool->Hp->Prop),Inv X pins σ H s->t σ H Q ->
   wpAny (model X.prog X.w) X.A (forIn ifs true λc r=>if r=true then do let ok <- isTrue c X.env (eval c X.env);pure (ForInStep.yield ok) else pure (ForInStep.yield r)) (TP X pins σ Q) X.xe s
instance {X:Cx} {ifs:List Expr} {t:TT}:CoeFun (PIfs X ifs t) λ_=>
 (∀(pins:List (Addr×Obj)) (s:Shared) (σ:St) (H:Hp) (Q:Bool->Hp->Prop),Inv X pins σ H s->t σ H Q ->
  wpAny (model X.prog X.w) X.A (forIn ifs true λc r=>if r=true then do let ok <- isTrue c X.env (eval c X.env);pure (ForInStep.yield ok) else pure (ForInStep.yield r)) (TP X pins σ Q) X.xe s):=⟨PIfs.run⟩
def bS2:TT:=λ_ H Q=>Q true H
theorem i9:PIfs X [] bS2:=⟨λpins s σ H Q I h=>by
 show wpAny _ _ (pure true) _ _ _
 exact wpAny_pure ⟨H,I,h⟩⟩
theorem aR8 {c:Expr}{t:TT}(hc:PT X c t):PIfs X [c] t:=⟨λpins s σ H Q I h=>by
 rw[List.forIn_cons,if_pos rfl];refine wpAny_bind (wpAny_bind (thn (hc pins s σ H Q I h) λb s1 q=>wpAny_pure ?_))
 dsimp only
 rw[List.forIn_nil];exact wpAny_pure q⟩
def stC (n:Nat)(is:List Nat)(σ:St):St:=List.replicate n none++is.map λi=>(σ[i]?).getD none
def bW1 (wi:TI)(n:Nat)(is:List Nat)(g:TG)(tt:TT)(te:TE):TE:=λσ H Q=>wi σ H λJ H1=>
 ∃W:Nat->Nat->List V->Hp->Prop,(∃m,W 0 m [] H1)/\∀i m ys H,W i m ys H->ys.length<sizeLine /\
  ((J.stop i H/\∀D,H D=none->Q (.ref D) (upd H D (.lst ys))) \/
   (J.go i H/\∀x H',J.yld i H x H'->g x (stC n is σ) H' λσ2 H2=>tt σ2 H2 λb H3=>
    if b=true then te σ2 H3 (λy H4=>∃m',m'<m/\W (i+1) m' (ys++[y]) H4) else ∃m',m'<m/\W (i+1) m' ys H3))
structure CScope (X:Cx)(scope:Scope)(cl:List (Str×Addr))(T:List Str)(is:List Nat)(N':List Str):Prop where
 clos:closureFor scope X.env=pure cl
 cell:∀y∈scope.names,y.2≠.cell
 kind:scope.kind=.function
 names:∀y∈scope.names,y.2=.local->scope.names.lookup y.1=some .local
 cap:∀x c,cl.lookup x=some c->X.env.cells.lookup x=some c
 has:∀x,((relabel scope X.env).names.lookup x=some .cell\/(relabel scope X.env).names.lookup x=some .free)->∃c,cl.lookup x=some c
 N:N'=T++is.map λ(i:Nat)=>((X.N[i]?).getD Str.empty:Str)
 lt:∀i∈is,i<X.N.length
 capt:∀i∈is,∀x,X.N[i]? = some x->((relabel scope X.env).names.lookup x=some .cell\/(relabel scope X.env).names.lookup x=some .free)/\(X.env.kindOf x=some .cell\/X.env.kindOf x=some .free)
theorem dC3 {pins:List (Addr×Obj)}{σ:St}{H:Hp}{s:Shared}{scope:Scope}{cl:List (Str×Addr)}{T N':List Str}{is:List Nat}{C:Addr}{fp:List Addr}(S:CScope X scope cl T is N')(I:Inv X pins σ H s)
  (hf:∀b∈fp,aR5 X pins H b) (hfl:∀b∈fp,b<s.heap.objs.size) (hC:s.heap.objs.size<=C):(cxC X N' scope cl C fp s H).Ok where
 mod:=I.ok.mod
 kind:=S.kind
 glob:=I.ok.glob
 blt:=I.ok.blt
 above:=hC
 inj:=λx y c h1 h2=>I.ok.inj x y c (S.cap x c h1) (S.cap y c h2)
 has:=S.has
 cab:=λx c h=>by cases h
 hd:=I.ok.hd
 frames:=I.ok.frames
 stk:=.inl rfl
 exf:=λb hb=>⟨Ab9 (Ab8 (hfl b hb) hC),λx c e=>(hf b hb).2.2.2.2.1 x c (S.cap x c e)⟩
 bs:=λb o e=>I.bs b o e
 bsz:=Nat.le_trans I.ok.bsz I.sz
 noex:=λb o e hb=>by
  rcases (hf b hb).2.2.2.1 with z | z
  ·exact I.ok.noex b o e z
  ·exact absurd (Ab8 (Ab3 e) (Nat.le_trans I.ok.bsz z)) (Ad7 _)
 exfs:=λb hb z=>(Aa1.mp (I.stkSub b z)).elim (hf b hb).2.1 (hf b hb).2.2.1
 funs:=I.stack
 frf:=I.stkFree
def bZ2 (n:Nat)(g:TG):Prop:=∀v (σ:St) H Q,n<=σ.length->g v σ H Q->g v σ H λσ' H'=>Q σ' H'/\σ'.length=σ.length/\∀i,n<=i->σ'[i]? = σ[i]?
theorem X1 {n i:Nat}(h:i<n):bZ2 n (W7 i):=λv σ H Q hl q=>
 ⟨q,List.length_set,λj hj=>Ac9 (by omega)⟩
abbrev aE5 (its:List Value)(n:Nat):Obj:={cls:=.type "list",data:=.seq its.toArray n}
theorem cM1 {pins:List (Addr×Obj)}{σ:St}{H:Hp}{s:Shared}{scope:Scope}{cl:List (Str×Addr)}{T N':List Str}{is:List Nat}{C D:Addr}{fp:List Addr}{h₁:Heap}{tk:Nat}{m:Str->Option Value}{its:List Value}{e:Nat}(S:CScope X scope cl T is N')(I:Inv X pins σ H s)
  (hf:∀b∈fp,aR5 X pins H b) (hfl:∀b∈fp,b<s.heap.objs.size) (hD:s.heap.objs.size=D) (hC:D<C) (hns:h₁.Ns C m) (old:∀b o,s.heap.get? b=some o->h₁.get? b=some o) (hacc:h₁.get? D=some (aE5 its e)) :
  Inv (cxC X N' scope cl C fp s H) (pins++[(D,aE5 its e)]) (stC T.length is σ) H {s with heap:=h₁,toks:=tk}:=by
 have hCs:s.heap.objs.size<=C:=by rw[hD];exact Nat.le_of_lt hC
 have ok:=dC3 (C:=C) S I hf hfl hCs
 have lt:∀p∈X.pn++pins,p.1<D:=λp hp=>by rw[<- hD];exact Ab3 (I.pin p hp).1
 have stk:∀b∈frs X.stack,b<D:=λb hb=>by
  obtain ⟨_,o,ho,_⟩:=I.stack.mem hb;rw[<- hD];exact Ab3 ho
 refine⟨ok,rfl,I.bare,Un.kept old,⟨m,hns,λi x v e1 e2 e3=>?_⟩,λx c h=>?_,?_,λx c h=>I.freeC x c (S.cap x c h),λp hp=>?_,I.hok.kept old,?_⟩
 ·have e1:N'[i]? = some x:=e1
  unfold stC at e2;by_cases hi:i<T.length
  ·rw[List.getElem?_append_left (by simpa using hi),List.getElem?_replicate,if_pos hi]at e2
   cases e2
  ·rw[List.getElem?_append_right (by simpa using hi),List.length_replicate,Aa9]at e2
   rw[S.N,List.getElem?_append_right (by omega),Aa9]at e1
   cases ek:is[i-T.length]? with
   | none=>rw[ek]at e2;cases e2
   | some k=>
    rw[ek]at e1 e2;have hk:k∈is:=List.mem_of_getElem? ek;have hlt:=S.lt k hk;have eN:X.N[k]? = some x:=by
     simp only[Option.map_some,Option.some.injEq]at e1;rw[Aa2 hlt]at e1 ⊢;simpa using e1
    have es:σ[k]? = some (some v):=by
     simp only[Option.map_some,Option.some.injEq]at e2;cases q:σ[k]? with
     | none=>rw[q]at e2;cases e2
     | some y=>rw[q]at e2;exact congrArg some e2
    obtain ⟨c1,c2⟩:=S.capt k hk x eN;obtain ⟨m',hn',hl'⟩:=I.loc;obtain ⟨u,r,l⟩:=hl' k x v eN es (.inr c2);refine⟨u,r,.inr ⟨c1,?_⟩⟩;rcases l with ⟨k1,_⟩ | ⟨_,c,hc,hcell⟩
    ·rcases c2 with c2 | c2 <;> rw[k1]at c2 <;> cases c2
    ·obtain ⟨c',hc'⟩:=S.has x c1
     have:c'=c:=Ab4 ((S.cap x c' hc').symm.trans hc)
     subst this;exact⟨c',hc',hcell.keeps old⟩
 ·obtain ⟨v,q⟩:=I.cell x c (S.cap x c h);exact⟨v,q.keeps old⟩
 ·exact I.hok.fresh hCs
 ·have hp:p∈X.pn++(pins++[(D,aE5 its e)]):=hp
  rw[<- Ad5]at hp;rcases Aa0.mp hp with hp | hp
  ·obtain ⟨q1,q2,q3,q4,q5⟩:=I.pin p hp
   have:=lt p hp
   exact⟨old _ _ q1,q2,Ab9 (Nat.lt_trans this hC),λz=>(Aa1.mp (I.stkSub p.1 z)).elim q3 q4,q5⟩
  ·have e:p=(D,aE5 its e):=by simpa using hp
   subst e;exact⟨hacc,I.hok.fresh (by rw[hD];exact Aa7 _),Ab9 hC,λz=>Ad7 _ (stk D z),λv z=>by cases z⟩
 ·show(stC T.length is σ).length=N'.length
  rw[S.N];unfold stC
  simp
def cU2 (X:Cx)(pins:List (Addr×Obj))(σ:St)(D C:Addr)(H4:Hp)(s4:Shared):Prop:=
 (∃m,s4.heap.Ns C m)/\(∀h',Heap.SameBut C s4.heap h'->Inv X pins σ H4 {s4 with heap:=h'})/\H4 C=none/\C≠X.env.locals/\X.s₀.heap.objs.size<=C/\(∀x c,X.env.cells.lookup x=some c->c≠C)/\∀p∈X.pn++pins,p.1≠C
theorem aX3 {elt tg iter:Expr}{ifs:List Expr}{scope:Scope}{pos pos2:Pos}{cl:List (Str×Addr)}{T N':List Str}{is:List Nat}{wi:TI}{g:TG}{tt:TT}{te:TE}(hc:X.calm=true)(S:CScope X scope cl T is N')(hi:PI X tg iter wi)(hg:bZ2 T.length g)
  (hb:∀C ex s H,PG (cxC X N' scope cl C ex s H) tg g/\PIfs (cxC X N' scope cl C ex s H) ifs tt/\PE (cxC X N' scope cl C ex s H) elt te)
  (hs:∀x,foldedSetIterable iter X.env x=pure x) {use:Option (Value->Sem Unit)} {Qc:Value->Shared->Prop} {pins:List (Addr×Obj)} {s:Shared} {σ:St} {H:Hp} {Q:VK} (I:Inv X pins σ H s) (h:bW1 wi T.length is g tt te σ H Q)
  (fin:∀(D C:Addr) (H4:Hp) (s4:Shared),cU2 X pins σ D C H4 s4->Q (.ref D) H4->compPost (model X.prog X.w) X.A X.xe use Qc (.ref D) C (.ok .next) s4) :
  wpAny (model X.prog X.w) X.A (comprehension (.ListComp elt [⟨tg,iter,ifs,0⟩] scope pos) scope X.env pos2 (newList []) false (eval iter X.env) use) Qc X.xe s:=by
 refine wpAny_comprehension_free (use:=use) rfl hs S.clos S.kind S.names (thn (hi pins s σ H _ I h) λv s1 h1=>thn h1 λitv s2 h2=>?_)
 obtain ⟨it,fp,tn,J,H2,e,I2,Tn,st2,f2,W,⟨m0,w0⟩,turn⟩:=h2;subst e;refine wpAny_newObj_type (wpAny_newFunctionEnv S.cell (by intro y hy;simp at hy) (λh₁ hns₁ hsb₁=>?_) S.kind)
 dsimp only at hns₁ hsb₁ ⊢
 generalize hH2:s2.heap.push {cls:=.type "list",dict:=none,data:=.seq ([]:List Value).toArray}=G2 at hns₁ hsb₁ ⊢;have eC:G2.objs.size=s2.heap.objs.size+1:=by rw[<- hH2,Heap.size_push]
 generalize hC:G2.objs.size=C at *;generalize hD:s2.heap.objs.size=D at *;have hDC:D<C:=by rw[eC];exact Nat.lt_succ_self D
 have bC:∀{b:Addr},b<D->b≠C:=λhb=>Ab9 (Nat.lt_trans hb hDC)
 have below:∀b o,s2.heap.get? b=some o->b<D:=λb o e=>by rw[<- hD];exact Ab3 e
 have old:∀b o,s2.heap.get? b=some o->h₁.get? b=some o:=λb o e=>hsb₁.extBut b o (bC (below b o e)) (Aa6 _ (hH2▸Aa6 _ e))
 have hacc:h₁.get? D=some (aE5 [] 0):=hsb₁.extBut _ _ (Ab9 hDC) (Aa6 _ (hH2▸(by rw[<- hD];exact Ac3 _ rfl)))
 have hfl:∀b∈fp,b<D:=λb hb=>by
  obtain ⟨o,e,_⟩:=Tn.obj _ _ st2 b hb;exact below b o e
 have lt:∀p∈X.pn++pins,p.1<D:=λp hp=>below _ _ (I2.pin p hp).1
 have stk:∀b∈frs X.stack,b<D:=λb hb=>by
  obtain ⟨_,o,ho,_⟩:=I2.stack.mem hb;exact below b o ho
 have cel:∀x c,cl.lookup x=some c->c<D:=λx c hx=>by
  obtain ⟨v,q⟩:=I2.cell x c (S.cap x c hx);rw[<- hD];exact q.lt
 have H2D:H2 D=none:=I2.hok.fresh (by rw[hD];exact Aa7 _)
 obtain ⟨pgx,pix,pex⟩:=hb C fp s2 H2;have stat:∀{e:Nat} {its:List Value} {H':Hp},(∀b∈fp,H' b=none)->∀b∈fp,aR5 (cxC X N' scope cl C fp s2 H2) (pins++[(D,aE5 its e)]) H' b:=λ{e its H'} hn b hb=>by
  obtain ⟨f0,f1,f3,f4,f5,f6⟩:=f2 b hb
  have:=hfl b hb
  refine⟨hn b hb,bC (hfl b hb),λz=>(Aa1.mp (I2.stkSub b z)).elim f1 f3,.inl hb,λx c z=>f5 x c (S.cap x c z),λp hp=>?_⟩
  have hp:p∈X.pn++(pins++[(D,aE5 its e)]):=hp
  rw[<- Ad5]at hp;rcases Aa0.mp hp with hp | hp
  ·exact f6 p hp
  ·have e:p=(D,aE5 its e):=by simpa using hp
   subst e;exact(Ab9 (hfl b hb)).symm
 have loop:codeAny (model X.prog X.w) X.A (.compLoop (.ListComp elt [⟨tg,iter,ifs,0⟩] scope pos) 0 (.ref it) (.ref D) (compEnvC scope cl C X.env)) (compPost (model X.prog X.w) X.A X.xe use Qc (.ref D) C) {s2 with heap:=h₁,toks:=s2.toks+([]:List (Str×Value)).length}:=by
  refine bI6 (λn s'=>∃i ys its e H3,Inv (cxC X N' scope cl C fp s2 H2) (pins++[(D,aE5 its e)]) (stC T.length is σ) H3 s'/\tn i s'.heap/\(∀b∈fp,H3 b=none)/\Vals ys its/\W i n ys H3) ?_ m0
   ⟨0,[],[],0,H2,cM1 S I2 f2 (by rw[hD];exact hfl) hD hDC hns₁ old hacc,Tn.keep _ _ _ st2 λb _ o q=>old b o q,λb hb=>(f2 b hb).1,.nil,w0⟩
  rintro n s3 ⟨i,ys,its,e,H3,I3,st3,fr3,rv,w3⟩;obtain ⟨hsz,hh⟩:=turn i n ys H3 w3;rcases hh with ⟨stop,qn⟩ | ⟨go,step⟩
  ·refine thn (Tn.done (cxC X N' scope cl C fp s2 H2) rfl rfl rfl hc i _ s3 _ H3 _ I3 (stat fr3) st3 stop) λr s4 ⟨hr,I4⟩=>?_
   subst hr;obtain ⟨m4,hn4,_⟩:=I4.loc;obtain ⟨pd,H3D,_⟩:=I4.pin (D,aE5 its e) (by simp)
   have H3C:H3 C=none:=I4.free
   refine fin D C (upd H3 D (.lst ys)) s4 ⟨⟨m4,hn4⟩,λh' sb=>?_,by rw[B2 (Nat.ne_of_gt hDC)];exact H3C,λz=>Ad7 _ (Nat.lt_trans hDC (by rw[z];have:=I2.lt;rw[hD]at this;exact this)),Nat.le_trans I2.sz (by rw[hD];exact Nat.le_of_lt hDC),λx c e=>by
    obtain ⟨v,q⟩:=I2.cell x c e;exact bC (by rw[<- hD];exact q.lt),λp hp=>bC (lt p hp)⟩ (qn D H3D)
   have kC:∀b o,b≠C->s4.heap.get? b=some o->h'.get? b=some o:=λb o hb q=>(sb.2 b hb).trans q
   have u:=I4.base
   have u:Un (frs X.stack) fp H2 H3 s2.heap s4.heap:=u
   have u2:Un (frs X.stack) fp H2 (upd H3 D (.lst ys)) s2.heap h':=by
    refine⟨λb o q n hb hx=>kC b o (bC (below b o q)) (u.keep b o q n hb hx),λb o q n hb hx=>?_,λb o q n hx=>?_,λb o q hx=>?_,λb xs q=>?_,λb o xs q=>?_,λb ps q=>?_⟩
    ·obtain ⟨sl,q1⟩:=u.slot b o q n hb hx;exact⟨sl,kC b _ (bC (below b o q)) q1⟩
    ·rw[B2 (Ab9 (below b o q))];exact u.free b o q n hx
    ·obtain ⟨o',q1⟩:=u.there b o q hx;exact⟨o',kC b _ (bC (below b o q)) q1⟩
    ·rw[B2 (D0 q H2D)];exact u.tups b xs q
    ·rw[B2 (D0 q H2D)];exact u.frzs b o xs q
    ·obtain ⟨more,q1⟩:=u.tbls b ps q;exact⟨more,by rw[B2 (D0 q H2D)];exact q1⟩
   have hok:HOk X.prog X.w (upd H3 D (.lst ys)) h':=λb o q=>by
    by_cases hb:b=D
    ·subst hb;rw[B7]at q;cases q;exact⟨Nat.le_of_lt hsz,its,e,rv,kC _ _ (Ab9 hDC) pd⟩
    ·rw[B2 hb]at q;refine(I4.hok b o q).stay (λc v hc q'=>kC c v ?_ q') (λc q'=>by rw[B2 (D0 q' H3D)];exact q') λc xs q'=>by rw[B2 (D0 q' H3D)];exact q'
     rcases hc with z | z
     ·rw[z];exact D0 q H3C
     ·exact D0 z H3C
   have os4:s4.os=s2.os:=I4.os
   exact I2.call' (s':={s4 with heap:=h'}) os4 u2 hok I4.bare λb hb=>⟨(f2 b hb).2.2.2.1,(f2 b hb).2.1,(f2 b hb).2.2.2.2.1,(f2 b hb).2.2.2.2.2⟩
  ·refine thn (Tn.item (cxC X N' scope cl C fp s2 H2) rfl rfl rfl hc i _ s3 _ H3 _ I3 (stat fr3) st3 go) λr s4 ⟨u,hr,h4⟩=>?_
   subst hr;refine thn h4 λ_ s5 ⟨x,H5,I5,r5,y5,st5,fr5⟩=>?_
   have I5':=I5.pinned (stat fr5) (Tn.obj _ _ st5)
   have hln:T.length<=(stC T.length is σ).length:=by unfold stC;simp
   refine thn (pgx _ s5 _ H5 x u _ I5' r5 (hg x _ H5 _ hln (step x H5 y5))) λ_ s6 ⟨σ6,H6,I6,q6,l6,k6⟩=>?_
   refine thn (pix _ s6 σ6 H6 _ I6 q6) λb s7 ⟨H7,I7,q7⟩=>?_
   have back:∀{H8:Hp} {s8:Shared} {its':List Value} {e':Nat},Inv (cxC X N' scope cl C fp s2 H2) (pins++[(D,aE5 its' e')]++aA1 fp s5.heap) σ6 H8 s8->Inv (cxC X N' scope cl C fp s2 H2) (pins++[(D,aE5 its' e')]) (stC T.length is σ) H8 s8/\tn (i+1) s8.heap/\∀b∈fp,H8 b=none:=λ{H8 s8 its' e'} I8=>by
    refine⟨I8.unpinned.weak l6.symm λj v q=>?_,Tn.keep _ _ _ st5 λb hb o q=>(I8.pin (b,o) (Ac1 _ (Ac1 _ (z0 hb q)))).1,λb hb=>?_⟩
    ·by_cases hj:T.length<=j
     ·rw[k6 j hj];exact q
     ·unfold stC at q;rw[List.getElem?_append_left (by simpa using hj),List.getElem?_replicate,if_pos (by omega)]at q
      cases q
    ·obtain ⟨o,q,d⟩:=Tn.obj _ _ st5 b hb;exact(I8.pin (b,o) (Ac1 _ (Ac1 _ (z0 hb q)))).2.1
   cases b with
   | false=>
    rw[if_neg Bool.false_ne_true]at q7 ⊢;obtain ⟨m',hm,w7⟩:=q7;obtain ⟨J1,J2,J3⟩:=back I7;exact⟨m',hm,i+1,ys,its,e,H7,J1,J2,J3,rv,w7⟩
   | true=>
    rw[if_pos rfl]at q7 ⊢;refine thn (pex _ s7 σ6 H7 _ I7 q7) λy s8 ⟨yv,H8,I8,r8,m',hm,w8⟩=>?_
    obtain ⟨pd,H8D,_⟩:=I8.pin (D,aE5 its e) (by simp)
    have pl:s8.heap.PlainList D its.toArray:=⟨e,pd⟩
    refine wpAny_list_append_plain pl (λh9 pl9 sb9=>?_) (by have:=rv.length;simp;omega)
    obtain ⟨e9,hl9⟩:=pl9;have ea:its.toArray.push y=(its++[y]).toArray:=by simp
    rw[ea]at hl9;have I8':Inv (cxC X N' scope cl C fp s2 H2) (pins++aA1 fp s5.heap) σ6 H8 s8:=I8.pins_of λp hp=>I8.pin p (Ac1 _ ((Aa0.mp hp).elim (λz=>List.mem_append_left _ (List.mem_append_left _ z)) λz=>Ac1 _ z))
    have I9:Inv (cxC X N' scope cl C fp s2 H2) (pins++aA1 fp s5.heap) σ6 H8 {s8 with heap:=h9}:=by
     refine I8'.turned (t':=s8.toks) (it:=D) (λb o hb q=>(sb9.2 b hb).trans q) H8D (Ab9 hDC) (.inr (by show s2.heap.objs.size<=D;rw[hD];exact Aa7 _)) (λx c z=>Ab9 (cel x c z)) λp hp=>?_
     have hp:p∈X.pn++(pins++aA1 fp s5.heap):=hp
     rw[<- Ad5]at hp;rcases Aa0.mp hp with z | z
     ·exact Ab9 (lt p z)
     ·exact Ab9 (hfl _ (aW2 z).1)
    have I9':Inv (cxC X N' scope cl C fp s2 H2) (pins++[(D,aE5 (its++[y]) e9)]++aA1 fp s5.heap) σ6 H8 {s8 with heap:=h9}:=I9.pins_of λp hp=>by
     rcases Aa0.mp hp with z | z
     ·rcases Aa0.mp z with z | z
      ·exact I9.pin p (Ac1 _ (List.mem_append_left _ z))
      ·have ep:p=(D,aE5 (its++[y]) e9):=by simpa using z
       subst ep;exact⟨hl9,H8D,Ab9 hDC,λz=>Ad7 _ (stk D z),λv z=>by cases z⟩
     ·exact I9.pin p (Ac1 _ (Ac1 _ z))
    obtain ⟨J1,J2,J3⟩:=back I9';exact⟨m',hm,i+1,ys++[yv],its++[y],e9,H8,J1,J2,J3,rv.append (.cons r8 .nil),w8⟩
 refine codeAny_compStart_list loop ?_;exact Tn.self _ 0 _ _ _ (Tn.keep _ _ _ st2 λb _ o q=>old b o q) loop
theorem Z7 {elt tg iter:Expr}{ifs:List Expr}{scope:Scope}{pos:Pos}{cl:List (Str×Addr)}{T N':List Str}{is:List Nat}{wi:TI}{g:TG}{tt:TT}{te:TE}(hc:X.calm=true)(S:CScope X scope cl T is N')(hi:PI X tg iter wi)(hg:bZ2 T.length g)
  (hb:∀C ex s H,PG (cxC X N' scope cl C ex s H) tg g/\PIfs (cxC X N' scope cl C ex s H) ifs tt/\PE (cxC X N' scope cl C ex s H) elt te)
  (hs:∀x,foldedSetIterable iter X.env x=pure x:=by intro _;rfl):PE X (.ListComp elt [⟨tg,iter,ifs,0⟩] scope pos) (bW1 wi T.length is g tt te):=by
 refine⟨?_⟩;intro pins s σ H Q I h;rw[eval_ListComp];refine aX3 hc S hi hg hb hs I h λD C H4 s4 ⟨⟨m4,hn4⟩,J,_⟩ q=>?_
 exact⟨m4,hn4,λh' sb=>⟨.ref D,H4,J h' sb,rfl,q⟩⟩
theorem bS3 {i:Nat}{x:Str}{pos' spos:Pos}{elt tg iter:Expr}{ifs:List Expr}{scope:Scope}{pos:Pos}{cl:List (Str×Addr)}{T N':List Str}{is:List Nat}{wi:TI}{g:TG}{tt:TT}{te:TE}(hN:X.N.Nodup)(hx:X.N[i]? = some x)(hl:X.env.scope.names.lookup x=some .local)
  (hc:X.calm=true) (S:CScope X scope cl T is N') (hi:PI X tg iter wi) (hg:bZ2 T.length g)
  (hb:∀C ex s H,PG (cxC X N' scope cl C ex s H) tg g/\PIfs (cxC X N' scope cl C ex s H) ifs tt/\PE (cxC X N' scope cl C ex s H) elt te)
  (hsw:swapsWith (.ListComp elt [⟨tg,iter,ifs,0⟩] scope pos) (some (.Name x pos')) spos.line X.env=pure true:=by rfl)
  (hs:∀x,foldedSetIterable iter X.env x=pure x:=by intro _;rfl):PS X (.Assign [.Name x pos'] (.ListComp elt [⟨tg,iter,ifs,0⟩] scope pos) spos) (aU8 (bW1 wi T.length is g tt te) (W7 i)):=by
 refine⟨?_⟩;intro pins s σ H D I h;rw[exec_Assign_Name_used _ _ _ _ hsw];refine wpAny_bind (wpAny_standAt (wpAny_bind ?_));show wpAny _ X.A (do let _ <- comprehension (.ListComp elt [⟨tg,iter,ifs,0⟩] scope pos) scope X.env _ (newList []) false (eval iter X.env) (some (assign (.Name x pos') X.env))) _ _ s;refine wpAny_bind (wpAny_mono (aX3 (use:=some (assign (.Name x pos') X.env)) (Qc:=λ_ s'=>SP X pins D .next s') hc S hi hg hb hs I h λDa C H4 s4 ⟨⟨m4,hn4⟩,J,k1,k2,k3,k4,k5⟩ q=>?_) (λ_ s' hq=>wpAny_pure (wpAny_pure hq)) λ_ _ e=>e)
 show wpAny _ _ (assign (.Name x pos') X.env (.ref Da)) _ _ _
 have I4:Inv X pins σ H4 s4:=J s4.heap (.refl _ _)
 refine wpAny_assign_Name (aY4 I4 hN hx (.inl hl) (v:=.ref Da) rfl (λs5 I5 ⟨a,sb,ha⟩=>?_) (.inr hl))
 have aC:a≠C:=by
  rcases ha with rfl | ha
  ·exact k2.symm
  ·exact k4 x a ha
 refine⟨m4,hn4.sameBut sb aC.symm,λh' sb'=>⟨_,H4,?_,q⟩⟩
 exact I5.turned (t':=s5.toks) (λb o hb e=>(sb'.2 b hb).trans e) k1 k2 (.inr k3) k4 k5
end
end L2
namespace LV
open PySem L2
def _root_.L2.excO (x C:Addr):HO:=.ext λh=>∃o vs,h.get? x=some o/\o.cls=.ref C/\o.data=.fields vs
def _root_.L2.dEnt (x:List Int×Addr×Value):DictEntry:=⟨reduceHash (Builtin.Tuple.tupleHashOf (x.1.map hashInt)),.ref x.2.1,x.2.2⟩
def _root_.L2.dicO (a:Addr)(kv:List (List Int×Addr×V)):HO:=.ext λh=>∃xs:List (List Int×Addr×Value),Paired (λp q=>p.1=q.1/\p.2.1=q.2.1/\RelV p.2.2 q.2.2) kv xs /\
 kv.length<=sizeLine/\(a==sysModules)=false/\∃o es ep,h.get? a=some o/\o.ExactDict/\o.data=.dict es ep/\es.toList=xs.map L2.dEnt/\(xs.map (·.1)).Nodup
inductive HM where
 | l (xs:List V) | x (a:Addr) (kv:List (List Int×Addr×V))
def HM.ho:HM->HO
 | .l xs=>.lst xs
 | .x a kv=>L2.dicO a kv
theorem HM.nt {u:HM}{xs:List V}(h:u.ho=.tup xs):False:=by cases u <;> cases h
theorem HM.nf {u:HM}{o:Obj}{v:HO}(h:u.ho=.frz o v):False:=by cases u <;> cases h
theorem HM.nx {u:HM}{x C:Addr}(h:u.ho=L2.excO x C):False:=by
 cases u with
 | l xs=>cases h
 | x a kv=>
  have e:=HO.ext.inj h
  have e1:=congrFun e ⟨Array.replicate (x+1) {cls:=.ref C,data:=.fields #[]},{}⟩
  have g:∀b o,(Heap.get? ⟨Array.replicate (x+1) {cls:=.ref C,data:=.fields #[]},{}⟩ b)=some o->o={cls:=.ref C,data:=.fields #[]}:=λb o q=>by
   unfold Heap.get? at q;dsimp only at q;rw[Array.getElem?_replicate]at q;by_cases hb:b<x+1
   ·rw[if_pos hb]at q;exact(Ab4 q).symm
   ·rw[if_neg hb]at q;cases q
  have y:=e1.mpr ⟨{cls:=.ref C,data:=.fields #[]},#[],by unfold Heap.get?;dsimp only;rw[Array.getElem?_replicate,if_pos (by omega)],rfl,rfl⟩
  obtain ⟨_,_,_,_,o,es,ep,h1,_,h3,_⟩:=y;rw[g a o h1]at h3;cases h3
def xD (C:Addr):PyData:=.dict [(.int (C:Nat),.none)]
def bX8:PyData->Bool
 | .none | .bool _ | .int _ | .str _=>true
 | .tuple ds=>ds.all λd=>match d with | .int _=>true | _=>false
 | _=>false
def cG6 (K:PySem.W.Frag)(H:Hp)(v:V):PyData->Prop
 | .none=>v=.non
 | .bool b=>v=.bl b
 | .int i=>v=.int i
 | .str x=>v=.str x
 | .tuple ds=>∃(a:Addr) (l:List Int),v=.ref a/\ds=l.map PyData.int/\SqT K H a (l.map V.int)
 | _=>False
def cH5 (kvs:List (List Int×PyData)):List (PyData×PyData):=kvs.map λx=>(PyData.tuple (x.1.map PyData.int),x.2)
def dD (kvs:List (List Int×PyData)):PyData:=if kvs.all (λx=>bX8 x.2) then .dict (cH5 kvs) else .dict [(.none,.none)]
def KvF (K:PySem.W.Frag)(H:Hp):List (List Int×Addr×V)->List (List Int×PyData)->Prop:=Paired λx y=>x.1=y.1/\SqT K H x.2.1 (x.1.map V.int)/\cG6 K H x.2.2 y.2
mutual
inductive Rep (K:PySem.W.Frag)(H:Hp):V->PyData->Prop
 | non:Rep K H .non .none
 | bl (b:Bool):Rep K H (.bl b) (.bool b)
 | int (i:Int):Rep K H (.int i) (.int i)
 | str (x:Str):Rep K H (.str x) (.str x)
 | tup {a:Addr} {xs:List V} {ds:List PyData}:SqT K H a xs->Reps K H xs ds->Rep K H (.ref a) (.tuple ds)
 | lst {a:Addr} {xs:List V} {ds:List PyData}:SqL K H a xs->Reps K H xs ds->Rep K H (.ref a) (.list ds)
 | exc {a C:Addr}:H a=some (L2.excO a C)->Rep K H (.ref a) (.dict [(.int (C:Nat),.none)])
 | ptr {a:Addr}:Rep K H (.ref a) (.dict [(.none,.none)])
 | adr {a:Addr}:Rep K H (.ref a) (.dict [(.int (a:Nat),.none),(.none,.none)])
 | dic {a:Addr} {kv:List (List Int×Addr×V)} {kvs:List (List Int×PyData)} {ds:List (PyData×PyData)}:H a=some (L2.dicO a kv)->KvF K H kv kvs->ds=cH5 kvs->Rep K H (.ref a) (.dict ds)
inductive Reps (K:PySem.W.Frag)(H:Hp):List V->List PyData->Prop
 | nil:Reps K H [] []
 | cons {v:V} {d:PyData} {vs:List V} {ds:List PyData}:Rep K H v d->Reps K H vs ds->Reps K H (v::vs) (d::ds)
end
section
variable {K:PySem.W.Frag}{H H':Hp}
theorem _root_.L2.Same.rf (H:Hp):Same H H:=λ_ _ e=>e
theorem _root_.L2.Same.tr {H1 H2 H3:Hp}(a:Same H1 H2)(b:Same H2 H3):Same H1 H3:=λx o e=>b x o (a x o e)
theorem V8 (h:Same H H'){a:Addr}{u:HO}(r:Rd H a u):Rd H' a u:=by
 rcases r with e | ⟨o,e⟩
 ·exact .inl (h _ _ e)
 ·exact .inr ⟨o,h _ _ e⟩
theorem C4 (h:Same H H'){a:Addr}{xs:List V}(r:SqT K H a xs):SqT K H' a xs:=r.imp (V8 h) id
theorem R5 (h:Same H H'){a:Addr}{xs:List V}(r:SqL K H a xs):SqL K H' a xs:=r.imp (V8 h) id
theorem cB5 (h:Same H H'){v:V}:∀{d:PyData},cG6 K H v d->cG6 K H' v d
 | .none,r | .bool _,r | .int _,r | .str _,r=>r
 | .tuple _,⟨a,l,e1,e2,s⟩=>⟨a,l,e1,e2,C4 h s⟩
 | .list _,r | .dict _,r=>r
theorem bI1 (h:Same H H'){kv:List (List Int×Addr×V)}{kvs:List (List Int×PyData)}(r:KvF K H kv kvs):KvF K H' kv kvs:=by
 unfold KvF at *;induction r with
 | nil=>exact .nil
 | cons a _ ih=>exact .cons ⟨a.1,C4 h a.2.1,cB5 h a.2.2⟩ ih
mutual
theorem bK0 (h:Same H H'):∀(d:PyData) {v:V},Rep K H v d->Rep K H' v d
 | .none,_,r=>by cases r;exact .non
 | .bool _,_,r=>by cases r;exact .bl _
 | .int _,_,r=>by cases r;exact .int _
 | .str _,_,r=>by cases r;exact .str _
 | .tuple ds,_,r=>by cases r with | tup s rs=>exact .tup (C4 h s) (aE0 h ds rs)
 | .list ds,_,r=>by cases r with | lst s rs=>exact .lst (R5 h s) (aE0 h ds rs)
 | .dict _,_,r=>by cases r with | exc e=>exact .exc (h _ _ e) | ptr=>exact .ptr | adr=>exact .adr | dic e r z=>exact .dic (h _ _ e) (bI1 h r) z
theorem aE0 (h:Same H H'):∀(ds:List PyData) {vs:List V},Reps K H vs ds->Reps K H' vs ds
 | [],_,r=>by cases r;exact .nil
 | d::ds,_,r=>by cases r with | cons a b=>exact .cons (bK0 h d a) (aE0 h ds b)
end
theorem Rep.mono {v:V}{d:PyData}(r:Rep K H v d)(h:Same H H'):Rep K H' v d:=bK0 h d r
theorem Reps.mono {vs:List V}{ds:List PyData}(r:Reps K H vs ds)(h:Same H H'):Reps K H' vs ds:=aE0 h ds r
mutual
def imm:PyData->Bool
 | .none | .bool _ | .int _ | .str _=>true
 | .tuple ds=>M1 ds
 | .list _ | .dict _=>false
def M1:List PyData->Bool
 | []=>true
 | d::ds=>imm d&&M1 ds
end
mutual
theorem bY9 (h:∀a xs,Rd H a (.tup xs)->Rd H' a (.tup xs)):∀(d:PyData) {v:V},imm d=true->Rep K H v d->Rep K H' v d
 | .none,_,_,r=>by cases r;exact .non
 | .bool _,_,_,r=>by cases r;exact .bl _
 | .int _,_,_,r=>by cases r;exact .int _
 | .str _,_,_,r=>by cases r;exact .str _
 | .tuple ds,_,i,r=>by
  cases r with
  | tup s rs=>exact .tup (s.imp (h _ _) id) (j4 h ds (by simpa[imm]using i) rs)
 | .list ds,_,i,r=>by simp[imm]at i
 | .dict _,_,i,r=>by simp[imm]at i
theorem j4 (h:∀a xs,Rd H a (.tup xs)->Rd H' a (.tup xs)):∀(ds:List PyData) {vs:List V},M1 ds=true->Reps K H vs ds->Reps K H' vs ds
 | [],_,_,r=>by cases r;exact .nil
 | d::ds,_,i,r=>by
  have i':imm d=true/\M1 ds=true:=by simpa[M1]using i
  cases r with | cons a b=>exact .cons (bY9 h d i'.1 a) (j4 h ds i'.2 b)
end
theorem Reps.length:∀{vs:List V} {ds:List PyData},Reps K H vs ds->vs.length=ds.length
 | _,[],r=>by cases r;rfl
 | _,d::ds,r=>by cases r with | cons a b=>simp[Reps.length b]
theorem Reps.get:∀{vs:List V} {ds:List PyData} {i:Nat} {v:V},Reps K H vs ds->vs[i]? = some v->∃d,ds[i]? = some d/\Rep K H v d
 | _,[],_,_,r,e=>by cases r;simp at e
 | _,d::ds,0,v,r,e=>by
  cases r with | cons a b=>simp at e;subst e;exact⟨d,rfl,a⟩
 | _,d::ds,i+1,v,r,e=>by
  cases r with
  | cons a b=>
   obtain ⟨d',h1,h2⟩:=Reps.get (i:=i) (v:=v) b (by simpa using e)
   exact⟨d',by simpa using h1,h2⟩
theorem Reps.get':∀{vs:List V} {ds:List PyData} {i:Nat} {d:PyData},Reps K H vs ds->ds[i]? = some d->∃v,vs[i]? = some v/\Rep K H v d
 | _,[],_,_,r,e=>by simp at e
 | _,d::ds,0,v,r,e=>by
  cases r with | cons a b=>simp at e;subst e;exact⟨_,rfl,a⟩
 | _,d::ds,i+1,v,r,e=>by
  cases r with
  | cons a b=>
   obtain ⟨d',h1,h2⟩:=Reps.get' (i:=i) b (by simpa using e)
   exact⟨d',by simpa using h1,h2⟩
theorem Reps.append:∀{vs us:List V} {ds es:List PyData},Reps K H vs ds->Reps K H us es->Reps K H (vs++us) (ds++es)
 | _,_,[],_,r,s=>by cases r;exact s
 | _,_,d::ds,_,r,s=>by cases r with | cons a b=>exact .cons a (Reps.append b s)
theorem Reps.drop:∀{vs:List V} {ds:List PyData} (n:Nat),Reps K H vs ds->Reps K H (vs.drop n) (ds.drop n)
 | _,_,0,r=>r
 | _,[],n+1,r=>by cases r;exact .nil
 | _,d::ds,n+1,r=>by cases r with | cons a b=>exact Reps.drop n b
theorem Reps.take:∀{vs:List V} {ds:List PyData} (n:Nat),Reps K H vs ds->Reps K H (vs.take n) (ds.take n)
 | _,_,0,r=>.nil
 | _,[],n+1,r=>by cases r;exact .nil
 | _,d::ds,n+1,r=>by cases r with | cons a b=>exact .cons a (Reps.take n b)
theorem Reps.set:∀{vs:List V} {ds:List PyData} (n:Nat) {v:V} {d:PyData},Reps K H vs ds->Rep K H v d->Reps K H (vs.set n v) (ds.set n d)
 | _,[],n,_,_,r,_=>by cases r;exact .nil
 | _,e::ds,0,_,_,r,s=>by cases r with | cons a b=>exact .cons s b
 | _,e::ds,n+1,_,_,r,s=>by cases r with | cons a b=>exact .cons a (Reps.set n b s)
theorem Reps.eraseIdx:∀{vs:List V} {ds:List PyData} (n:Nat),Reps K H vs ds->Reps K H (vs.eraseIdx n) (ds.eraseIdx n)
 | _,[],n,r=>by cases r;exact .nil
 | _,e::ds,0,r=>by cases r with | cons a b=>exact b
 | _,e::ds,n+1,r=>by cases r with | cons a b=>exact .cons a (Reps.eraseIdx n b)
theorem Reps.dropLast {vs:List V}{ds:List PyData}(r:Reps K H vs ds):Reps K H vs.dropLast ds.dropLast:=by
 rw[List.dropLast_eq_take,List.dropLast_eq_take,r.length];exact r.take _
theorem Reps.reverse:∀{vs:List V} {ds:List PyData},Reps K H vs ds->Reps K H vs.reverse ds.reverse
 | _,[],r=>by cases r;exact .nil
 | _,d::ds,r=>by
  cases r with
  | cons a b=>rw[List.reverse_cons,List.reverse_cons];exact(Reps.reverse b).append (.cons a .nil)
theorem X2:∀(l:List Int),Reps K H (l.map V.int) (l.map PyData.int)
 | []=>.nil
 | i::l=>.cons (.int i) (X2 l)
theorem Reps.ints:∀{l:List Int} {vs:List V},Reps K H vs (l.map PyData.int)->vs=l.map V.int
 | [],_,r=>by cases r;rfl
 | i::l,_,r=>by
  cases r with
  | cons a b=>cases a;rw[Reps.ints b];rfl
end
open Classical in
noncomputable def hid (S:Addr->Prop)(H:Hp):Hp:=λb=>if S b then none else H b
section
variable {S S':Addr->Prop}{H H':Hp}{b:Addr}{o:HO}
theorem hid_some:hid S H b=some o↔¬S b/\H b=some o:=by
 unfold hid;by_cases h:S b
 ·rw[if_pos h];exact⟨(λe=>nomatch e),λe=>absurd h e.1⟩
 ·rw[if_neg h];exact⟨λe=>⟨h,e⟩,λe=>e.2⟩
theorem T6:Same (hid S H) H:=λb o e=>(hid_some.mp e).2
theorem C6 (h:Same H H')(hs:∀b,S' b->H b≠none->S b):Same (hid S H) (hid S' H'):=λb o e=>by
 obtain ⟨a,c⟩:=hid_some.mp e;exact hid_some.mpr ⟨λz=>a (hs b z (by rw[c];simp)),h b o c⟩
theorem K6 (h:Same H H'):Same (hid S H) (hid S H'):=C6 h λ_ z _=>z
theorem S5 (hs:∀b,S b->∃u:HM,H b=some u.ho){a:Addr}{xs:List V}(r:Rd H a (.tup xs)):Rd (hid S H) a (.tup xs):=by
 have n:¬S a:=λz=>by
  obtain ⟨ys,e⟩:=hs a z;rcases r with r | ⟨o,r⟩ <;> rw[e]at r <;> replace r:=Ab4 r
  ·exact HM.nt r
  ·exact HM.nf r
 rcases r with r | ⟨o,r⟩
 ·exact .inl (hid_some.mpr ⟨n,r⟩)
 ·exact .inr ⟨o,hid_some.mpr ⟨n,r⟩⟩
end
inductive OT where
 | leaf (d:PyData) | tup (ts:List OT) | lst (ts:List OT) | dic (kvs:List (List Int×PyData))
mutual
def OT.data:OT->PyData
 | .leaf d=>d
 | .tup ts=>.tuple (OT.datas ts)
 | .lst ts=>.list (OT.datas ts)
 | .dic kvs=>dD kvs
def OT.datas:List OT->List PyData
 | []=>[]
 | t::ts=>t.data::OT.datas ts
end
mutual
/-- v is the tree t;L: its lists -/
inductive Dp (K:PySem.W.Frag)(Z H:Hp):V->OT->List Addr->Prop
 | leaf {v:V} {d:PyData}:Rep K Z v d->Dp K Z H v (.leaf d) []
 | tup {a:Addr} {xs:List V} {ts:List OT} {L:List Addr}:SqT K H a xs->Dps K Z H xs ts L->Dp K Z H (.ref a) (.tup ts) L
 | lst {a:Addr} {xs:List V} {ts:List OT} {L:List Addr}:H a=some (.lst xs)->Dps K Z H xs ts L->Dp K Z H (.ref a) (.lst ts) (a::L)
 | dic {a:Addr} {kv:List (List Int×Addr×V)} {kvs:List (List Int×PyData)}:H a=some (L2.dicO a kv)->kv.map (·.1)=kvs.map (·.1)->Reps K Z (kv.map λx=>V.ref x.2.1) (kvs.map λx=>PyData.tuple (x.1.map PyData.int))->Reps K Z (kv.map (·.2.2)) (kvs.map (·.2))->Dp K Z H (.ref a) (.dic kvs) [a]
inductive Dps (K:PySem.W.Frag)(Z H:Hp):List V->List OT->List Addr->Prop
 | nil:Dps K Z H [] [] []
 | cons {v:V} {t:OT} {vs:List V} {ts:List OT} {L L':List Addr}:Dp K Z H v t L->Dps K Z H vs ts L'->Dps K Z H (v::vs) (t::ts) (L++L')
end
section
variable {K:PySem.W.Frag}{Z Z' H H':Hp}
mutual
/-- only its lists and what is below count -/
theorem aD6 (hz:Same Z Z')(ht:∀a xs,Rd H a (.tup xs)->Rd H' a (.tup xs)):∀(t:OT) {v:V} {L:List Addr},(∀b∈L,H' b=H b)->Dp K Z H v t L->Dp K Z' H' v t L
 | .leaf d,_,_,_,r=>by cases r with | leaf r=>exact .leaf (r.mono hz)
 | .tup ts,_,_,hl,r=>by cases r with | tup s r=>exact .tup (s.imp (ht _ _) id) (m8 hz ht ts hl r)
 | .lst ts,_,_,hl,r=>by
  cases r with
  | lst s r=>exact .lst (by rw[hl _ (by simp)];exact s) (m8 hz ht ts (λb h=>hl b (by simp[h])) r)
 | .dic kvs,_,_,hl,r=>by
  cases r with
  | dic s k r1 r2=>exact .dic (by rw[hl _ (by simp)];exact s) k (r1.mono hz) (r2.mono hz)
theorem m8 (hz:Same Z Z')(ht:∀a xs,Rd H a (.tup xs)->Rd H' a (.tup xs)):∀(ts:List OT) {vs:List V} {L:List Addr},(∀b∈L,H' b=H b)->Dps K Z H vs ts L->Dps K Z' H' vs ts L
 | [],_,_,_,r=>by cases r;exact .nil
 | t::ts,_,_,hl,r=>by
  cases r with
  | cons a b=>exact .cons (aD6 hz ht t (λb h=>hl b (by simp[h])) a) (m8 hz ht ts (λb h=>hl b (by simp[h])) b)
end
mutual
theorem aB5:∀(t:OT) {v:V} {L:List Addr},Dp K Z H v t L->∀b∈L,∃u:HM,H b=some u.ho
 | .leaf d,_,_,r=>by cases r with | leaf r=>intro b h;simp at h
 | .tup ts,_,_,r=>by cases r with | tup s r=>exact j6 ts r
 | .lst ts,_,_,r=>by
  cases r with
  | lst s r=>
   intro b h;rcases Aa1.mp h with rfl | h
   ·exact⟨.l _,s⟩
   ·exact j6 ts r b h
 | .dic kvs,_,_,r=>by
  cases r with
  | dic s k r1 r2=>
   intro b h;rw[Ad6.mp h];exact⟨.x _ _,s⟩
theorem j6:∀(ts:List OT) {vs:List V} {L:List Addr},Dps K Z H vs ts L->∀b∈L,∃u:HM,H b=some u.ho
 | [],_,_,r=>by cases r;intro b h;simp at h
 | t::ts,_,_,r=>by
  cases r with
  | cons a b=>
   intro c h;rcases Aa0.mp h with h | h
   ·exact aB5 t a c h
   ·exact j6 ts b c h
end
theorem bM4 {H:Hp}{v:V}:∀{d:PyData},bX8 d=true->Rep K H v d->cG6 K H v d
 | .none,_,r=>by cases r;rfl
 | .bool _,_,r=>by cases r;rfl
 | .int _,_,r=>by cases r;rfl
 | .str _,_,r=>by cases r;rfl
 | .list _,f,_=>by cases f
 | .dict _,f,_=>by cases f
 | .tuple ds,f,r=>by
  cases r with
  | @tup a xs _ s rs=>
   have key:∀(ds:List PyData) (xs:List V),(ds.all λd=>match d with | .int _=>true | _=>false)=true->Reps K H xs ds->∃l:List Int,ds=l.map PyData.int/\xs=l.map V.int:=λds=>by
    induction ds with
    | nil=>intro xs _ r;cases r;exact⟨[],rfl,rfl⟩
    | cons d ds ih=>
     intro xs f r;rw[List.all_cons,Bool.and_eq_true]at f;cases r with
     | cons a b=>
      obtain ⟨l,e1,e2⟩:=ih _ f.2 b;cases d with
      | int i=>cases a;exact⟨i::l,by rw[e1];rfl,by rw[e2];rfl⟩
      | _=>cases f.1
   obtain ⟨l,e1,e2⟩:=key ds xs f rs;exact⟨a,l,rfl,e1,by rw[<- e2];exact s⟩
theorem cI4 {H:Hp}:∀{kv:List (List Int×Addr×V)} {kvs:List (List Int×PyData)},kvs.all (λx=>bX8 x.2)=true->kv.map (·.1)=kvs.map (·.1)->Reps K H (kv.map λx=>V.ref x.2.1) (kvs.map λx=>PyData.tuple (x.1.map PyData.int))->Reps K H (kv.map (·.2.2)) (kvs.map (·.2))->KvF K H kv kvs
 | [],[],_,_,_,_=>.nil
 | [],_::_,_,e,_,_=>by simp at e
 | _::_,[],_,e,_,_=>by simp at e
 | x::kv,y::kvs,f,e,r1,r2=>by
  simp only[Ac6,List.cons.injEq]at e r1 r2;rw[List.all_cons,Bool.and_eq_true]at f;cases r1 with
  | cons a1 b1=>
   cases r2 with
   | cons a2 b2=>
    refine .cons ⟨e.1,?_,bM4 f.1 a2⟩ (cI4 f.2 e.2 b1 b2);have z:cG6 K H (.ref x.2.1) (PyData.tuple (y.1.map PyData.int)):=bM4 (by simp[bX8,List.all_map,Function.comp_def]) a1
    obtain ⟨a,l,h1,h2,h3⟩:=z;cases h1
    have:y.1=l:=by
     have inj:∀(u v:List Int),u.map PyData.int=v.map PyData.int->u=v:=λu=>by
      induction u with
      | nil=>intro v h;cases v <;> simp at h ⊢
      | cons c u ih=>intro v h;cases v with
       | nil=>simp at h
       | cons c' v=>simp at h;rw[h.1,ih v h.2]
     exact inj _ _ h2
    rw[e.1,this];exact h3
mutual
/-- the tree is a datum,where one sees its lists -/
theorem bS1 (hz:Same Z H)(ht:∀a xs,Rd H a (.tup xs)->Rd H' a (.tup xs))(hz':Same Z H'):∀(t:OT) {v:V} {L:List Addr},(∀b∈L,H' b=H b)->Dp K Z H v t L->Rep K H' v t.data
 | .leaf d,_,_,_,r=>by cases r with | leaf r=>exact r.mono hz'
 | .tup ts,_,_,hl,r=>by
  cases r with
  | tup s r=>exact .tup (s.imp (ht _ _) id) (bF1 hz ht hz' ts hl r)
 | .lst ts,_,_,hl,r=>by
  cases r with
  | lst s r=>exact .lst (SqL.of (by rw[hl _ (by simp)];exact s)) (bF1 hz ht hz' ts (λb h=>hl b (by simp[h])) r)
 | .dic kvs,_,_,hl,r=>by
  cases r with
  | dic s k r1 r2=>
   show Rep K H' _ (dD kvs)
   unfold dD;split
   ·rename_i f;exact .dic (by rw[hl _ (by simp)];exact s) (bI1 hz' (cI4 f k r1 r2)) rfl
   ·exact .ptr
theorem bF1 (hz:Same Z H)(ht:∀a xs,Rd H a (.tup xs)->Rd H' a (.tup xs))(hz':Same Z H'):∀(ts:List OT) {vs:List V} {L:List Addr},(∀b∈L,H' b=H b)->Dps K Z H vs ts L->Reps K H' vs (OT.datas ts)
 | [],_,_,_,r=>by cases r;exact .nil
 | t::ts,_,_,hl,r=>by
  cases r with
  | cons a b=>exact .cons (bS1 hz ht hz' t (λb h=>hl b (by simp[h])) a) (bF1 hz ht hz' ts (λb h=>hl b (by simp[h])) b)
end
theorem Dp.mono {t:OT}{v:V}{L:List Addr}(r:Dp K Z H v t L)(hz:Same Z Z')(h:Same H H'):Dp K Z' H' v t L:=
 aD6 hz (λ_ _=>V8 h) t (λb hb=>by obtain ⟨xs,e⟩:=aB5 t r b hb;rw[e];exact h _ _ e) r
end
inductive Sl where
 | no | val (d:PyData) | own (ds:List PyData) | bor (d:PyData) | tr (t:OT)
def Sl.os:Sl->Bool
 | .own _=>true
 | .tr _=>true
 | _=>false
def C3 (ρ:List Sl)(o:Nat->List Addr)(S:Addr->Prop)(b:Addr):Prop:=S b\/∃(i:Nat) (x:Sl),ρ[i]? = some x/\x.os=true/\b∈o i
structure Env (K:PySem.W.Frag)(S:Addr->Prop)(B H:Hp)(σ:St)(ρ:List Sl)(o:Nat->List Addr):Prop where
 len:σ.length=ρ.length
 base:Same B H
 sl:∀b,S b->∃u:HM,B b=some u.ho
 new:∀(i:Nat) (x:Sl),ρ[i]? = some x->x.os=true->∀b∈o i,B b=none
 inj:∀(i j:Nat) (x y:Sl),ρ[i]? = some x->ρ[j]? = some y->x.os=true->y.os=true->∀b,b∈o i->b∈o j->i=j
 own:∀(i:Nat) (ds:List PyData),ρ[i]? = some (.own ds)->∃p,o i=[p]/\σ[i]? = some (some (.ref p))/\∃xs,H p=some (.lst xs)/\Reps K (hid (C3 ρ o S) H) xs ds
 val:∀(i:Nat) (d:PyData),ρ[i]? = some (.val d)->∃v,σ[i]? = some (some v)/\Rep K (hid (C3 ρ o S) H) v d
 bor:∀(i:Nat) (d:PyData),ρ[i]? = some (.bor d)->∃v,σ[i]? = some (some v)/\Rep K H v d
 tr:∀(i:Nat) (t:OT),ρ[i]? = some (.tr t)->(o i).Nodup/\∃v,σ[i]? = some (some v)/\Dp K (hid (C3 ρ o S) H) H v t (o i)
section
variable {K:PySem.W.Frag}{S:Addr->Prop}{B H H':Hp}{σ:St}{ρ:List Sl}{o:Nat->List Addr}
theorem Env.grow (e:Env K S B H σ ρ o)(h:Same H H'):Env K S B H' σ ρ o:=
 ⟨e.len,L2.Same.tr e.base h,e.sl,e.new,e.inj,λi ds z=>by
  obtain ⟨p,o',a,xs,b,c⟩:=e.own i ds z;exact⟨p,o',a,xs,h _ _ b,c.mono (K6 h)⟩,λi d z=>by
  obtain ⟨v,a,b⟩:=e.val i d z;exact⟨v,a,b.mono (K6 h)⟩,λi d z=>by
  obtain ⟨v,a,b⟩:=e.bor i d z;exact⟨v,a,b.mono h⟩,λi t z=>by
  obtain ⟨n,v,a,b⟩:=e.tr i t z;exact⟨n,v,a,b.mono (K6 h) h⟩⟩
theorem Env.lists (e:Env K S B H σ ρ o):∀b,C3 ρ o S b->∃u:HM,H b=some u.ho:=λb z=>by
 rcases z with z | ⟨i,x,z,hx,hb⟩
 ·obtain ⟨xs,q⟩:=e.sl b z;exact⟨xs,e.base _ _ q⟩
 ·cases x with
  | own ds=>
   obtain ⟨p,o',_,xs,q,_⟩:=e.own i ds z;rw[o']at hb;exact⟨.l xs,by rw[Ad6.mp hb];exact q⟩
  | tr t=>
   obtain ⟨_,v,_,q⟩:=e.tr i t z;exact aB5 t q b hb
  | _=>cases hx
theorem Env.imm (e:Env K S B H σ ρ o){v:V}{d:PyData}(i:imm d=true)(r:Rep K H v d):Rep K (hid (C3 ρ o S) H) v d:=
 bY9 (λ_ _ q=>S5 e.lists q) d i r
def bA2 (ρ:List Sl)(o:Nat->List Addr)(b:Addr):Prop:=∃(i:Nat) (x:Sl),ρ[i]? = some x/\x.os=true/\b∈o i
theorem Env.rebase (e:Env K S B H σ ρ o):Env K S (hid (bA2 ρ o) H) H σ ρ o/\Same B (hid (bA2 ρ o) H):=by
 have s:Same B (hid (bA2 ρ o) H):=λb x q=>
  hid_some.mpr ⟨(λ⟨i,y,z,hy,hb⟩=>by rw[e.new i y z hy b hb]at q;cases q),e.base b x q⟩
 refine⟨⟨e.len,T6,λb z=>?_,λi x z hx b hb=>?_,e.inj,e.own,e.val,e.bor,e.tr⟩,s⟩
 ·obtain ⟨xs,q⟩:=e.sl b z;exact⟨xs,s _ _ q⟩
 ·unfold hid;exact if_pos ⟨i,x,z,hx,hb⟩
end
noncomputable def vw (m:Bool)(S:Addr->Prop)(H:Hp):Hp:=match m with | true=>hid S H | false=>H
def E (K:PySem.W.Frag)(m:Bool)(t:TE)(ρ:List Sl)(d:PyData):Prop:=
 ∀(S:Addr->Prop) (B:Hp) (σ:St) (H:Hp) (o:Nat->List Addr),Env K S B H σ ρ o->∀Q:VK,(∀v H',Same H H'->Rep K (vw m (C3 ρ o S) H') v d->Q v H')->t σ H Q
def EF (K:PySem.W.Frag)(t:TE)(ρ:List Sl)(ds:List PyData):Prop:=
 ∀(S:Addr->Prop) (B:Hp) (σ:St) (H:Hp) (o:Nat->List Addr),Env K S B H σ ρ o->∀Q:VK,
  (∀p xs H',Same H H'->H p=none->H' p=some (.lst xs)->Reps K (hid (λb=>C3 ρ o S b\/b=p) H') xs ds->Q (.ref p) H')->t σ H Q
def T (K:PySem.W.Frag)(t:TT)(ρ:List Sl)(b:Bool):Prop:=
 ∀(S:Addr->Prop) (B:Hp) (σ:St) (H:Hp) (o:Nat->List Addr),Env K S B H σ ρ o->∀Q:Bool->Hp->Prop,(∀H',Same H H'->Q b H')->t σ H Q
def A (K:PySem.W.Frag)(m:Bool)(t:TA)(ρ:List Sl)(ds:List PyData):Prop:=
 ∀(S:Addr->Prop) (B:Hp) (σ:St) (H:Hp) (o:Nat->List Addr),Env K S B H σ ρ o->∀Q:List V->Hp->Prop,(∀vs H',Same H H'->Reps K (vw m (C3 ρ o S) H') vs ds->Q vs H')->t σ H Q
structure Wk (K:PySem.W.Frag)(Z:Hp)(J:It)(ds:List PyData):Prop where
 stop:∀i H,Same Z H->ds.length<=i->J.stop i H
 go:∀i H d,Same Z H->ds[i]? = some d->J.go i H
 yld:∀i H d x H',Same Z H->ds[i]? = some d->J.yld i H x H'->Same H H'/\∀S:Addr->Prop,(∀b,S b->Z b=none/\H b≠none)->Rep K (hid S H') x d
def I (K:PySem.W.Frag)(m:Bool)(wi:TI)(ρ:List Sl)(ds:List PyData):Prop:=
 ∀(S:Addr->Prop) (B:Hp) (σ:St) (H:Hp) (o:Nat->List Addr),Env K S B H σ ρ o->∀R:It->Hp->Prop,(∀J H',Same H H'->Wk K (vw m (C3 ρ o S) H') J ds->R J H')->wi σ H R
def G (K:PySem.W.Frag)(m:Bool)(g:TG)(d:PyData)(ρ ρ':List Sl):Prop:=(∀(o:Nat->List Addr) (S:Addr->Prop) (b:Addr),C3 ρ' o S b->C3 ρ o S b) /\
 ∀(S:Addr->Prop) (B:Hp) (σ:St) (H:Hp) (o:Nat->List Addr),Env K S B H σ ρ o->∀v,Rep K (vw m (C3 ρ o S) H) v d->∀Q:St->Hp->Prop,(∀σ',Env K S B H σ' ρ' o->Q σ' H)->g v σ H Q
def Gs (K:PySem.W.Frag)(m:Bool)(g:TGs)(ds:List PyData)(ρ ρ':List Sl):Prop:=(∀(o:Nat->List Addr) (S:Addr->Prop) (b:Addr),C3 ρ' o S b->C3 ρ o S b) /\
 ∀(S:Addr->Prop) (B:Hp) (σ:St) (H:Hp) (o:Nat->List Addr),Env K S B H σ ρ o->∀vs,Reps K (vw m (C3 ρ o S) H) vs ds->∀Q:St->Hp->Prop,(∀σ',Env K S B H σ' ρ' o->Q σ' H)->g vs σ H Q
structure AE where
 nx:List Sl->Prop
 rt:PyData->Prop:=λ_=>False
 rl:List PyData->Prop:=λ_=>False
 bk:List Sl->Prop:=λ_=>False
 ct:List Sl->Prop:=λ_=>False
structure Sat (K:PySem.W.Frag)(S:Addr->Prop)(B:Hp)(R:AE)(D:aN2):Prop where
 nx:∀ρ' σ' H' o',Env K S B H' σ' ρ' o'->R.nx ρ'->D.nx σ' H'
 rt:∀v d H',Same B H'->Rep K (hid S H') v d->R.rt d->D.rt v H'
 rl:∀p xs ds H',Same B H'->B p=none->H' p=some (.lst xs)->Reps K (hid (λb=>S b\/b=p) H') xs ds->R.rl ds->D.rt (.ref p) H'
 bk:∀ρ' σ' H' o',Env K S B H' σ' ρ' o'->R.bk ρ'->D.bk σ' H'
 ct:∀ρ' σ' H' o',Env K S B H' σ' ρ' o'->R.ct ρ'->D.ct σ' H'
def W (K:PySem.W.Frag)(t:TS)(ρ:List Sl)(R:AE):Prop:=
 ∀(S:Addr->Prop) (B:Hp) (D:aN2) (σ:St) (H:Hp) (o:Nat->List Addr),Env K S B H σ ρ o->Sat K S B R D->t D σ H
section
variable {K:PySem.W.Frag}{ρ ρ' ρ1:List Sl}{m:Bool}{t ta tb tc:TE}{d d':PyData}{ds es:List PyData}
theorem aB9 {S:Addr->Prop}{H:Hp}:Same (vw m S H) H:=by cases m;exact L2.Same.rf _;exact T6
theorem aO7 {S:Addr->Prop}{H H':Hp}(h:Same H H'):Same (vw m S H) (vw m S H'):=by cases m;exact h;exact K6 h
theorem E.bor (h:E K true t ρ d):E K m t ρ d:=λS B σ H o I Q q=>h S B σ H o I Q λv H' s r=>q v H' s (by cases m;exact r.mono T6;exact r)
theorem E.imm (h:E K m t ρ d)(i:imm d=true:=by rfl):E K true t ρ d:=λS B σ H o I Q q=>h S B σ H o I Q λv H' s r=>q v H' s ((I.grow s).imm i (r.mono aB9))
theorem EF.e' (h:EF K t ρ ds):E K m t ρ (.list ds):=E.bor λS B σ H o I Q q=>h S B σ H o I Q λp xs H' s n e r=>q _ _ s
 (.lst (SqL.of (hid_some.mpr ⟨(λz=>by obtain ⟨ys,y⟩:=I.lists p z;rw[n]at y;cases y),e⟩)) (r.mono (C6 (L2.Same.rf _) λb z _=>.inl z)))
theorem A1 {i:Nat}(h:ρ[i]? = some (.val d)):E K m (L5 i) ρ d:=E.bor λS B σ H o I Q q=>by
 obtain ⟨v,a,b⟩:=I.val i d h;exact⟨v,a,q v H (L2.Same.rf _) b⟩
theorem N7 {i:Nat}(h:ρ[i]? = some (.own ds)):E K false (L5 i) ρ (.list ds):=λS B σ H o I Q q=>by
 obtain ⟨p,o',a,xs,b,c⟩:=I.own i ds h;exact⟨_,a,q _ H (L2.Same.rf _) (.lst (SqL.of b) (c.mono T6))⟩
theorem cP8 {i:Nat}(h:ρ[i]? = some (.bor d)):E K false (L5 i) ρ d:=λS B σ H o I Q q=>by
 obtain ⟨v,a,b⟩:=I.bor i d h;exact⟨v,a,q v H (L2.Same.rf _) b⟩
theorem cK8 {v:V}(h:∀H,Rep K H v d):E K m (tC v) ρ d:=λS B σ H o I Q q=>q v H (L2.Same.rf _) (h _)
theorem A8 {i:Int}:E K m (tC (.int i)) ρ (.int i):=cK8 λ_=>.int i
theorem aP7 {b:Bool}:E K m (tC (.bl b)) ρ (.bool b):=cK8 λ_=>.bl b
theorem cP5 {r:R2}(m1 m2:Bool)(ha:E K m1 ta ρ d)(hb:E K m2 tb ρ d'){f:PyData}
  (hr:∀(S:Addr->Prop) (H:Hp) (x y:V) (Q:VK),(∀b,S b->∃u:HM,H b=some u.ho)->Rep K (vw m1 S H) x d->Rep K (vw m2 S H) y d'->(∀v H',Same H H'->Rep K (vw m S H') v f->Q v H')->r x y H Q):E K m (tOp r ta tb) ρ f:=
 λS B σ H o I Q q=>ha S B σ H o I _ λx H1 s1 rx=>hb S B σ H1 o (I.grow s1) _ λy H2 s2 ry=>
  hr (C3 ρ o S) H2 x y Q ((I.grow s1).grow s2).lists (rx.mono (aO7 s2)) ry λv H' s r=>q v H' (L2.Same.tr s1 (L2.Same.tr s2 s)) r
theorem bI0 {r:R2}{i j:Int}{f:PyData}(ha:E K false ta ρ (.int i))(hb:E K false tb ρ (.int j))(hr:∀(H:Hp) (Q:VK),(∀v,(∀H,Rep K H v f)->Q v H)->r (.int i) (.int j) H Q):E K m (tOp r ta tb) ρ f:=
 cP5 false false ha hb λS H x y Q _ rx ry q=>by
  cases rx;cases ry
  exact hr H Q λv r=>q v H (L2.Same.rf _) (r _)
theorem O6 {g:Int->Int->Int}{i j:Int}(ha:E K false ta ρ (.int i))(hb:E K false tb ρ (.int j)):E K m (tOp (rI0 λi j=>.int (g i j)) ta tb) ρ (.int (g i j)):=
 bI0 ha hb λH Q q=>⟨i,j,rfl,rfl,q _ λ_=>.int _⟩
theorem e_i {C:Int->Int->Prop}{g:Int->Int->Int}{i j:Int}(ha:E K false ta ρ (.int i))(hb:E K false tb ρ (.int j))(hc:C i j):E K m (tOp (rI C λi j=>.int (g i j)) ta tb) ρ (.int (g i j)):=
 bI0 ha hb λH Q q=>⟨i,j,rfl,rfl,hc,q _ λ_=>.int _⟩
theorem bF5 {g:Int->Int->Bool}{i j:Int}(ha:E K false ta ρ (.int i))(hb:E K false tb ρ (.int j)):E K m (tOp (rI0 λi j=>.bl (g i j)) ta tb) ρ (.bool (g i j)):=
 bI0 ha hb λH Q q=>⟨i,j,rfl,rfl,q _ λ_=>.bl _⟩
end
end LV
namespace LV
open PySem L2
section
variable {K:PySem.W.Frag}{ρ ρ' ρ1:List Sl}{m m':Bool}{t ta tb tc:TE}{d d':PyData}{ds es:List PyData}
theorem cL3 {H:Hp}{xs:List V}{i:Int}(r:Reps K H xs ds)(e:atI ds i=some d):∃v,atI xs i=some v/\Rep K H v d:=by
 unfold atI at e ⊢;rw[r.length];cases h:ixN ds.length i with
 | none=>rw[h]at e;cases e
 | some j=>rw[h]at e;exact r.get' (by simpa using e)
def sq:PyData->Option (List PyData)
 | .list ds=>some ds
 | .tuple ds=>some ds
 | _=>none
theorem E7 {i:Int}(ha:E K m ta ρ d)(hb:E K false tb ρ (.int i))(hs:sq d=some ds)(h:atI ds i=some d'):E K m (tOp (rIx K) ta tb) ρ d':=
 cP5 m false ha hb λS H x y Q _ rx ry q=>by
  cases ry;cases rx with
  | lst s r=>
   cases hs
   obtain ⟨v,h1,h2⟩:=cL3 r h;exact .inl ⟨_,_,i,v,rfl,rfl,R5 aB9 s,h1,q v H (L2.Same.rf _) h2⟩
  | tup s r=>
   cases hs
   obtain ⟨v,h1,h2⟩:=cL3 r h;exact .inr (.inl ⟨_,_,i,v,rfl,rfl,C4 aB9 s,h1,q v H (L2.Same.rf _) h2⟩)
  | _=>cases hs
theorem aA3 {α:Type}{xs:List α}{i:Int}{v:α}(n:Nat)(hn:i=n)(h:xs[n]? = some v):atI xs i=some v:=by
 subst hn;unfold atI ixN
 have:=(Ab0.mp h).1
 rw[if_pos (by omega),if_pos (by omega)]
 simpa using h
theorem aH5 {α:Type}{xs:List α}{v:α}:atI (xs++[v]) (-1)=some v:=by
 unfold atI ixN;rw[if_neg (by omega),if_pos (by simp;omega)]
 have:((-1:Int)+((xs++[v]).length:Nat)).toNat=xs.length:=by simp;omega
 rw[this];simp
theorem A7:A K m W1 ρ []:=λS B σ H o I Q q=>q [] H (L2.Same.rf _) .nil
theorem A2 {tr:TA}(ha:E K m ta ρ d)(hr:A K m tr ρ ds):A K m (E9 ta tr) ρ (d::ds):=λS B σ H o I Q q=>
 ha S B σ H o I _ λx H1 s1 rx=>hr S B σ H1 o (I.grow s1) _ λxs H2 s2 rs=>q _ H2 (L2.Same.tr s1 s2) (.cons (rx.mono (aO7 s2)) rs)
theorem D3 {H:Hp}{p:Addr}{o:HO}(h:H p=none):Same H (upd H p o):=λb x e=>by
 have:b≠p:=λz=>by rw[z,h]at e;cases e
 rw[B2 this];exact e
theorem U5 {t:TA}(h:A K m t ρ ds)(hl:ds.length<=sizeLine:=by first | decide | (unfold PySem.sizeLine;simp)):E K m (bH7 t) ρ (.tuple ds):=λS B σ H o I Q q=>h S B σ H o I _ λxs H1 s1 rs=>⟨by rw[rs.length];exact hl,λp hp=>by
 have g:=D3 (o:=.tup xs) hp
 refine q _ _ (L2.Same.tr s1 g) (.tup (.inl (.inl ?_)) (rs.mono (aO7 g)));cases m with
 | false=>exact B7
 | true=>exact hid_some.mpr ⟨(λz=>by obtain ⟨ys,y⟩:=(I.grow s1).lists p z;rw[hp]at y;cases y),B7⟩⟩
theorem aZ0 {S:Addr->Prop}{H:Hp}{p:Addr}{xs ys:List V}(hs:∀b,S b->∃u:HM,H b=some u.ho)(hp:H p=none)(r:Reps K (hid S H) xs ds):Reps K (hid (λb=>S b\/b=p) (upd H p (.lst ys))) xs ds:=
 r.mono (C6 (D3 hp) λb z n=>z.elim id λe=>absurd (by rw[e];exact hp) n)
theorem G8 {t:TA}(h:A K true t ρ ds)(hl:ds.length<=sizeLine:=by first | decide | (unfold PySem.sizeLine;simp)):EF K (dF7 t) ρ ds:=λS B σ H o I Q q=>h S B σ H o I _ λxs H1 s1 rs=>⟨by rw[rs.length];exact hl,λp hp=>
 q p xs _ (L2.Same.tr s1 (D3 hp)) (by cases e:H p with | none=>rfl | some x=>rw[s1 _ _ e]at hp;cases hp) B7 (aZ0 (I.grow s1).lists hp rs)⟩
def spV (K:PySem.W.Frag)(pre:List PyData->PyData->Prop):Sp:=λvs H Q _=>∃(ds:List PyData) (S:Addr->Prop) (d:PyData),(∀b,S b->∃u:HM,H b=some u.ho)/\Reps K (hid S H) vs ds/\pre ds d /\
 ∀v H',Same H H'->Rep K (hid S H') v d->Q v H'
def spL (K:PySem.W.Frag)(pre:List PyData->List PyData->Prop):Sp:=λvs H Q _=>∃(ds:List PyData) (S:Addr->Prop) (es:List PyData),(∀b,S b->∃u:HM,H b=some u.ho)/\Reps K (hid S H) vs ds/\pre ds es /\
 ∀p xs H',Same H H'->H p=none->H' p=some (.lst xs)->Reps K (hid (λb=>S b\/b=p) H') xs es->Q (.ref p) H'
theorem bG0 {H:Hp}:hid (λ_=>False) H=H:=by funext b;unfold hid;exact if_neg id
theorem G1 {pre:List PyData->PyData->Prop}{t:TA}{X:XK}(ha:A K true t ρ ds)(hp:pre ds d):E K m (aT5 (spV K pre) [] X t) ρ d:=E.bor λS B σ H o I Q q=>
 ha S B σ H o I _ λvs H1 s1 rs=>⟨ds,C3 ρ o S,d,(I.grow s1).lists,by rw[List.append_nil];exact rs,hp,λv H' s r=>q v H' (L2.Same.tr s1 s) r⟩
theorem cU8 {pre:List PyData->PyData->Prop}{t:TA}{X:XK}(ha:A K false t ρ ds)(hp:pre ds d)(hi:imm d=true):E K m (aT5 (spV K pre) [] X t) ρ d:=E.bor λS B σ H o I Q q=>
 ha S B σ H o I _ λvs H1 s1 rs=>⟨ds,λ_=>False,d,λ_ z=>z.elim,by rw[List.append_nil,bG0];exact rs,hp,λv H' s r=>q v H' (L2.Same.tr s1 s) ((I.grow (L2.Same.tr s1 s)).imm hi (by rw[bG0]at r;exact r))⟩
theorem Q7 {H H1:Hp}{p:Addr}(s:Same H H1)(h:H1 p=none):H p=none:=by
 cases e:H p with
 | none=>rfl
 | some x=>rw[s _ _ e]at h;cases h
theorem Z4 {pre:List PyData->List PyData->Prop}{t:TA}{X:XK}(ha:A K true t ρ ds)(hp:pre ds es):EF K (aT5 (spL K pre) [] X t) ρ es:=λS B σ H o I Q q=>
 ha S B σ H o I _ λvs H1 s1 rs=>⟨ds,C3 ρ o S,es,(I.grow s1).lists,by rw[List.append_nil];exact rs,hp,λp xs H' s n e r=>q p xs H' (L2.Same.tr s1 s) (Q7 s1 n) e r⟩
theorem G4 {b:Bool}(h:E K false t ρ (.bool b)):T K (bH2 t) ρ b:=λS B σ H o I Q q=>h S B σ H o I _ λv H' s r=>by cases r;exact⟨b,rfl,q H' s⟩
theorem t_b {b:Bool}(h:E K false t ρ (.bool b)):T K (tB t) ρ b:=λS B σ H o I Q q=>h S B σ H o I _ λv H' s r=>by cases r;exact⟨b,rfl,q H' s⟩
theorem bH9 {u w:TT}{a b:Bool}(h:T K u ρ a)(h':a=true->T K w ρ b):T K (dE2 u w) ρ (a&&b):=λS B σ H o I Q q=>h S B σ H o I _ λH1 s1=>by
 cases a with
 | false=>exact q H1 s1
 | true=>exact h' rfl S B σ H1 o (I.grow s1) _ λH2 s2=>q H2 (L2.Same.tr s1 s2)
theorem cJ2 {u w:TT}{a b:Bool}(h:T K u ρ a)(h':a=false->T K w ρ b):T K (tOr u w) ρ (a||b):=λS B σ H o I Q q=>h S B σ H o I _ λH1 s1=>by
 cases a with
 | true=>exact q H1 s1
 | false=>exact h' rfl S B σ H1 o (I.grow s1) _ λH2 s2=>q H2 (L2.Same.tr s1 s2)
theorem aC7 {u:TT}{a:Bool}(h:T K u ρ a):T K (dK5 u) ρ (!a):=λS B σ H o I Q q=>h S B σ H o I _ q
theorem bV3 {a:Bool}{b:Bool}(h:E K false ta ρ (.bool a))(h':a=true->E K false tb ρ (.bool b)):E K m (cZ7 ta tb) ρ (.bool (a&&b)):=E.bor (E.imm (m:=false) λS B σ H o I Q q=>h S B σ H o I _ λv H1 s1 r=>by
 cases r
 refine⟨a,rfl,?_⟩;cases a with
 | false=>exact q _ H1 s1 (.bl _)
 | true=>exact h' rfl S B σ H1 o (I.grow s1) _ λv H2 s2 r=>q v H2 (L2.Same.tr s1 s2) r)
theorem dN9 {a:Bool}{b:Bool}(h:E K false ta ρ (.bool a))(h':a=false->E K false tb ρ (.bool b)):E K m (dN4 ta tb) ρ (.bool (a||b)):=E.bor (E.imm (m:=false) λS B σ H o I Q q=>h S B σ H o I _ λv H1 s1 r=>by
 cases r
 refine⟨a,rfl,?_⟩;cases a with
 | true=>exact q _ H1 s1 (.bl _)
 | false=>exact h' rfl S B σ H1 o (I.grow s1) _ λv H2 s2 r=>q v H2 (L2.Same.tr s1 s2) r)
theorem dM8 {a:Bool}(h:E K false ta ρ (.bool a)):E K m (cY4 ta) ρ (.bool (!a)):=E.bor (E.imm (m:=false) λS B σ H o I Q q=>h S B σ H o I _ λv H1 s1 r=>by
 cases r
 exact⟨a,rfl,q _ H1 s1 (.bl _)⟩)
theorem dN2 {u:TT}{a:Bool}(h:T K u ρ a)(h1:a=true->E K m ta ρ d)(h2:a=false->E K m tb ρ d):E K m (tIf u ta tb) ρ d:=λS B σ H o I Q q=>h S B σ H o I _ λH1 s1=>by
 cases a with
 | true=>exact h1 rfl S B σ H1 o (I.grow s1) _ λv H2 s2 r=>q v H2 (L2.Same.tr s1 s2) r
 | false=>exact h2 rfl S B σ H1 o (I.grow s1) _ λv H2 s2 r=>q v H2 (L2.Same.tr s1 s2) r
theorem cV9 {Z:Hp}{a:Addr}{xs:List V}(s:SqL K Z a xs)(r:Reps K Z xs ds):Wk K Z (Itl K a) ds where
 stop:=λi H h l=>⟨xs,R5 h s,by rw[r.length];exact l⟩
 go:=λi H d h e=>by
  obtain ⟨v,h1,_⟩:=r.get' e;exact⟨xs,v,R5 h s,h1⟩
 yld:=λi H d x H' h e y=>by
  obtain ⟨rfl,y⟩:=y
  have:=y xs (R5 h s)
  obtain ⟨d',h1,h2⟩:=r.get this;rw[e]at h1;cases h1;refine⟨L2.Same.rf _,λS hS=>h2.mono λb o q=>hid_some.mpr ⟨λz=>?_,h b o q⟩⟩
  rw[(hS b z).1]at q;cases q
theorem dE8 {Z:Hp}{a:Addr}{xs:List V}(s:SqT K Z a xs)(r:Reps K Z xs ds):Wk K Z (Itt K a) ds where
 stop:=λi H h l=>⟨xs,C4 h s,by rw[r.length];exact l⟩
 go:=λi H d h e=>by
  obtain ⟨v,h1,_⟩:=r.get' e;exact⟨xs,v,C4 h s,h1⟩
 yld:=λi H d x H' h e y=>by
  obtain ⟨rfl,y⟩:=y
  have:=y xs (C4 h s)
  obtain ⟨d',h1,h2⟩:=r.get this;rw[e]at h1;cases h1;refine⟨L2.Same.rf _,λS hS=>h2.mono λb o q=>hid_some.mpr ⟨λz=>?_,h b o q⟩⟩
  rw[(hS b z).1]at q;cases q
def X7 (lo:Int)(n:Nat):List PyData:=(List.range n).map λ(i:Nat)=>PyData.int (lo+(i:Int))
theorem cR4 {Z:Hp}{lo:Int}{n:Nat}:Wk K Z (Itr lo n) (X7 lo n) where
 stop:=λi H h l=>by
  have:n<=i:=by simpa[X7]using l
  exact this
 go:=λi H d h e=>by
  have:=(Ab0.mp e).1
  have:i<n:=by simpa[X7]using this
  exact this
 yld:=λi H d x H' h e y=>by
  obtain ⟨rfl,rfl⟩:=y
  have:d=.int (lo+i):=by
   have hi:=(Ab0.mp e).1
   have hn:i<n:=by simpa[X7]using hi
   unfold X7 at e;rw[Aa9,List.getElem?_range hn]at e;exact(Ab4 e).symm
  subst this;exact⟨L2.Same.rf _,λS hS=>.int _⟩
theorem aB4 (h:E K m t ρ (.list ds)):I K m (dA2 K t) ρ ds:=λS B σ H o J R q=>h S B σ H o J _ λv H1 s1 r=>by
 cases r with
 | lst s r=>exact⟨_,rfl,⟨_,R5 aB9 s⟩,q _ H1 s1 (cV9 s r)⟩
theorem cM3 (h:E K m t ρ (.tuple ds)):I K m (dI9 K t) ρ ds:=λS B σ H o J R q=>h S B σ H o J _ λv H1 s1 r=>by
 cases r with
 | tup s r=>exact⟨_,rfl,⟨_,C4 aB9 s⟩,q _ H1 s1 (dE8 s r)⟩
theorem S4 {t:TA}{j:Int}(h:A K false t ρ [.int j])(h1 : -(2^62)<=j)(h2:j<2^62):I K m (cY8 t) ρ (X7 0 j.toNat):=λS B σ H o J R q=>h S B σ H o J _ λvs H1 s1 r=>by
 cases r with
 | cons a b=>cases a;cases b;exact⟨j,rfl,h1,h2,q _ H1 s1 cR4⟩
theorem bR2 {t:TA}{i j:Int}(h:A K false t ρ [.int i,.int j])(h0 : -(2^62)<=i/\i<2^62 /\ -(2^62)<=j/\j<2^62):I K m (cZ2 t) ρ (X7 i (j-i).toNat):=λS B σ H o J R q=>h S B σ H o J _ λvs H1 s1 r=>by
 cases r with
 | cons a b=>cases a;cases b with | cons a b=>cases a;cases b;exact⟨i,j,rfl,h0,q _ H1 s1 cR4⟩
theorem aK2 {o:Nat->List Addr}{S:Addr->Prop}{i:Nat}{x:Sl}(hx:x.os=false){b:Addr}(z:C3 (ρ.set i x) o S b):C3 ρ o S b:=by
 rcases z with z | ⟨j,y,h,hy,e⟩
 ·exact .inl z
 ·refine .inr ⟨j,y,?_,hy,e⟩;rw[List.getElem?_set]at h;by_cases c:i=j
  ·rw[if_pos c]at h;split at h
   ·rw[<- Ab4 h,hx]at hy;cases hy
   ·cases h
  ·rw[if_neg c]at h;exact h
def slot (m:Bool)(d:PyData):Sl:=match m with | true=>.val d | false=>.bor d
theorem Env.set {S:Addr->Prop}{B H:Hp}{σ:St}{o:Nat->List Addr}(I:Env K S B H σ ρ o)(i:Nat){v:V}(r:Rep K (vw m (C3 ρ o S) H) v d):Env K S B H (σ.set i (some v)) (ρ.set i (slot m d)) o:=by
 have nx:(slot m d).os=false:=by cases m <;> rfl
 have nd:∀{x:Sl},x.os=true->x≠slot m d:=λ{x} h e=>by rw[e,nx]at h;cases h
 have at_:∀{j:Nat} {x:Sl},x≠slot m d->(ρ.set i (slot m d))[j]? = some x->i≠j/\ρ[j]? = some x:=λ{j x} hx h=>by
  rw[List.getElem?_set]at h;by_cases c:i=j
  ·rw[if_pos c]at h;split at h
   ·exact absurd (Ab4 h).symm hx
   ·cases h
  ·rw[if_neg c]at h;exact⟨c,h⟩
 have g:Same (hid (C3 ρ o S) H) (hid (C3 (ρ.set i (slot m d)) o S) H):=C6 (L2.Same.rf _) λb z _=>aK2 nx z
 refine⟨by simp[I.len],I.base,I.sl,λj x h hx=>I.new j x (at_ (nd hx) h).2 hx,λj k x y h h' hx hy=>I.inj j k x y (at_ (nd hx) h).2 (at_ (nd hy) h').2 hx hy,λj ds h=>?_,λj d' h=>?_,λj d' h=>?_,λj t h=>?_⟩
 ·obtain ⟨c,h⟩:=at_ (nd rfl) h;obtain ⟨p,o',a,xs,b,r'⟩:=I.own j ds h;exact⟨p,o',by rw[Ac9 c];exact a,xs,b,r'.mono g⟩
 ·by_cases c:i=j
  ·subst c;have hl:i<ρ.length:=by
    have:=(Ab0.mp h).1
    simpa using this
   rw[List.getElem?_set_self (by simpa using hl)]at h
   cases m with
   | false=>simp[slot]at h
   | true=>
    simp[slot]at h;subst h
    exact⟨v,List.getElem?_set_self (by rw[I.len];exact hl),r.mono g⟩
  ·rw[Ac9 c]at h;obtain ⟨u,a,b⟩:=I.val j d' h;exact⟨u,by rw[Ac9 c];exact a,b.mono g⟩
 ·by_cases c:i=j
  ·subst c;have hl:i<ρ.length:=by
    have:=(Ab0.mp h).1
    simpa using this
   rw[List.getElem?_set_self (by simpa using hl)]at h
   cases m with
   | true=>simp[slot]at h
   | false=>
    simp[slot]at h;subst h
    exact⟨v,List.getElem?_set_self (by rw[I.len];exact hl),r⟩
  ·rw[Ac9 c]at h;obtain ⟨u,a,b⟩:=I.bor j d' h;exact⟨u,by rw[Ac9 c];exact a,b⟩
 ·obtain ⟨c,h⟩:=at_ (nd rfl) h;obtain ⟨n,u,a,b⟩:=I.tr j t h;exact⟨n,u,by rw[Ac9 c];exact a,b.mono g (L2.Same.rf _)⟩
theorem bD3:(slot m d).os=false:=by cases m <;> rfl
theorem D1 {i:Nat}:G K m (W7 i) d ρ (ρ.set i (slot m d)):=⟨λo S b z=>aK2 bD3 z,λS B σ H o I v r Q q=>q _ (I.set i r)⟩
theorem bR3:Gs K m dI1 [] ρ ρ:=⟨λ_ _ _ z=>z,λS B σ H o I vs r Q q=>by cases r;exact⟨rfl,q σ I⟩⟩
theorem dC7 {o:Nat->List Addr}{S:Addr->Prop}{H:Hp}(h:∀(o:Nat->List Addr) (S:Addr->Prop) (b:Addr),C3 ρ' o S b->C3 ρ o S b):Same (vw m (C3 ρ o S) H) (vw m (C3 ρ' o S) H):=by
 cases m with
 | false=>exact L2.Same.rf _
 | true=>exact C6 (L2.Same.rf _) λb z _=>h o S b z
theorem aA0 {g:TG}{gs:TGs}(h:G K m g d ρ ρ1)(h':Gs K m gs ds ρ1 ρ'):Gs K m (cZ0 g gs) (d::ds) ρ ρ':=⟨λo S b z=>h.1 o S b (h'.1 o S b z),λS B σ H o I vs r Q q=>by
 cases r with
 | cons a b=>exact⟨_,_,rfl,h.2 S B σ H o I _ a _ λσ1 I1=>h'.2 S B σ1 H o I1 _ (b.mono (dC7 h.1)) _ q⟩⟩
theorem cF7 {gs:TGs}{n:Nat}(h:Gs K m gs ds ρ ρ')(hn:ds.length=n:=by rfl):G K m (dJ2 K n gs) (.tuple ds) ρ ρ':=⟨h.1,λS B σ H o I v r Q q=>by
 cases r with
 | tup s r=>exact⟨_,_,rfl,C4 aB9 s,by rw[r.length];exact hn,h.2 S B σ H o I _ r _ q⟩⟩
theorem B0 {t u:TS}{R:AE}(h:W K t ρ {R with nx:=λρ'=>W K u ρ' R}):W K (dD5 t u) ρ R:=λS B D σ H o I s=>
 h S B {D with nx:=u D} σ H o I ⟨λρ' σ' H' o' I' w=>w S B D σ' H' o' I' s,s.rt,s.rl,s.bk,s.ct⟩
theorem R8 {R:AE}(h:R.nx ρ):W K cY6 ρ R:=λS B D σ H o I s=>s.nx ρ σ H o I h
theorem cZ6 {g:TG}{R:AE}(h:E K m t ρ d)(hg:G K m g d ρ ρ')(hn:R.nx ρ'):W K (aU8 t g) ρ R:=λS B D σ H o I s=>
 h S B σ H o I _ λv H' s' r=>hg.2 S B σ H' o (I.grow s') v r _ λσ' I'=>s.nx _ σ' H' o I' hn
theorem L4 {i:Nat}{R:AE}(h:E K true t ρ d)(hn:R.nx (ρ.set i (.val d))):W K (aU8 t (W7 i)) ρ R:=cZ6 (ρ' := ρ.set i (.val d)) h D1 hn
theorem U4 {R:AE}(h:E K true t ρ d)(hn:R.rt d):W K (cW9 t) ρ R:=λS B D σ H o I s=>
 h S B σ H o I _ λv H' s' r=>s.rt v d H' (L2.Same.tr I.base s') (r.mono (C6 (L2.Same.rf _) λb z _=>.inl z)) hn
theorem aP9 {R:AE}(h:EF K t ρ ds)(hn:R.rl ds):W K (cW9 t) ρ R:=λS B D σ H o I s=>
 h S B σ H o I _ λp xs H' s' n e r=>s.rl p xs ds H' (L2.Same.tr I.base s') (Q7 I.base n) e (r.mono (C6 (L2.Same.rf _) λb z _=>z.imp .inl id)) hn
theorem bO9 {i:Nat}{R:AE}(h:ρ[i]? = some (.own ds))(hn:R.rl ds):W K (cW9 (L5 i)) ρ R:=λS B D σ H o I s=>by
 obtain ⟨p,hp,a,xs,b,c⟩:=I.own i ds h;exact⟨_,a,s.rl _ xs ds H I.base (I.new i _ h rfl _ (by rw[hp];simp)) b (c.mono (C6 (L2.Same.rf _) λb z _=>z.elim .inl λe=>.inr ⟨i,_,h,rfl,by rw[hp,e];simp⟩)) hn⟩
theorem aE6 {c:TT}{t u:TS}{b:Bool}{R:AE}(h:T K c ρ b)(h1:b=true->W K t ρ R)(h2:b=false->W K u ρ R):W K (cS8 c t u) ρ R:=λS B D σ H o I s=>h S B σ H o I _ λH' s'=>by
 cases b with
 | true=>exact h1 rfl S B D σ H' o (I.grow s') s
 | false=>exact h2 rfl S B D σ H' o (I.grow s') s
theorem W.weak {t:TS}{R R':AE}(h:W K t ρ R)(h1:∀ρ,R.nx ρ->R'.nx ρ)(h2:∀d,R.rt d->R'.rt d)(h3:∀d,R.rl d->R'.rl d)(h4:∀ρ,R.bk ρ->R'.bk ρ)(h5:∀ρ,R.ct ρ->R'.ct ρ):W K t ρ R':=λS B D σ H o I s=>
 h S B D σ H o I ⟨λρ' σ' H' o' I' w=>s.nx ρ' σ' H' o' I' (h1 _ w),λv d H' a b c=>s.rt v d H' a b (h2 _ c),λp xs ds H' a b c e w=>s.rl p xs ds H' a b c e (h3 _ w),λρ' σ' H' o' I' w=>s.bk ρ' σ' H' o' I' (h4 _ w),λρ' σ' H' o' I' w=>s.ct ρ' σ' H' o' I' (h5 _ w)⟩
def d6 (o:Nat->List Addr)(i:Nat)(L:List Addr)(j:Nat):List Addr:=if j=i then L else o j
theorem K1 {o:Nat->List Addr}{i:Nat}{L:List Addr}:d6 o i L i=L:=if_pos rfl
theorem D7 {o:Nat->List Addr}{i j:Nat}{L:List Addr}(h:i≠j):d6 o i L j=o j:=if_neg λz=>h z.symm
def Holds (K:PySem.W.Frag)(Z H:Hp)(v:V)(x:Sl)(L:List Addr):Prop:=
 (∃ds p xs,x=.own ds/\L=[p]/\v=.ref p/\H p=some (.lst xs)/\Reps K Z xs ds)\/∃t,x=.tr t/\L.Nodup/\Dp K Z H v t L
theorem Holds.os {Z H:Hp}{v:V}{x:Sl}{L:List Addr}(h:Holds K Z H v x L):x.os=true:=by
 rcases h with ⟨ds,p,xs,rfl,_⟩ | ⟨t,rfl,_⟩ <;> rfl
def cD7 (ρ:List Sl)(o:Nat->List Addr)(i:Nat)(b:Addr):Prop:=∃y,ρ[i]? = some y/\y.os=true/\b∈o i
theorem Env.put {S:Addr->Prop}{B H H':Hp}{σ:St}{o:Nat->List Addr}{v:V}{x:Sl}{L:List Addr}(I:Env K S B H σ ρ o)(i:Nat)(hi:i<ρ.length)(D:Addr->Prop)(hD:∀b,D b->cD7 ρ o i b)
  (hH:∀b y,H b=some y->¬D b->H' b=some y) (hL:∀b∈L,cD7 ρ o i b\/H b=none) (hx:Holds K (hid (λb=>C3 ρ o S b\/b∈L) H') H' v x L)
  (nb:(∀b,¬D b)\/∀(j:Nat) (d:PyData),ρ[j]?≠some (Sl.bor d)):Env K S B H' (σ.set i (some v)) (ρ.set i x) (d6 o i L):=by
 have hos:=hx.os
 have at_:∀{j:Nat} {y:Sl},i≠j->(ρ.set i x)[j]? = some y->ρ[j]? = some y:=λ{j y} c h=>by rw[Ac9 c]at h;exact h
 have self:(ρ.set i x)[i]? = some x:=List.getElem?_set_self hi
 have sub:∀b,C3 (ρ.set i x) (d6 o i L) S b->C3 ρ o S b\/b∈L:=λb z=>by
  rcases z with z | ⟨j,y,h,hy,e'⟩
  ·exact .inl (.inl z)
  ·by_cases c:i=j
   ·subst c;rw[K1]at e';exact .inr e'
   ·rw[D7 c]at e';exact .inl (.inr ⟨j,y,at_ c h,hy,e'⟩)
 have own_:∀b,cD7 ρ o i b->C3 ρ o S b:=λb ⟨y,h1,h2,h3⟩=>.inr ⟨i,y,h1,h2,h3⟩
 have g:Same (hid (C3 ρ o S) H) (hid (C3 (ρ.set i x) (d6 o i L) S) H'):=λb y q=>by
  obtain ⟨a,q⟩:=hid_some.mp q;refine hid_some.mpr ⟨λz=>?_,hH b y q λz=>a (own_ b (hD b z))⟩
  rcases sub b z with z | z
  ·exact a z
  ·rcases hL b z with z | z
   ·exact a (own_ b z)
   ·rw[z]at q;cases q
 have ht:∀a ys,Rd H a (.tup ys)->Rd H' a (.tup ys):=λa ys r=>by
  have n:¬D a:=λz=>by
   obtain ⟨zs,e⟩:=I.lists a (own_ a (hD a z));rcases r with r | ⟨o,r⟩ <;> rw[e]at r <;> replace r:=Ab4 r
   ·exact HM.nt r
   ·exact HM.nf r
  rcases r with r | ⟨o,r⟩
  ·exact .inl (hH _ _ r n)
  ·exact .inr ⟨o,hH _ _ r n⟩
 have far:∀{j:Nat} {y:Sl},i≠j->ρ[j]? = some y->y.os=true->∀b∈o j,¬D b:=λ{j y} c h hy b hb z=>by
  obtain ⟨w,h1,h2,h3⟩:=hD b z;exact c (I.inj i j w y h1 h h2 hy b h3 hb)
 have kept:∀{j:Nat} {y:Sl},i≠j->ρ[j]? = some y->y.os=true->∀b∈o j,H' b=H b:=λ{j y} c h hy b hb=>by
  obtain ⟨zs,e⟩:=I.lists b (.inr ⟨j,y,h,hy,hb⟩);rw[e];exact hH _ _ e (far c h hy b hb)
 have notL:∀{j:Nat} {y:Sl},i≠j->ρ[j]? = some y->y.os=true->∀b∈o j,b∉L:=λ{j y} c h hy b hb z=>by
  rcases hL b z with ⟨w,h1,h2,h3⟩ | z
  ·exact c (I.inj i j w y h1 h h2 hy b h3 hb)
  ·obtain ⟨zs,e⟩:=I.lists b (.inr ⟨j,y,h,hy,hb⟩);rw[z]at e;cases e
 have base:Same B H':=λb y q=>hH b y (I.base b y q) λz=>by
  obtain ⟨w,h1,h2,h3⟩:=hD b z;rw[I.new i w h1 h2 b h3]at q;cases q
 refine⟨by simp[I.len],base,I.sl,λj y h hy b hb=>?_,λj k y z h h' hy hz b hb hb'=>?_,λj es h=>?_,λj d' h=>?_,λj d' h=>?_,λj t h=>?_⟩
 ·by_cases c:i=j
  ·subst c;rw[K1]at hb;rcases hL b hb with ⟨w,h1,h2,h3⟩ | z
   ·exact I.new i w h1 h2 b h3
   ·exact Q7 I.base z
  ·rw[D7 c]at hb;exact I.new j y (at_ c h) hy b hb
 ·by_cases c:i=j
  ·subst c;by_cases c':i=k
   ·exact c'
   ·rw[K1]at hb;rw[D7 c']at hb';exact absurd hb (notL c' (at_ c' h') hz b hb')
  ·by_cases c':i=k
   ·subst c';rw[K1]at hb';rw[D7 c]at hb;exact absurd hb' (notL c (at_ c h) hy b hb)
   ·rw[D7 c]at hb;rw[D7 c']at hb';exact I.inj j k y z (at_ c h) (at_ c' h') hy hz b hb hb'
 ·by_cases c:i=j
  ·subst c;rw[self]at h;cases h;rw[K1];rcases hx with ⟨ds,p,xs,e,h2,h3,h4,h5⟩ | ⟨t,e,_⟩
   ·cases e
    exact⟨p,h2,by rw[List.getElem?_set_self (by rw[I.len];exact hi),h3],xs,h4,h5.mono (C6 (L2.Same.rf _) λb z _=>sub b z)⟩
   ·cases e
  ·rw[D7 c];obtain ⟨p,o',a,ys,b,r'⟩:=I.own j es (at_ c h);exact⟨p,o',by rw[Ac9 c];exact a,ys,by rw[kept c (at_ c h) rfl p (by rw[o'];simp)];exact b,r'.mono g⟩
 ·by_cases c:i=j
  ·subst c;rw[self]at h;cases h;cases hos
  ·obtain ⟨u,a,b⟩:=I.val j d' (at_ c h);exact⟨u,by rw[Ac9 c];exact a,b.mono g⟩
 ·by_cases c:i=j
  ·subst c;rw[self]at h;cases h;cases hos
  ·rcases nb with nb | nb
   ·obtain ⟨u,a,b⟩:=I.bor j d' (at_ c h);exact⟨u,by rw[Ac9 c];exact a,b.mono λb y q=>hH b y q (nb b)⟩
   ·exact absurd (at_ c h) (nb j d')
 ·by_cases c:i=j
  ·subst c;rw[self]at h;cases h;rw[K1];rcases hx with ⟨ds,p,xs,e,_⟩ | ⟨t',e,h2,h3⟩
   ·cases e
   ·cases e
    exact⟨h2,v,List.getElem?_set_self (by rw[I.len];exact hi),h3.mono (C6 (L2.Same.rf _) λb z _=>sub b z) (L2.Same.rf _)⟩
  ·rw[D7 c];obtain ⟨n,u,a,b⟩:=I.tr j t (at_ c h);exact⟨n,u,by rw[Ac9 c];exact a,aD6 g ht t (kept c (at_ c h) rfl) b⟩
theorem Env.setF {S:Addr->Prop}{B H H':Hp}{σ:St}{o:Nat->List Addr}{p:Addr}{xs:List V}(I:Env K S B H σ ρ o)(i:Nat)(s:Same H H')(n:H p=none)(e:H' p=some (.lst xs))(r:Reps K (hid (λb=>C3 ρ o S b\/b=p) H') xs ds)(hi:i<ρ.length) :
  Env K S B H' (σ.set i (some (.ref p))) (ρ.set i (.own ds)) (d6 o i [p]):=
 I.put i hi (λ_=>False) (λ_ z=>z.elim) (λb y q _=>s b y q) (λb z=>.inr (by rw[Ad6.mp z];exact n)) (.inl ⟨ds,p,xs,rfl,rfl,rfl,e,r.mono (C6 (L2.Same.rf _) λb z _=>z.imp id λz=>Ad6.mp z)⟩) (.inl λ_ z=>z)
theorem aS7 {α:Type}{l:List α}{i:Nat}{a:α}(h:l[i]? = some a):l.set i a=l:=by
 obtain ⟨h1,h2⟩:=Ab0.mp h;rw[<- h2];exact List.set_getElem_self h1
theorem M2 {i:Nat}{R:AE}(h:EF K t ρ ds)(hn:R.nx (ρ.set i (.own ds)))(hi:i<ρ.length:=by first | decide | (simp;done) | (simp[LV.sl0];done)):W K (aU8 t (W7 i)) ρ R:=λS B D σ H o I s=>
 h S B σ H o I _ λp xs H' s' n e r=>s.nx _ _ H' _ (I.setF i s' n e r hi) hn
theorem Env.upd {S:Addr->Prop}{B H:Hp}{σ:St}{o:Nat->List Addr}{i:Nat}{p:Addr}{xs:List V}(I:Env K S B H σ ρ o)(h:ρ[i]? = some (.own ds))(hp:o i=[p])(r:Reps K (hid (C3 ρ o S) H) xs es)(nb:∀(j:Nat) (d:PyData),ρ[j]?≠some (Sl.bor d)) :
  Env K S B (upd H p (.lst xs)) σ (ρ.set i (.own es)) (d6 o i [p]):=by
 have hi:i<ρ.length:=(Ab0.mp h).1
 obtain ⟨p',hp',a,ys,b,c⟩:=I.own i ds h;rw[hp]at hp';cases hp';have oi:cD7 ρ o i p:=⟨_,h,rfl,by rw[hp];simp⟩
 have os:C3 ρ o S p:=.inr ⟨i,_,h,rfl,by rw[hp];simp⟩
 have:=I.put (H':=L2.upd H p (.lst xs)) (v:=.ref p) (x:=.own es) (L:=[p]) i hi (λb=>b=p) (λb z=>by rw[z];exact oi) (λb y q z=>by rw[B2 z];exact q) (λb z=>.inl (by rw[Ad6.mp z];exact oi))
  (.inl ⟨es,p,xs,rfl,rfl,rfl,B7,r.mono λb y q=>by
   obtain ⟨q1,q2⟩:=hid_some.mp q;refine hid_some.mpr ⟨λz=>q1 (z.elim id λz=>by rw[Ad6.mp z];exact os),?_⟩
   rw[B2 (λz=>q1 (by rw[z];exact os))];exact q2⟩) (.inr nb)
 rw[aS7 a]at this;exact this
def S6:List Sl->Bool
 | []=>true
 | .bor _::_=>false
 | _::r=>S6 r
theorem K8:∀{ρ:List Sl},S6 ρ=true->∀(j:Nat) (d:PyData),ρ[j]?≠some (Sl.bor d)
 | [],_,j,d=>by simp
 | .bor _::_,h,_,_=>by cases h
 | .no::r,h,0,d=>by simp
 | .no::r,h,j+1,d=>by simpa using K8 (ρ:=r) h j d
 | .val _::r,h,0,d=>by simp
 | .val _::r,h,j+1,d=>by simpa using K8 (ρ:=r) h j d
 | .own _::r,h,0,d=>by simp
 | .own _::r,h,j+1,d=>by simpa using K8 (ρ:=r) h j d
 | .tr _::r,h,0,d=>by simp
 | .tr _::r,h,j+1,d=>by simpa using K8 (ρ:=r) h j d
theorem O0 {i:Nat}{R:AE}(hi:ρ[i]? = some (.own ds))(h:E K true t ρ d)(hl:ds.length<sizeLine)(hn:R.nx (ρ.set i (.own (ds++[d]))))(nb:S6 ρ=true:=by rfl) :
  W K (aN0 (tBM K "list" aI4 (L5 i) (E9 t W1))) ρ R:=λS B D σ H o I s=>by
 obtain ⟨p,hp,a,xs,b,c⟩:=I.own i ds hi;refine⟨_,a,.inl ⟨rfl,xs,SqL.of b⟩,?_⟩;refine h S B σ H o I _ λv H' s' r=>?_
 refine⟨_,xs,v,rfl,rfl,s' _ _ b,by rw[c.length];exact hl,?_⟩
 exact s.nx _ σ _ _ ((I.grow s').upd hi hp ((c.mono (K6 s')).append (.cons r .nil)) (K8 nb)) hn
theorem bA1 {S:Addr->Prop}{H:Hp}{o:Nat->List Addr}{i:Nat}{p:Addr}{xs:List V}(hi:ρ[i]? = some (.own ds))(hp:o i=[p]):Same (hid (C3 ρ o S) H) (hid (C3 (ρ.set i (.own es)) (d6 o i [p]) S) (L2.upd H p (.lst xs))):=λb' x q=>by
 obtain ⟨q1,q2⟩:=hid_some.mp q;refine hid_some.mpr ⟨λz=>q1 ?_,?_⟩
 ·rcases z with z | ⟨k,y,h',hy,e'⟩
  ·exact .inl z
  ·by_cases ck:i=k
   ·subst ck;rw[K1,<- hp]at e';exact .inr ⟨i,_,hi,rfl,e'⟩
   ·rw[Ac9 ck]at h';rw[D7 ck]at e';exact .inr ⟨k,y,h',hy,e'⟩
 ·rw[B2 (λz=>q1 (.inr ⟨i,_,hi,rfl,by rw[hp,z];simp⟩))];exact q2
theorem dI2 {i j:Nat}{R:AE}(hi:ρ[i]? = some (.own (ds++[d])))(hn:R.nx ((ρ.set i (.own ds)).set j (.val d)))(nb:S6 ρ=true:=by rfl) :
  W K (aU8 (dC9 K "list" dG6 (L5 i)) (W7 j)) ρ R:=λS B D σ H o I s=>by
 obtain ⟨p,hp,a,xs,b,c⟩:=I.own i _ hi;have hl:=c.length;obtain ⟨y,h1,h2⟩:=c.get' (i:=ds.length) (d:=d) (by simp)
 refine⟨_,a,.inl ⟨rfl,xs,SqL.of b⟩,_,xs,y,rfl,rfl,b,?_,?_⟩
 ·rw[hl];simpa using h1
 ·have c':=c.dropLast
  rw[List.dropLast_concat]at c';have I':=I.upd hi hp c' (K8 nb);refine s.nx _ _ _ _ (Env.set (m:=true) I' j (h2.mono ?_)) hn;exact bA1 hi hp
theorem R6 {wi:TI}{g:TG}{tb:TS}{R:AE}(hi:I K true wi ρ ds)(P:Nat->List Sl->Prop)(h0:P 0 ρ)
  (turn:∀i d ρ',ds[i]? = some d->P i ρ'->∃ρ'',G K true g d ρ' ρ''/\W K tb ρ'' {R with nx:=P (i+1),ct:=P (i+1),bk:=R.nx}) (hn:∀ρ',P ds.length ρ'->R.nx ρ'):W K (dE7 wi g tb) ρ R:=λS B D σ H o I0 s=>
 hi S B σ H o I0 _ λJ H1 s1 wk=>by
  obtain ⟨I1,sb⟩:=(I0.grow s1).rebase;generalize hB:hid (bA2 ρ o) H1=B' at I1 sb;have sz:Same (hid (C3 ρ o S) H1) B':=λb x q=>by
   obtain ⟨q1,q2⟩:=hid_some.mp q;rw[<- hB];exact hid_some.mpr ⟨λz=>q1 (.inr z),q2⟩
  refine⟨λi m σ' H'=>i<=ds.length/\m=ds.length-i/\∃ρ' o',Env K S B' H' σ' ρ' o'/\P i ρ',⟨_,Nat.zero_le _,rfl,ρ,o,I1,h0⟩,?_⟩
  rintro i k σ' H' ⟨hl,rfl,ρ',o',I',p⟩;have zH:=L2.Same.tr sz I'.base;by_cases c:i=ds.length
  ·subst c;exact .inl ⟨wk.stop _ _ zH (Aa7 _),s.nx ρ' σ' H' o' ⟨I'.len,L2.Same.tr sb I'.base,λb z=>(I0.sl b z),λi ds z hz b hb=>Q7 sb (I'.new i ds z hz b hb),I'.inj,I'.own,I'.val,I'.bor,I'.tr⟩ (hn ρ' p)⟩
  ·have hlt:i<ds.length:=by omega
   have hd:ds[i]? = some ds[i]:=Aa2 hlt
   obtain ⟨ρ'',hg,hb⟩:=turn i ds[i] ρ' hd p;refine .inr ⟨wk.go _ _ _ zH hd,λσ2 H2=>∃ρ2 o2,Env K S B' H2 σ2 ρ2 o2/\P (i+1) ρ2,λσ2 H2 ⟨ρ2,o2,I2,p2⟩=>⟨_,by omega,hlt,rfl,ρ2,o2,I2,p2⟩,λx H'' hy=>?_⟩
   obtain ⟨s2,hx⟩:=wk.yld _ _ _ _ _ zH hd hy;have rx:=hx (C3 ρ' o' S) λb z=>by
    obtain ⟨ys,y⟩:=I'.lists b z;refine⟨?_,by rw[y];simp⟩
    rcases z with z | ⟨j,es,h',hy,e'⟩
    ·unfold vw hid;exact if_pos (.inl z)
    ·exact Q7 sz (I'.new j es h' hy b e')
   refine hg.2 S B' σ' H'' o' (I'.grow s2) x rx _ λσ2 I2=>hb S B' _ σ2 H'' o' I2 ⟨λρ3 σ3 H3 o3 I3 w=>⟨ρ3,o3,I3,w⟩,λv d H3 a b w=>s.rt v d H3 (L2.Same.tr sb a) b w,λp xs es H3 a b c e w=>s.rl p xs es H3 (L2.Same.tr sb a) (Q7 sb b) c e w,
    λρ3 σ3 H3 o3 I3 w=>s.nx ρ3 σ3 H3 o3 ⟨I3.len,L2.Same.tr sb I3.base,λb z=>(I0.sl b z),λi ds z hz b hb=>Q7 sb (I3.new i ds z hz b hb),I3.inj,I3.own,I3.val,I3.bor,I3.tr⟩ w,λρ3 σ3 H3 o3 I3 w=>⟨ρ3,o3,I3,w⟩⟩
theorem bD6 {c:TT}{tb:TS}{R:AE}(P:Nat->List Sl->Prop)(h0:∃k,P k ρ)
  (turn:∀k ρ',P k ρ'->∃b,T K c ρ' b/\if b=true then W K tb ρ' {R with nx:=λρ2=>∃k',k'<k/\P k' ρ2,ct:=λρ2=>∃k',k'<k/\P k' ρ2,bk:=R.nx} else R.nx ρ'):W K (cH4 c tb) ρ R:=λS B D σ H o I0 s=>by
 obtain ⟨k0,p0⟩:=h0;refine⟨λk σ' H'=>∃ρ' o',Env K S B H' σ' ρ' o'/\P k ρ',⟨k0,ρ,o,I0,p0⟩,?_⟩
 rintro k σ' H' ⟨ρ',o',I',p⟩;obtain ⟨b,hc,hb⟩:=turn k ρ' p;refine hc S B σ' H' o' I' _ λH1 s1=>?_
 cases b with
 | true=>
  rw[if_pos rfl]at hb ⊢;refine⟨λσ2 H2=>∃k',k'<k/\∃ρ2 o2,Env K S B H2 σ2 ρ2 o2/\P k' ρ2,λσ2 H2 ⟨k',hk,z⟩=>⟨k',hk,z⟩,?_⟩
  exact hb S B _ σ' H1 o' (I'.grow s1) ⟨λρ3 σ3 H3 o3 I3 ⟨k',hk,w⟩=>⟨k',hk,ρ3,o3,I3,w⟩,s.rt,s.rl,s.nx,λρ3 σ3 H3 o3 I3 ⟨k',hk,w⟩=>⟨k',hk,ρ3,o3,I3,w⟩⟩
 | false=>
  rw[if_neg Bool.false_ne_true]at hb ⊢;exact s.nx ρ' σ' H1 o' (I'.grow s1) hb
end
section
variable {K:PySem.W.Frag}{ρ ρ' ρ1:List Sl}{m m':Bool}{t ta tb tc:TE}{d d':PyData}{ds es:List PyData}
def cap:Sl->Sl
 | .own ds=>.bor (.list ds)
 | .tr t=>.bor t.data
 | x=>x
def slC (ρ:List Sl)(n:Nat)(is:List Nat):List Sl:=List.replicate n .no++is.map λi=>cap ((ρ[i]?).getD .no)
theorem bC3 {n:Nat}{is:List Nat}{j:Nat}{x:Sl}(h:(slC ρ n is)[j]? = some x)(hx:x≠.no):n<=j/\∃i y,is[j-n]? = some i/\ρ[i]? = some y/\cap y=x:=by
 unfold slC at h;by_cases c:j<n
 ·rw[List.getElem?_append_left (by simpa using c),List.getElem?_replicate,if_pos c]at h
  exact absurd (Ab4 h).symm hx
 ·rw[List.getElem?_append_right (by simpa using c),List.length_replicate,Aa9]at h
  refine⟨by omega,?_⟩
  cases e:is[j-n]? with
  | none=>rw[e]at h;cases h
  | some i=>
   rw[e]at h;have h:cap ((ρ[i]?).getD .no)=x:=Ab4 h;cases e':ρ[i]? with
   | none=>rw[e']at h;exact absurd h.symm hx
   | some y=>rw[e']at h;exact⟨i,y,rfl,e',h⟩
theorem cW4 {n:Nat}{is:List Nat}{j:Nat}{x:Sl}(h:(slC ρ n is)[j]? = some x):x.os=false:=by
 cases x with
 | own ds=>
  obtain ⟨_,i,y,_,_,e⟩:=bC3 h (by simp)
  cases y <;> simp[cap]at e
 | tr t=>
  obtain ⟨_,i,y,_,_,e⟩:=bC3 h (by simp)
  cases y <;> simp[cap]at e
 | _=>rfl
theorem aK3 {n:Nat}{is:List Nat}{j:Nat}{x:Sl}{P:Prop}(h:(slC ρ n is)[j]? = some x)(hx:x.os=true):P:=by rw[cW4 h]at hx;cases hx
theorem Env.comp {S:Addr->Prop}{B H:Hp}{σ:St}{o:Nat->List Addr}(I:Env K S B H σ ρ o)(n:Nat)(is:List Nat):Env K (C3 ρ o S) H H (stC n is σ) (slC ρ n is) o:=by
 have st:∀(j:Nat) (i:Nat) v,n<=j->is[j-n]? = some i->σ[i]? = some v->(stC n is σ)[j]? = some v:=λj i v hj hi hv=>by
  unfold stC;rw[List.getElem?_append_right (by simpa using hj),List.length_replicate,Aa9,hi]
  simp[hv]
 have g:Same (hid (C3 ρ o S) H) (hid (C3 (slC ρ n is) o (C3 ρ o S)) H):=C6 (L2.Same.rf _) λb z _=>by
  rcases z with z | ⟨j,es,h,hy,_⟩
  ·exact z
  ·exact aK3 h hy
 refine⟨by simp[stC,slC],L2.Same.rf _,I.lists,λj es h hx=>aK3 h hx,λj k es fs h _ hx=>aK3 h hx,λj es h=>aK3 h rfl,λj d h=>?_,λj d h=>?_,λj t h=>aK3 h rfl⟩
 ·obtain ⟨hj,i,y,hi,hy,e⟩:=bC3 h (by simp)
  cases y with
  | val d'=>
   cases e
   obtain ⟨v,a,b⟩:=I.val i d hy;exact⟨v,st j i _ hj hi a,b.mono g⟩
  | _=>simp[cap]at e
 ·obtain ⟨hj,i,y,hi,hy,e⟩:=bC3 h (by simp)
  cases y with
  | bor d'=>
   cases e
   obtain ⟨v,a,b⟩:=I.bor i d hy;exact⟨v,st j i _ hj hi a,b⟩
  | own es=>
   cases e
   obtain ⟨p,hp,a,xs,b,c⟩:=I.own i es hy;exact⟨_,st j i _ hj hi a,.lst (SqL.of b) (c.mono T6)⟩
  | tr t=>
   cases e
   obtain ⟨_,v,a,b⟩:=I.tr i t hy;exact⟨_,st j i _ hj hi a,bS1 T6 (λ_ _ z=>z) T6 t (λ_ _=>rfl) b⟩
  | _=>simp[cap]at e
def bO0 (K:PySem.W.Frag)(m:Bool)(ρ:List Sl)(g:TG)(tt:TT)(te:TE)(d:PyData)(r:Option PyData):Prop:=
 ∃ρ',G K m g d ρ ρ'/\match r with
  | none=>T K tt ρ' false
  | some y=>T K tt ρ' true/\E K true te ρ' y
theorem X0 {wi:TI}{n:Nat}{is:List Nat}{g:TG}{tt:TT}{te:TE}(f:PyData->Option PyData)(hi:I K m wi ρ ds)(hl:ds.length<sizeLine)(body:∀d∈ds,bO0 K m (slC ρ n is) g tt te d (f d)):EF K (bW1 wi n is g tt te) ρ (ds.filterMap f):=λS B σ H o I0 Q q=>
 hi S B σ H o I0 _ λJ H1 s1 wk=>by
  have IC:=(I0.grow s1).comp n is
  generalize hS:C3 ρ o S=S' at IC wk q;have lists:∀b,S' b->∃u:HM,H1 b=some u.ho:=by rw[<- hS];exact(I0.grow s1).lists
  refine⟨λi k ys H2=>i<=ds.length/\k=ds.length-i/\Same H1 H2/\ys.length<=i/\Reps K (hid S' H2) ys ((ds.take i).filterMap f),⟨_,Nat.zero_le _,rfl,L2.Same.rf _,Aa7 _,by simpa using Reps.nil⟩,?_⟩
  rintro i k ys H2 ⟨hil,rfl,s2,hy,r⟩;refine⟨by omega,?_⟩
  have zH:Same (vw m S' H1) H2:=L2.Same.tr aB9 s2
  by_cases c:i=ds.length
  ·subst c;refine .inl ⟨wk.stop _ _ zH (Aa7 _),λD hD=>?_⟩
   rw[List.take_length]at r;exact q D ys _ (L2.Same.tr (L2.Same.tr s1 s2) (D3 hD)) (Q7 (L2.Same.tr s1 s2) hD) B7 (aZ0 (λb z=>by obtain ⟨xs,e⟩:=lists b z;exact⟨xs,s2 _ _ e⟩) hD r)
  ·have hlt:i<ds.length:=by omega
   have hd:ds[i]? = some ds[i]:=Aa2 hlt
   have take:(ds.take (i+1)).filterMap f=(ds.take i).filterMap f++(f ds[i]).toList:=by
    rw[List.take_succ_eq_append_getElem hlt,List.filterMap_append];cases hf:f ds[i] <;> simp[List.filterMap_cons,hf]
   obtain ⟨ρ',hg,hb⟩:=body ds[i] (List.getElem_mem hlt);refine .inr ⟨wk.go _ _ _ zH hd,λx H3 hx=>?_⟩
   obtain ⟨s3,hr⟩:=wk.yld _ _ _ _ _ zH hd hx;have I3:Env K S' H1 H3 (stC n is σ) (slC ρ n is) o:=IC.grow (L2.Same.tr s2 s3);have eqS:∀b,C3 (slC ρ n is) o S' b->S' b:=λb z=>by
    rcases z with z | ⟨j,es,h,hy,_⟩
    ·exact z
    ·exact aK3 h hy
   have rx:Rep K (vw m (C3 (slC ρ n is) o S') H3) x ds[i]:=by
    cases m with
    | false=>
     have:=hr (λ_=>False) λb z=>z.elim
     rw[bG0]at this;exact this
    | true=>
     refine hr _ λb z=>?_
     have z':=eqS b z
     obtain ⟨xs,e⟩:=lists b z';exact⟨by unfold vw hid;exact if_pos z',by rw[s2 _ _ e];simp⟩
   refine hg.2 S' H1 _ H3 o I3 x rx _ λσ4 I4=>?_
   cases hf:f ds[i] with
   | none=>
    rw[hf]at hb take;refine hb S' H1 σ4 H3 o I4 _ λH5 s5=>?_
    rw[if_neg Bool.false_ne_true];refine⟨_,by omega,hlt,rfl,L2.Same.tr s2 (L2.Same.tr s3 s5),by omega,?_⟩
    rw[take];simpa using r.mono (K6 (L2.Same.tr s3 s5))
   | some y=>
    rw[hf]at hb take;refine hb.1 S' H1 σ4 H3 o I4 _ λH5 s5=>?_
    rw[if_pos rfl];refine hb.2 S' H1 σ4 H5 o (I4.grow s5) _ λv H6 s6 rv=>?_
    have s36:=L2.Same.tr s3 (L2.Same.tr s5 s6)
    refine⟨_,by omega,hlt,rfl,L2.Same.tr s2 s36,by simp;omega,?_⟩
    rw[take];refine(r.mono (K6 s36)).append (.cons (rv.mono (C6 (L2.Same.rf _) λb z _=>.inl z)) .nil)
theorem aX5:T K bS2 ρ true:=λS B σ H o I Q q=>q H (L2.Same.rf _)
def sl0 (n:Nat)(ds:List PyData):List Sl:=ds.map .val++List.replicate (n-ds.length) .no
theorem env0 {S:Addr->Prop}{H:Hp}{N:List Str}{vs:List V}(hS:∀b,S b->∃u:HM,H b=some u.ho)(r:Reps K (hid S H) vs ds):Env K S H H (L2.U1 N vs) (sl0 N.length ds) (λ_=>[]):=by
 have nov:∀(j:Nat) (x:Sl),(sl0 N.length ds)[j]? = some x->x=.no\/∃d,ds[j]? = some d/\x=.val d:=λj x h=>by
  unfold sl0 at h;by_cases c:j<ds.length
  ·rw[List.getElem?_append_left (by simpa using c),Aa9,Aa2 c]at h
   exact .inr ⟨_,Aa2 c,(Ab4 h).symm⟩
  ·rw[List.getElem?_append_right (by simpa using c),List.getElem?_replicate]at h
   split at h
   ·exact .inl (Ab4 h).symm
   ·cases h
 have no1:∀{P:Prop} (j:Nat) (x:Sl),(sl0 N.length ds)[j]? = some x->x.os=true->P:=λj x h hx=>by
  rcases nov j _ h with e | ⟨d,_,e⟩ <;> rw[e]at hx <;> cases hx
 have g:Same (hid S H) (hid (C3 (sl0 N.length ds) (λ_=>[]) S) H):=C6 (L2.Same.rf _) λb z _=>by
  rcases z with z | ⟨j,es,h,hy,_⟩
  ·exact z
  ·exact no1 j es h hy
 refine⟨?_,L2.Same.rf _,hS,λj es h hx=>no1 j es h hx,λj k es fs h _ hx=>no1 j es h hx,λj es h=>no1 j _ h rfl,λj d h=>?_,λj d h=>?_,λj es h=>no1 j _ h rfl⟩
 ·unfold L2.U1 sl0;simp[r.length]
 ·rcases nov j _ h with e | ⟨d',h',e⟩
  ·cases e
  ·cases e
   obtain ⟨v,a,b⟩:=r.get' h';refine⟨v,?_,b.mono g⟩;unfold L2.U1
   have:=(Ab0.mp a).1
   rw[List.getElem?_append_left (by simpa using this),Aa9,a];rfl
 ·rcases nov j _ h with e | ⟨d',_,e⟩ <;> cases e
theorem S3 {t:TS}{N:List Str}{vs:List V}{S:Addr->Prop}{H:Hp}{Q:VK}(hS:∀b,S b->∃u:HM,H b=some u.ho)(r:Reps K (hid S H) vs ds)(w:W K t (sl0 N.length ds) {nx:=λ_=>d=.none,rt:=λe=>e=d})
  (k:∀v H',Same H H'->Rep K (hid S H') v d->Q v H'):t {nx:=λ_ H'=>Q .non H',rt:=Q} (L2.U1 N vs) H:=
 w S H _ _ H _ (env0 hS r) ⟨λρ' σ' H' o' I' z=>k _ H' I'.base (by rw[z];exact .non),λv e H' s r' z=>k v H' s (by rw[<- z];exact r'),λ_ _ _ _ _ _ _ _ z=>z.elim,λ_ _ _ _ _ z=>z.elim,λ_ _ _ _ _ z=>z.elim⟩
theorem aF7 {t:TS}{N:List Str}{vs:List V}{S:Addr->Prop}{H:Hp}{Q:VK}(hS:∀b,S b->∃u:HM,H b=some u.ho)(r:Reps K (hid S H) vs ds)(w:W K t (sl0 N.length ds) {nx:=λ_=>False,rl:=λe=>e=es})
  (k:∀p xs H',Same H H'->H p=none->H' p=some (.lst xs)->Reps K (hid (λb=>S b\/b=p) H') xs es->Q (.ref p) H'):t {nx:=λ_ H'=>Q .non H',rt:=Q} (L2.U1 N vs) H:=
 w S H _ _ H _ (env0 hS r) ⟨λρ' σ' H' o' I' z=>z.elim,λv e H' s r' z=>z.elim,λp xs es' H' s n e r' z=>k p xs H' s n e (by rw[<- z];exact r'),λ_ _ _ _ _ z=>z.elim,λ_ _ _ _ _ z=>z.elim⟩
end
end LV
namespace L2
open PySem PySem.Spec PyProof.Rows
section
variable {X:Cx}
def CMulB (i j:Int):Prop:=i.natAbs<2^512/\j.natAbs<2^512
theorem bV6 {k:Int}(h:k.natAbs<2^512):Builtin.Int.intBits k<=2^20:=by
 unfold Builtin.Int.intBits;split
 ·exact Nat.zero_le _
 ·have:k.natAbs.log2<512:=by
   rcases Nat.eq_zero_or_pos k.natAbs with h0 | hp
   ·rw[h0];decide
   ·exact(Nat.log2_lt (Nat.ne_of_gt hp)).mpr h
  omega
theorem CMulB.ok {i j:Int}(h:CMulB i j):IntMulOk i j:=.of_bits (bV6 h.1) (bV6 h.2)
theorem aJ7:OpR X (binaryOp .Mult) (rI CMulB λi j=>.int (i*j)):=opI λ_ _ _ _ _ _ _ hc q=>mul_int q hc.ok
def bL5:List String:=["int", "bool", "str", "list", "tuple"]
def dD3 (K:PySem.W.Frag)(H:Hp)(T:String):V->Bool->Prop
 | .int _,b=>b=(T == "int")
 | .bl _,b=>b=(T == "int" || T == "bool")
 | .str _,b=>b=(T == "str")
 | .non,b=>b=false
 | .ref p,b=>(∃xs,SqL K H p xs/\b=(T == "list"))\/∃xs,SqT K H p xs/\b=(T == "tuple")
 | _,_=>False
theorem K4 {T:String}(h:T∈bL5):typeOf (.type T)=pure (.type "type"):=by
 simp only[bL5,Aa1,Ac2,or_false]at h;rcases h with rfl | rfl | rfl | rfl | rfl
 ·exact meta_int
 ·exact meta_bool
 ·exact meta_str
 ·exact meta_list
 ·exact meta_tuple
theorem aM3 {x:Value}{Tx T:String}{s:Shared}{A:Around}{P:Program}{w:World}{E:Value->Shared->Prop}{Q:Value->Shared->Prop}(h:T∈bL5)(hx:s.TypeIs x Tx)(hs:isSubtype (.type Tx) (.type T)=pure true)(q:Q (.bool true) s) :
  wpAny (model P w) A (call (.builtin "isinstance") [x,.type T]) Q E s:=call_isinstance (isinstance_true (K4 h) hs) ⟨hx,q⟩
theorem cK7:W4 X (.builtin "isinstance") (λxs H Q=>∃x T b,xs=[x,.ty T]/\T∈bL5/\dD3 X.K H T x b/\Q (.bl b) H):=by
 intro pins s σ H xs us Q I r h;obtain ⟨x,T,b,rfl,hT,hv,q⟩:=h;cases r with
 | cons r1 r2=>
  cases r2 with
  | cons r3 r4=>
   cases r4;cases r3
   have ft:EP X pins σ Q (.bool b) s:=⟨.bl b,H,I,rfl,q⟩
   have ff:EP X pins σ Q (.bool b) {s with toks:=s.toks+1}:=⟨.bl b,H,I.tok _,rfl,q⟩
   have hT':=hT
   simp only[bL5,Aa1,Ac2,or_false]at hT';cases x with
   | int i=>
    obtain ⟨t,rfl⟩:=r1;cases hv;rcases hT' with rfl | rfl | rfl | rfl | rfl
    ·exact aM3 hT (typeIs_int _ _ _) (by rw[isSubtype_type];kernel_rfl) ft
    all_goals exact call_isinstance (isinstance_false_int (by decide) (K4 hT) (by rw[isSubtype_type];kernel_rfl)) ff
   | bl k=>
    cases r1
    cases hv
    rcases hT' with rfl | rfl | rfl | rfl | rfl
    ·exact aM3 hT (PySem.typeIs_bool _ _) (by rw[isSubtype_type];kernel_rfl) ft
    ·exact aM3 hT (PySem.typeIs_bool _ _) (by rw[isSubtype_type];kernel_rfl) ft
    all_goals exact call_isinstance (isinstance_false_bool (by decide) (K4 hT) (by rw[isSubtype_type];kernel_rfl)) ff
   | str z=>
    obtain ⟨t,rfl⟩:=r1;cases hv;rcases hT' with rfl | rfl | rfl | rfl | rfl
    ·exact call_isinstance (isinstance_false_str (by decide) (K4 hT) (by rw[isSubtype_type];kernel_rfl)) ff
    ·exact call_isinstance (isinstance_false_str (by decide) (K4 hT) (by rw[isSubtype_type];kernel_rfl)) ff
    ·exact aM3 hT (typeIs_str _ _ _) (by rw[isSubtype_type];kernel_rfl) ft
    all_goals exact call_isinstance (isinstance_false_str (by decide) (K4 hT) (by rw[isSubtype_type];kernel_rfl)) ff
   | non=>
    cases r1
    cases hv
    rcases hT' with rfl | rfl | rfl | rfl | rfl
    all_goals exact call_isinstance (isinstance_false_none (by decide) (K4 hT) (by rw[isSubtype_type];kernel_rfl)) ff
   | ref p=>
    cases r1
    rcases hv with ⟨ys,hq,rfl⟩ | ⟨ys,hq,rfl⟩
    ·obtain ⟨its,rv,⟨o,n,e,c,_,_⟩,_⟩:=I.list hq;rcases hT' with rfl | rfl | rfl | rfl | rfl
     ·exact call_isinstance (isinstance_false_list (by decide) (K4 hT) (by rw[isSubtype_type];kernel_rfl)) ⟨⟨o,e,c⟩,ff⟩
     ·exact call_isinstance (isinstance_false_list (by decide) (K4 hT) (by rw[isSubtype_type];kernel_rfl)) ⟨⟨o,e,c⟩,ff⟩
     ·exact call_isinstance (isinstance_false_list (by decide) (K4 hT) (by rw[isSubtype_type];kernel_rfl)) ⟨⟨o,e,c⟩,ff⟩
     ·exact aM3 hT (⟨o,e,c⟩:s.TypeIs (.ref p) _) (by rw[isSubtype_type];kernel_rfl) ft
     ·exact call_isinstance (isinstance_false_list (by decide) (K4 hT) (by rw[isSubtype_type];kernel_rfl)) ⟨⟨o,e,c⟩,ff⟩
    ·obtain ⟨its,rv,⟨o,e,c,n,d⟩,_⟩:=I.tuple hq;rcases hT' with rfl | rfl | rfl | rfl | rfl
     ·exact call_isinstance (isinstance_false_tuple (by decide) (K4 hT) (by rw[isSubtype_type];kernel_rfl)) ⟨⟨o,e,c⟩,ff⟩
     ·exact call_isinstance (isinstance_false_tuple (by decide) (K4 hT) (by rw[isSubtype_type];kernel_rfl)) ⟨⟨o,e,c⟩,ff⟩
     ·exact call_isinstance (isinstance_false_tuple (by decide) (K4 hT) (by rw[isSubtype_type];kernel_rfl)) ⟨⟨o,e,c⟩,ff⟩
     ·exact call_isinstance (isinstance_false_tuple (by decide) (K4 hT) (by rw[isSubtype_type];kernel_rfl)) ⟨⟨o,e,c⟩,ff⟩
     ·exact aM3 hT (⟨o,e,c⟩:s.TypeIs (.ref p) _) (by rw[isSubtype_type];kernel_rfl) ft
   | _=>exact hv.elim
end
theorem aM8 {X:Cx}{x:Str}{T:String}{pos:Pos}(hg:Gl X x)(hm:X.mg x=none)(hv:bootBuiltins x=some (.type T))(hn:x≠"__name__" := by decide)(hd:(x==("__debug__" : Str))=false:=by decide):PE X (.Name x pos) (tC (.ty T)):=cV5 (v:=.ty T) hg hm hv rfl hn hd
def AllP {α:Type}(p:α->Prop):List α->Prop
 | []=>True
 | a::l=>p a/\AllP p l
theorem AllP.mem {α:Type}{p:α->Prop}:∀{l:List α},AllP p l->∀a∈l,p a
 | _::_,h,a,ha=>(Aa1.mp ha).elim (λe=>e▸h.1) λz=>AllP.mem h.2 a z
theorem Y4 {β:Type}{x:Str}{v:β}:∀{l:List (Str×β)},l.lookup x=some v->(x,v)∈l
 | [],h=>by cases h
 | (y,u)::l,h=>by
  rw[List.lookup_cons]at h;by_cases e:x==y
  ·rw[e]at h;have e':x=y:=eq_of_beq e;cases h;subst e';exact List.mem_cons_self
  ·have e1:(x==y)=false:=by simpa using e
   rw[e1]at h;exact Ad3 _ (Y4 h)
theorem CScope.of {X:Cx}{scope:Scope}{cl:List (Str×Addr)}{T N':List Str}{is:List Nat}(clos:closureFor scope X.env=pure cl)(kind:scope.kind=.function)
  (c1:scope.names.all (λy=>y.2 != .cell&&(y.2 != .local||scope.names.lookup y.1==some .local))=true) (c3:AllP (λp=>X.env.cells.lookup p.1=some p.2) cl)
  (c4:(relabel scope X.env).names.all (λy=>(y.2 != .cell&&y.2 != .free)||(cl.lookup y.1).isSome)=true) (c5:N'=T++is.map λ(i:Nat)=>((X.N[i]?).getD Str.empty:Str))
  (c6:is.all (λi=>decide (i<X.N.length))=true) (c7:AllP (λi=>∃x,X.N[i]? = some x/\((relabel scope X.env).names.lookup x=some .cell\/(relabel scope X.env).names.lookup x=some .free)/\(X.env.kindOf x=some .cell\/X.env.kindOf x=some .free)) is):CScope X scope cl T is N' where
 clos:=clos
 cell:=λy hy e=>by
  have:=Ac8.mp c1 y hy
  rw[e]at this;simp at this
 kind:=kind
 names:=λy hy e=>by
  have:=Ac8.mp c1 y hy
  rw[e]at this;simp at this;exact this
 cap:=λx c h=>c3.mem (x,c) (Y4 h)
 has:=λx h=>by
  have go:∀k,(relabel scope X.env).names.lookup x=some k->k=.cell\/k=.free->∃c,cl.lookup x=some c:=λk e hk=>by
   have:=Ac8.mp c4 (x,k) (Y4 e)
   rcases hk with rfl | rfl <;> exact Option.isSome_iff_exists.mp this
  rcases h with h | h
  ·exact go _ h (.inl rfl)
  ·exact go _ h (.inr rfl)
 N:=c5
 lt:=λi hi=>of_decide_eq_true (Ac8.mp c6 i hi)
 capt:=λi hi x e=>by
  obtain ⟨y,e',h1,h2⟩:=c7.mem i hi;rw[e]at e';cases e';exact⟨h1,h2⟩
section
variable {X:Cx}
theorem ixK (K:PySem.W.Frag)(h:X.K=K:=by rfl):IxR X (rIx K):=h▸C2
theorem aU5 (K:PySem.W.Frag)(h:X.K=K:=by rfl):W4 X (.builtin "len") (λxs H Q=>∃p ys,xs=[.ref p]/\(SqL K H p ys\/SqT K H p ys)/\Q (.int ys.length) H):=h▸L8
theorem cM4 (K:PySem.W.Frag)(h:X.K=K:=by rfl):W4 X (.builtin "isinstance") (λxs H Q=>∃x T b,xs=[x,.ty T]/\T∈bL5/\dD3 K H T x b/\Q (.bl b) H):=h▸cK7
theorem dN1 (K:PySem.W.Frag)(h:X.K=K:=by rfl):SlR X (dB5 K):=h▸bE0
theorem dN6 (K:PySem.W.Frag)(h:X.K=K:=by rfl):W4 X (.type "tuple") (λxs H Q=>∃p ys,xs=[.ref p]/\((SqL K H p ys/\∀l,H l=none->Q (.ref l) (upd H l (.tup ys)))\/(SqT K H p ys/\Q (.ref p) H))):=h▸R3
end
end L2
namespace LV
open PySem L2
section
variable {K:PySem.W.Frag}{ρ ρ' ρ1:List Sl}{m m':Bool}{t ta tb tc:TE}{d d':PyData}{ds es:List PyData}
theorem aJ3 {i j:Int}(ha:E K false ta ρ (.int i))(hb:E K false tb ρ (.int j)):E K m (tOp rEq ta tb) ρ (.bool (decide (i=j))):=
 bI0 ha hb λH Q q=>⟨rfl,by
  have:decide (V.int i=V.int j)=decide (i=j):=by simp
  rw[this];exact q _ λ_=>.bl _⟩
theorem dL1 {i j:Int}(ha:E K false ta ρ (.int i))(hb:E K false tb ρ (.int j)):E K m (tOp rNe ta tb) ρ (.bool (!decide (i=j))):=
 bI0 ha hb λH Q q=>⟨rfl,by
  have:decide (V.int i=V.int j)=decide (i=j):=by simp
  rw[this];exact q _ λ_=>.bl _⟩
theorem aN1 {i:Int}(ha:E K false ta ρ (.int i)):E K m (tUn (rU λi=>.int (-i)) ta) ρ (.int (-i)):=E.bor (E.imm (m:=false) λS B σ H o I Q q=>ha S B σ H o I _ λv H1 s1 r=>by
 cases r
 exact⟨i,rfl,q _ H1 s1 (.int _)⟩)
theorem dD6 {r:List V->Hp->VK->Prop}{t:TA}(ha:A K false t ρ ds)(hr:∀(H:Hp) (vs:List V) (Q:VK),Reps K H vs ds->(∀v,(∀H,Rep K H v d)->Q v H)->r vs H Q):E K m (tCB r t) ρ d:=λS B σ H o I Q q=>
 ha S B σ H o I _ λvs H1 s1 rs=>hr H1 vs Q rs λv rv=>q v H1 s1 (rv _)
theorem W6 {t:TA}(ha:A K false t ρ [d])(h:sq d=some ds:=by rfl):E K m (tCB (λxs H Q=>∃p ys,xs=[.ref p]/\(SqL K H p ys\/SqT K H p ys)/\Q (.int ys.length) H) t) ρ (.int ds.length):=dD6 ha λH vs Q r q=>by
 cases r with
 | cons a b=>
  cases b
  cases a with
  | lst s r=>cases h;exact⟨_,_,rfl,.inl s,by rw[r.length];exact q _ λ_=>.int _⟩
  | tup s r=>cases h;exact⟨_,_,rfl,.inr s,by rw[r.length];exact q _ λ_=>.int _⟩
  | _=>cases h
def dJ7 (T:String):PyData->Bool
 | .int _=>T == "int"
 | .bool _=>T == "int" || T == "bool"
 | .str _=>T == "str"
 | .list _=>T == "list"
 | .tuple _=>T == "tuple"
 | _=>false
def xNo:PyData->Bool
 | .dict _=>false
 | _=>true
theorem bH6 {T:String}(ha:E K false ta ρ d)(hT:T∈bL5:=by decide)(hn:xNo d=true:=by first | rfl | assumption):E K m (tCB (λxs H Q=>∃x T b,xs=[x,.ty T]/\T∈bL5/\dD3 K H T x b/\Q (.bl b) H) (E9 ta (E9 (tC (.ty T)) W1))) ρ (.bool (dJ7 T d)):=E.bor (E.imm (m:=false) λS B σ H o I Q q=>ha S B σ H o I _ λv H1 s1 r=>by
 refine⟨v,T,dJ7 T d,rfl,hT,?_,q _ H1 s1 (.bl _)⟩;cases r with
 | lst s r=>exact .inl ⟨_,s,rfl⟩
 | tup s r=>exact .inr ⟨_,s,rfl⟩
 | exc e=>exact absurd hn (by simp[xNo])
 | ptr=>exact absurd hn (by simp[xNo])
 | adr=>exact absurd hn (by simp[xNo])
 | dic _ _ _=>exact absurd hn (by simp[xNo])
 | _=>rfl)
theorem bW7 {r r':R2}{i j k:Int}{g g':Int->Int->Bool}(ha:E K false ta ρ (.int i))(hb:E K false tb ρ (.int j))(hc:E K false tc ρ (.int k)):E K m (cN5 (rI0 λi j=>.bl (g i j)) (rI0 λi j=>.bl (g' i j)) ta tb tc) ρ (.bool (g i j&&g' j k)):=
 E.bor (E.imm (m:=false) λS B σ H o I Q q=>ha S B σ H o I _ λv H1 s1 r1=>hb S B σ H1 o (I.grow s1) _ λu H2 s2 r2=>by
  cases r1;cases r2
  refine⟨i,j,rfl,rfl,g i j,rfl,?_⟩;cases h:g i j with
  | false=>rw[if_neg Bool.false_ne_true];exact q _ H2 (L2.Same.tr s1 s2) (by rw[h];exact .bl _)
  | true=>
   rw[if_pos rfl];refine hc S B σ H2 o ((I.grow s1).grow s2) _ λw H3 s3 r3=>?_
   cases r3
   refine⟨j,k,rfl,rfl,q _ H3 (L2.Same.tr s1 (L2.Same.tr s2 s3)) ?_⟩;rw[h,Bool.true_and];exact .bl _)
end
end LV
namespace LV
open PySem PySem.Spec PyProof.Rows L2
section
variable {X:Cx}{pins:List (Addr×Obj)}{σ:L2.St}{H:Hp}{s:Shared}
mutual
theorem U9 (I:Inv X pins σ H s):∀(d:PyData) {v:V} {u:Value},d.canLay0=true->Rep X.K H v d->RelV v u->∃as,Reads s.heap u d as
 | .none,_,_,_,r,q=>by cases r;cases q;exact⟨_,.none⟩
 | .bool _,_,_,_,r,q=>by cases r;cases q;exact⟨_,.bool _⟩
 | .int _,_,_,_,r,q=>by cases r;obtain ⟨t,rfl⟩:=q;exact⟨_,.int _ _⟩
 | .str _,_,_,_,r,q=>by cases r;obtain ⟨t,rfl⟩:=q;exact⟨_,.str _ _⟩
 | .tuple ds,_,_,c,r,q=>by
  cases r with
  | tup sq rs=>
   cases q
   obtain ⟨its,rv,⟨o,e,c',n,d⟩,_⟩:=I.tuple sq;obtain ⟨as,ra⟩:=aF9 I ds (by simpa[PyData.canLay0]using c) rs rv
   exact⟨_,.tuple e c' d (by simpa using ra)⟩
 | .list ds,_,_,c,r,q=>by
  cases r with
  | lst sq rs=>
   cases q
   obtain ⟨its,rv,⟨o,n,e,c',_,d⟩,_⟩:=I.list sq;obtain ⟨as,ra⟩:=aF9 I ds (by simpa[PyData.canLay0]using c) rs rv
   exact⟨_,.list e c' d (by simpa using ra)⟩
 | .dict _,_,_,c,_,_=>by simp[PyData.canLay0]at c
theorem aF9 (I:Inv X pins σ H s):∀(ds:List PyData) {vs:List V} {us:List Value},PyData.canLayAll0 ds=true->Reps X.K H vs ds->Vals vs us->∃as,ReadsAll s.heap us ds as
 | [],_,_,_,r,q=>by cases r;cases q;exact⟨_,.nil⟩
 | d::ds,_,_,c,r,q=>by
  have c':d.canLay0=true/\PyData.canLayAll0 ds=true:=by simpa[PyData.canLayAll0]using c
  cases r with
  | cons a b=>
   cases q with
   | cons a' b'=>
    obtain ⟨as,h1⟩:=U9 I d c'.1 a a';obtain ⟨bs,h2⟩:=aF9 I ds c'.2 b b';exact⟨_,.cons h1 h2⟩
end
def Fit (d:PyData):Prop:=d.canLay0=true/\d.depth<=32
def cG0 (K:PySem.W.Frag)(neg:Bool):R2:=λx y H Q=>∃d e,Rep K H x d/\Rep K H y e/\Fit d/\Fit e/\Q (.bl (if neg then !PyData.eqv d e else PyData.eqv d e)) H
def dI3 (K:PySem.W.Frag)(neg:Bool):R2:=λx y H Q=>∃d e ds,Rep K H x d/\Rep K H y e/\sq e=some ds/\Fit d/\Fit e/\Q (.bl (if neg then !ds.any λz=>PyData.eqv z d else ds.any λz=>PyData.eqv z d)) H
theorem cR6 (K:PySem.W.Frag){k:Nat}(hr:Room k X.A)(h:X.K=K:=by rfl):OpR X (compareOp .Eq) (cG0 K false):=by
 subst h;intro pins s σ H x y v u Q I rx ry ⟨d,e,hd,he,fd,fe,q⟩;obtain ⟨as,ra⟩:=U9 I d fd.1 hd rx;obtain ⟨bs,rb⟩:=U9 I e fe.1 he ry;exact SeqAt.compareEq_reads ra rb fd.1 fe.1 (by have:=hr.un;have:=fd.2;omega) ⟨.bl _,H,I,rfl,q⟩
theorem bC6 (K:PySem.W.Frag){k:Nat}(hr:Room k X.A)(h:X.K=K:=by rfl):OpR X (compareOp .NotEq) (cG0 K true):=by
 subst h;intro pins s σ H x y v u Q I rx ry ⟨d,e,hd,he,fd,fe,q⟩;obtain ⟨as,ra⟩:=U9 I d fd.1 hd rx;obtain ⟨bs,rb⟩:=U9 I e fe.1 he ry;exact SeqAt.compareNe_reads ra rb fd.1 fe.1 (by have:=hr.un;have:=fd.2;omega) ⟨.bl _,H,I,rfl,q⟩
theorem bY1 {ds:List PyData}(h:Fit (.list ds)\/Fit (.tuple ds)):PyData.canLayAll0 ds=true/\PyData.depthAll ds<=32:=by
 rcases h with ⟨a,b⟩ | ⟨a,b⟩ <;> simp only[PyData.canLay0,PyData.depth]at a b <;> exact⟨a,by omega⟩
theorem bS9 (K:PySem.W.Frag){k:Nat}(hr:Room k X.A)(h:X.K=K:=by rfl):OpR X (compareOp .In) (dI3 K false):=by
 subst h;intro pins s σ H x y v u Q I rx ry ⟨d,e,ds,hd,he,hs,fd,fe,q⟩;obtain ⟨as,ra⟩:=U9 I d fd.1 hd rx;obtain ⟨bs,rb⟩:=U9 I e fe.1 he ry;have fin:EP X pins σ Q (.bool (ds.any λz=>PyData.eqv z d)) s:=⟨.bl _,H,I,rfl,q⟩
 cases e with
 | list es=>
  cases hs
  have:=bY1 (.inl fe)
  exact SeqAt.in_list_reads rb ra this.1 fd.1 (by have:=hr.un;have:=fd.2;omega) fin
 | tuple es=>
  cases hs
  have:=bY1 (.inr fe)
  exact SeqAt.in_tuple_reads rb ra this.1 fd.1 (by have:=hr.un;have:=fd.2;omega) fin
 | _=>cases hs
theorem V2:∀{l:List Int} {its:List Value},Vals (l.map V.int) its->IntsAre its l
 | [],_,r=>by cases r;exact .nil
 | i::l,_,r=>by
  cases r with
  | cons a b=>
   obtain ⟨t,rfl⟩:=a;exact .cons _ _ (V2 b)
theorem bQ5 {k:Int}:∀{l:List Int} {m:Nat} (hm:m<l.length),m<l.idxOf k->l[m]≠k
 | [],m,hm,_=>by simp at hm
 | a::l,m,hm,h=>by
  rw[List.idxOf_cons]at h;by_cases e:a=k
  ·subst e;simp at h
  ·have e1:(a==k)=false:=by simpa using e
   rw[e1]at h;simp only[cond_false]at h;cases m with
   | zero=>simpa using e
   | succ m=>exact bQ5 (l:=l) (m:=m) (by simpa using hm) (by omega)
theorem cO5 {A:Around}{P:Program}{w:World}{E:Value->Shared->Prop}{l:Addr}{vs:List Value}{ns:List Int}{Q:Value->Shared->Prop}(hh:A.handled=none)(hl:s.heap.IsList l vs.toArray)(hi:IntsAre vs ns)(hne:0<ns.length)
  (h:∀h' M (t:Tok) tk,(∀b o,s.heap.get? b=some o->h'.get? b=some o)->M∈ns->(∀a,a∈ns->M<=a)->Q (.int M t) {s with heap:=h',toks:=tk}):wpAny (model P w) A (call (.builtin "min") [.ref l]) Q E s:=by
 obtain ⟨xs,e⟩:=hi.allInts.items;have hns:ns=xs.toList.map (·.1):=by rw[<- hi.numsOf,<- nums_intItems,<- e]
 have hsz:0<xs.size:=by
  have h3:=hne;rw[hns,Aa3,Array.length_toList]at h3;exact h3
 rw[e]at hl;refine min_intList hh hl hsz λv h' tk hv hk=>?_
 obtain ⟨t,rfl⟩:=intItems_at hv;obtain ⟨h1,h2⟩:=argBest_lt (numAt xs) (xs.size-1);refine h _ _ t tk hk ?_ λa ha=>?_
 ·rw[hns,numAt_eq];exact getD_mem (by rw[Aa3,Array.length_toList];omega)
 ·rw[hns]at ha;obtain ⟨j,hj,rfl⟩:=mem_getD ha;rw[Aa3,Array.length_toList]at hj;rw[<- numAt_eq];exact h2 j (by omega)
theorem cC6 (K:PySem.W.Frag)(hc:X.calm=true)(h:X.K=K:=by rfl):W4 X (.builtin "min") (λxs H Q=>∃(p:Addr) (l:List Int),xs=[.ref p]/\SqL K H p (l.map V.int)/\l≠[]/\∀M,M∈l->(∀a∈l,M<=a)->Q (.int M) H):=by
 subst h;intro pins s σ H xs us Q I r ⟨p,l,e,hq,hne,q⟩;subst e;obtain ⟨u,rfl,rx⟩:=aB1 r;cases rx;obtain ⟨its,rv,pl,_⟩:=I.list hq;exact cO5 (I.ok.hd hc) pl.isList (V2 rv) (List.length_pos_iff.mpr hne) λh' M t tk hk h1 h2=>⟨.int M,H,I.kept hk,⟨_,rfl⟩,q M h1 h2⟩
theorem cD3 (K:PySem.W.Frag)(h:X.K=K:=by rfl):MtR X "list.index" (λx xs H Q=>∃(p:Addr) (l:List Int) (k:Int),x=.ref p/\xs=[.int k]/\SqL K H p (l.map V.int)/\k∈l/\Q (.int (l.idxOf k)) H):=by
 subst h;intro pins s σ H x xs v us Q I rx rv ⟨p,l,k,e1,e2,hq,hk,q⟩;subst e1;subst e2;cases rx;obtain ⟨u,rfl,t,rfl⟩:=aB1 rv;obtain ⟨its,r,⟨o,n,e,c,dd,d⟩,hz⟩:=I.list hq;obtain ⟨oc,od,odata,osl⟩:=o;dsimp only at c dd d;subst c;subst dd;subst d;have hl:=r.length;rw[Aa3]at hl;have hj:l.idxOf k<l.length:=List.idxOf_lt_length_iff.mpr hk;have at_:∀(j:Nat) (hj:j<its.toArray.size),∃t,its.toArray[j]=Value.int (l[j]'(by simpa[hl]using hj)) t:=λj hj=>by
  have hj':j<l.length:=by simpa[hl]using hj
  obtain ⟨u,h1,t,rfl⟩:=r.get (i:=j) (x:=.int l[j]) (by rw[Aa9,Aa2 hj'];rfl)
  have:=(Ab0.mp h1).2
  exact⟨t,by simpa using this⟩
 have hz':=aM2
 rw[Aa3]at hz;refine call_meets F.slot_list_index ⟨_,e,rfl⟩ F.entry_list_index (F.args_list_index_2 _ _) (SeqAt.list_indexAt p its.toArray n none osl (.int k t) (λy=>match y with | .int i _=>i==k | _=>false) (l.idxOf k) (by simpa[<- hl]using hj) (by omega) ?_ ?_) ⟨e,λy hy=>?_,?_⟩
 ·obtain ⟨t',e'⟩:=at_ (l.idxOf k) (by simpa[<- hl]using hj)
  rw[e'];simp
 ·intro m hm hlt;obtain ⟨t',e'⟩:=at_ m hm;rw[e']
  have:l[m]'(by simpa[hl]using hm)≠k:=λz=>by
   have h1:m<l.length:=by simpa[hl]using hm
   exact bQ5 h1 hlt z
  simpa using this
 ·obtain ⟨j,hj,rfl⟩:=Array.mem_iff_getElem.mp hy;obtain ⟨t',e'⟩:=at_ j hj;rw[e'];exact SeqAt.EqAt.int_int _ _ _ _
 ·exact⟨.int _,H,I.tok _,⟨_,rfl⟩,q⟩
end
theorem bD4:∀{vs:List V} {us:List Value},vs.length=us.length->(∀(j:Nat) v u,vs[j]? = some v->us[j]? = some u->RelV v u)->Vals vs us
 | [],[],_,_=>.nil
 | v::vs,u::us,hl,h=>.cons (h 0 v u rfl rfl) (bD4 (by simpa using hl) λj v u e1 e2=>h (j+1) v u (by simpa using e1) (by simpa using e2))
 | [],_::_,hl,_=>by simp at hl
 | _::_,[],hl,_=>by simp at hl
section
variable {X:Cx}
def dA1 (ta:TA):TE:=λσ H Q=>ta σ H λvs H1=>∃i j:Int,vs=[.int i,.int j]/\∀p,H1 p=none->Q (.ref p) (upd H1 p (.rng i j))
theorem cT2 {a b:Expr}{ta:TA}{p pos:Pos}(hg:Gl X "range")(hm:X.mg "range" = none)(ha:PA X [a,b] ta)(hs:starEach [a,b] X.env=[(false,eval a X.env),(false,eval b X.env)]:=by rfl)(hs2:starEach [b] X.env=[(false,eval b X.env)]:=by rfl) :
  PE X (.Call (.Name "range" p) [a,b] [] pos) (dA1 ta):=by
 refine⟨?_⟩;intro pins s σ H Q I h;refine Call_ (i8 I hg hm boot_range (PyProof.Rows.callWith_type1 (thn (ha pos pins s σ H _ I h) λus s1 ⟨vs,H1,I1,r1,q1⟩=>?_) (by rw[hs,hs2]) (by rw[hs2];rfl)))
 obtain ⟨i,j,e,q⟩:=q1;subst e;cases r1 with
 | cons r rr=>
  cases rr with
  | cons r' rr=>
   cases rr
   obtain ⟨t,rfl⟩:=r;obtain ⟨t',rfl⟩:=r';refine call_range_2 ?_;refine⟨.ref _,_,I1.laid (λb o e=>Aa6 _ e) (Aa7 _) (show ObjOk X.prog X.w _ _ _ (.rng i j) from⟨_,_,_,Ac3 _ rfl⟩),rfl,q _ (I1.hok.fresh (Aa7 _))⟩
def aE3 (lo:Int)(n:Nat):List V:=(List.range n).map λ(k:Nat)=>V.int (lo+(k:Int))
theorem aU7 (hc:X.calm=true):W4 X (.type "list") (λxs H Q=>∃(r:Addr) (i j:Int),xs=[.ref r]/\H r=some (.rng i j)/\(-(2^62)<=i/\i<2^62 /\ -(2^62)<=j/\j<2^62/\j-i<=1000000)/\∀l,H l=none->Q (.ref l) (upd H l (.lst (aE3 i (j-i).toNat)))):=by
 intro pins s σ H xs us Q I r ⟨ra,i,j,e,hq,⟨h1,h2,h3,h4,h5⟩,q⟩;subst e;obtain ⟨u,rfl,rx⟩:=aB1 r;cases rx;obtain ⟨t,u,v,e⟩:=I.hok ra _ hq;have hn:Builtin.Range.rangeSize i j 1=((j-i).toNat:Int):=by rw[rangeSize_one];split <;> omega
 refine call_list_range (I.ok.hd hc) (show IsRange s.heap ra i j 1 t u v from e) (small_one h1 h2 h3 h4) hn (by omega) λh' tk acc' c' kp el it=>?_
 have rv:Vals (aE3 i (j-i).toNat) acc'.toList:=by
  obtain ⟨hz,hit⟩:=it;refine bD4 (by simp[aE3,hz]) λk v u e1 e2=>?_
  obtain ⟨t,rfl⟩:=hit k u (by simpa using e2)
  have hk:k<(j-i).toNat:=by
   have:=(Ab0.mp e1).1
   simpa[aE3]using this
  unfold aE3 at e1;rw[Aa9,List.getElem?_range hk]at e1;cases e1;exact⟨t,by simp⟩
 refine⟨.ref s.heap.objs.size,_,I.laid kp (Aa7 _) (show ObjOk X.prog X.w _ h' _ (.lst _) from⟨?_,acc'.toList,c',rv,by simpa using el⟩),rfl,q _ (I.hok.fresh (Aa7 _))⟩
 simp[aE3];unfold PySem.sizeLine;omega
end
end LV
namespace PySem
open Sem (wp)
theorem bP9:typeLookup (.type "list_reverseiterator") "__len__" = pure none:=by rw[typeLookup_type,builtinLookup_eq_fast];kernel_rfl
theorem cK0:typeLookup (.type "list_reverseiterator") "__length_hint__" = pure (some (.builtin "list_reverseiterator.__length_hint__")):=by rw[typeLookup_type,builtinLookup_eq_fast];kernel_rfl
section
variable {prog:Program}{w:World}{A:Around}{E:Value->Shared->Prop}{s:Shared}
theorem aK7 {R:Result->Shared->Prop}(hh:A.handled=none){r l:Addr}{items:Array Value}(hit:s.heap.IsRevIter r l ((items.size:Int)-1))(hl:s.heap.IsList l items)(hlr:l≠r)(S:Addr)(hSr:S≠r)(hSl:S≠l)(res:Value)(c₀:Nat)(hS:s.heap.get? S=some {cls:=.type "list",data:=.seq #[] c₀})
  (hR:∀h' tk acc' c',(∀b o,b≠S->b≠r->s.heap.get? b=some o->h'.get? b=some o)->h'.get? S=some {cls:=.type "list",dict:=none,data:=.seq acc' c',slots := #[]} ->
   ItemsOf (λi v=>items[items.size-1-i]? = some v) acc' items.size->R (.ok (.ret res)) {s with heap:=h',toks:=tk}) (hn:items.size<=sizeLine) :
  wpAny (model prog w) A.in1 (Builtin.List.listExtendWith (.ref S) (.ref r) res)
   (λfin s'=>match fin with | .done f=>R (.ok f) s' | .again c'=>c'.quiet=true/\codeAny (model prog w) A c' R s') (λe s'=>R (.error e) s') s:=by
 have hSf:S∉[r,l]:=λhm=>by simp at hm;rcases hm with h | h;exact hSr h;exact hSl h
 unfold Builtin.List.listExtendWith;refine wpAny_bind (wpAny_typeOf hit.typeIs ?_);have h1:Builtin.List.listSameRef (.ref S) (.ref r)=false:=by simp[Builtin.List.listSameRef,hSr]
 have h2:(Value.type "list_reverseiterator" == Value.type "list")=false:=by decide
 have h3:(Value.type "list_reverseiterator" == Value.type "tuple")=false:=by decide
 simp only[h1,h2,h3,Bool.or_false,Bool.false_eq_true,if_false];refine wpAny_bind (wpAny_pyIter_revIter hit ?_);refine wpAny_bind (wpAny_holding ?_);unfold Builtin.List.listLengthHint;refine wpAny_bind (wpAny_specialOf hit.typeIs bP9 ?_);show wpAny _ A.in1 (specialOf (Value.ref r) (Str.ofString "__length_hint__") >>= _) _ _ _;refine wpAny_bind (wpAny_specialOf hit.typeIs cK0 ?_)
 wp_delta
 refine wpAny_bind (wpAny_isInstance (b:=true) hit.typeIs (by rw[isSubtype_type];kernel_rfl) ?_)
 refine wpAny_pure ?_;rw[if_neg (by decide)]
 refine wpAny_pure ⟨plainId_quiet F.plain_extend_loop _,codeAny_extend_loopS (Walks.listRev (A:=A.in1) hh r l hlr items).toS hn S hSf res items.size 0 _ _ _ rfl (Nat.zero_le _) ⟨Nat.zero_le _,by simpa using hit,hl⟩ hS (ItemsOf.nil _) λs' acc' c' hm hS' hacc=>?_⟩
 rw[Moved.eq_with hm]
 refine hR s'.heap s'.toks acc' c' (λb ob hb hb' e=>hm.heap b ob (λhmem=>?_) e) hS' hacc
 rcases Aa1.mp hmem with e' | hmem
 ·exact hb e'
 ·exact hb' (Ad6.mp hmem)
theorem aE2 {R:Result->Shared->Prop}(hh:A.handled=none){r l:Addr}{items:Array Value}(hit:s.heap.IsRevIter r l ((items.size:Int)-1))(hl:s.heap.IsList l items)(hlr:l≠r)(S:Addr)(hSr:S≠r)(hSl:S≠l)(hS:s.heap.get? S=some {cls:=.type "list",data:=.seq #[]})
  (hR:∀h' tk acc' c',(∀b o,b≠S->b≠r->s.heap.get? b=some o->h'.get? b=some o)->h'.get? S=some {cls:=.type "list",dict:=none,data:=.seq acc' c',slots := #[]} ->
   ItemsOf (λi v=>items[items.size-1-i]? = some v) acc' items.size->R (.ok (.ret .none)) {s with heap:=h',toks:=tk}) (hn:items.size<=sizeLine) :
  wpAny (model prog w) A.in1 (Builtin.«list.__init__» ⟨[.ref S,.ref r],[]⟩)
   (λfin s'=>match fin with | .done f=>R (.ok f) s' | .again c'=>c'.quiet=true/\codeAny (model prog w) A c' R s') (λe s'=>R (.error e) s') s:=by
 show wpAny _ _ (do let old <- Builtin.List.listItems (.ref S);Builtin.List.listUpdate (.ref S) (λ_ => #[]);letGo old.toList.reverse;Builtin.List.listExtendWith (.ref S) (.ref r) .none) _ _ s
 refine wpAny_bind ?_;unfold Builtin.List.listItems;refine wpAny_bind (wpAny_seqItems hS rfl (wpAny_pure ?_));show wpAny _ _ (updateSeq S (λ_ => #[]) >>= λ_=>letGo (#[]:Array Value).toList.reverse >>= λ_=>Builtin.List.listExtendWith (.ref S) (.ref r) .none) _ _ s
 refine wpAny_bind (wpAny_updateSeq hS rfl ?_);have hS₂:=Heap.get?_update_self (Obj.mapSeq (λ_=>(#[]:Array Value))) hS rfl
 have oth:∀b o,b≠S->s.heap.get? b=some o->(s.heap.update S (Obj.mapSeq (λ_=>(#[]:Array Value)))).get? b=some o:=
  λb o hb e=>(Heap.get?_update_other _ _ (Ne.symm hb)).trans e
 refine wpAny_bind (wpAny_letGo ?_);refine aK7 hh (s:={s with heap:=s.heap.update S (Obj.mapSeq (λ_=>(#[]:Array Value)))}) (hit.at λo e=>oth r o hSr.symm e) (hl.at λo e=>oth l o hSl.symm e) hlr S hSr hSl .none _ hS₂ (λh' tk acc' c' hk hS' hacc=>?_) hn
 exact hR h' tk acc' c' (λb o hb hb' e=>hk b o hb hb' (oth b o hb e)) hS' hacc
theorem aS1 {Q:Value->Shared->Prop}{r l:Addr}{items:Array Value}(hh:A.handled=none)(hit:s.heap.IsRevIter r l ((items.size:Int)-1))(hl:s.heap.IsList l items)(hlr:l≠r)(hn:items.size<=sizeLine)
  (hQ:∀h' tk acc' c',(∀b o,b≠r->s.heap.get? b=some o->h'.get? b=some o) ->
   h'.get? s.heap.objs.size=some {cls:=.type "list",dict:=none,data:=.seq acc' c',slots := #[]}->ItemsOf (λi v=>items[items.size-1-i]? = some v) acc' items.size->Q (.ref s.heap.objs.size) {s with heap:=h',toks:=tk}) :
  wpAny (model prog w) A (call (.type "list") [.ref r]) Q E s:=by
 refine callType_codes (Q₁:=λobj s₁=>obj=.ref s.heap.objs.size/\s₁={s with heap:=s.heap.push {cls:=.type "list",data:=.seq #[]}}) F.called_list (F.typeCall_list_1 _) F.entry_list_init
  (code_list_new _ ⟨rfl,rfl⟩) λobj s₁ h₁=>?_
 obtain ⟨rfl,rfl⟩:=h₁;have hS:(s.heap.push {cls:=.type "list",data:=.seq #[]}).get? s.heap.objs.size=some {cls:=.type "list",data:=.seq #[]}:=Ac3 _ rfl;have nr:s.heap.objs.size≠r:=by obtain ⟨o,e,_⟩:=hit;exact(Ab9 (Ab3 e)).symm
 have nl:s.heap.objs.size≠l:=by obtain ⟨o,e,_⟩:=hl;exact(Ab9 (Ab3 e)).symm
 refine⟨⟨_,hS,rfl⟩,F.args_list_init_2 _ _,aE2 (A:=A.in1) hh (s:={s with heap:=s.heap.push {cls:=.type "list",data:=.seq #[]}}) (hit.at λo e=>Aa6 _ e) (hl.at λo e=>Aa6 _ e) hlr _ nr nl hS (λh' tk acc' c' hk hS' hacc=>?_) hn⟩
 exact⟨rfl,hQ h' tk acc' c' (λb o hb e=>hk b o (Ab9 (Ab3 e)) hb (Aa6 _ e)) hS' hacc⟩
end
end PySem
namespace LV
open PySem PySem.Spec PyProof.Rows L2
section
variable {X:Cx}
def bZ6 (K:PySem.W.Frag)(te:TE):TE:=λσ H Q=>te σ H λx H1=>∃p ys,x=.ref p/\SqL K H1 p ys/\∀l,H1 l=none->Q (.ref l) (upd H1 l (.lst ys.reverse))
theorem bI9 (K:PySem.W.Frag){e:Expr}{te:TE}{p1 p2 pos1 pos2:Pos}(hc:X.calm=true)(hg1:Gl X "list")(hm1:X.mg "list" = none)(hg2:Gl X "reversed")(hm2:X.mg "reversed" = none)(he:PE X e te)(hK:X.K=K:=by rfl)
  (hs1:starEach [e] X.env=[(false,eval e X.env)]:=by rfl) (hs2:starEach [Expr.Call (.Name "reversed" p2) [e] [] pos2] X.env=[(false,eval (Expr.Call (.Name "reversed" p2) [e] [] pos2) X.env)]:=by rfl) :
  PE X (.Call (.Name "list" p1) [.Call (.Name "reversed" p2) [e] [] pos2] [] pos1) (bZ6 K te):=by
 subst hK;refine⟨?_⟩;intro pins s σ H Q I h;refine wpAny_Call_Name_kw (i8 I hg1 hm1 boot_list ?_);refine PyProof.Rows.callWith_type1 ?_ (by rw[hs2];rfl) rfl
 rw[hs2];show wpAny _ _ (spliced [(false,eval (Expr.Call (.Name "reversed" p2) [e] [] pos2) X.env)]) _ _ s;refine Calls.spliced_cons ?_;refine wpAny_Call_Name_kw (i8 I hg2 hm2 boot_reversed ?_);refine PyProof.Rows.callWith_type1 ?_ (by rw[hs1];rfl) rfl
 rw[hs1];show wpAny _ _ (spliced [(false,eval e X.env)]) _ _ s;refine Calls.spliced_cons (thn (he pins s σ H _ I h) λu s1 ⟨x,H1,I1,r1,p,ys,e1,hq,q⟩=>?_)
 subst e1;cases r1;refine Calls.spliced_nil ?_;obtain ⟨its,rv,pl,hz⟩:=I1.list hq;have hlen:=rv.length;have hlt:p<s1.heap.objs.size:=by obtain ⟨o,n,e,_⟩:=pl;exact Ab3 e
 refine call_reversed_list pl.isList ?_;refine Calls.spliced_nil ?_;have I2:Inv X pins σ H1 {s1 with heap:=s1.heap.push (revObj p ((its.toArray.size:Int)-1))}:=I1.kept (t':=s1.toks) λb o e=>Aa6 _ e
 refine aS1 (I1.ok.hd hc) (r:=s1.heap.objs.size) (items:=its.toArray) ⟨_,Ac3 _ rfl,rfl,rfl⟩ (pl.isList.at λo e=>Aa6 _ e) (Ab9 hlt) (by rw[Ab2];omega) λh' tk acc' c' kp el it=>?_
 have rr:Vals ys.reverse acc'.toList:=by
  obtain ⟨hz,hit⟩:=it;have hz:acc'.size=its.length:=by simpa using hz
  refine bD4 (by simp[hz,hlen]) λj v u e1 e2=>?_
  have hj:j<its.length:=by
   have:=(Ab0.mp e2).1
   simpa[hz]using this
  have hu:=hit j u (by simpa using e2)
  rw[List.getElem?_reverse (by omega),hlen]at e1
  obtain ⟨u',h1,h2⟩:=rv.get e1;simp only[Ab2]at hu;have hu':its[its.length-1-j]? = some u:=by simpa using hu
  rw[h1]at hu';cases hu';exact h2
 have kp':∀b o,s1.heap.get? b=some o->h'.get? b=some o:=λb o e=>kp b o (Ab9 (Ab3 e)) (Aa6 _ e)
 have I3:Inv X pins σ (upd H1 (s1.heap.push (revObj p ((its.toArray.size:Int)-1))).objs.size (.lst ys.reverse)) {s1 with heap:=h',toks:=tk}:=
  I1.laid kp' (by rw[Heap.size_push];exact Nat.le_succ _) (show ObjOk X.prog X.w _ h' _ (.lst _) from⟨by rw[Ad9];exact hz,acc'.toList,c',rr,by simpa using el⟩)
 exact⟨.ref _,_,I3,rfl,q _ (I1.hok.fresh (by rw[Heap.size_push];exact Nat.le_succ _))⟩
end
section
variable {X:Cx}
theorem cX4 {s:Shared}{h':Heap}{o:Obj}(hk:∀b x,b∉[s.heap.objs.size]->(s.heap.push o).get? b=some x->h'.get? b=some x):∀b x,s.heap.get? b=some x->h'.get? b=some x:=
 λb x e=>hk b x (λhm=>by rw[Ad6.mp hm]at e;exact Ad7 _ (Ab3 e)) (Aa6 _ e)
theorem cX1 {bs:List Bool}{its:List Value}(r:Vals (bs.map V.bl) its){i:Nat}{v:Value}(e:its[i]? = some v):∃b,bs[i]? = some b/\v=.bool b:=by
 have hl:=r.length
 rw[Aa3]at hl;have hi:i<bs.length:=by have:=(Ab0.mp e).1;omega
 obtain ⟨u,h1,h2⟩:=r.get (i:=i) (x:=.bl bs[i]) (by rw[Aa9,Aa2 hi];rfl)
 rw[e]at h1;cases h1;exact⟨_,Aa2 hi,h2⟩
theorem cC1 (K:PySem.W.Frag)(hc:X.calm=true)(h:X.K=K:=by rfl):W4 X (.builtin "all") (λxs H Q=>∃(p:Addr) (l:List Bool),xs=[.ref p]/\SqL K H p (l.map V.bl)/\Q (.bl (l.all id)) H):=by
 subst h;intro pins s σ H xs us Q I r ⟨p,l,e,hq,q⟩;subst e;obtain ⟨u,rfl,rx⟩:=aB1 r;cases rx;obtain ⟨its,rv,pl,_⟩:=I.list hq;have hl:=pl.isList;have hlt:p<s.heap.objs.size:=by obtain ⟨_,e,_⟩:=hl;exact Ab3 e
 refine call_all_walk (wpAny_pyIter_list hl ?_);refine⟨s.heap.objs.size,[s.heap.objs.size,p],[s.heap.objs.size],its.toArray.size,_,_,λi=>(l[i]?).getD true,rfl,Walks.list (A:=X.A.in1) (I.ok.hd hc) _ p (Ab9 hlt) its.toArray,
  ⟨⟨_,Ac3 _ rfl,rfl,rfl⟩,hl.push _⟩,λi v s' Q' E' hP hQ=>?_,λh' tk hk=>?_⟩
 ·obtain ⟨b,e,rfl⟩:=cX1 rv (i:=i) (v:=v) (by simpa using hP)
  simp only[e,Option.getD_some]at hQ;exact wpAny_truthy_bool hQ
 ·have e:((List.range its.toArray.size).all λi=>(l[i]?).getD true)=l.all id:=by
   have:=rv.length
   rw[Aa3]at this;rw[Ab2,<- this];exact LSm.range_all l
  rw[e];exact⟨.bl _,H,I.kept (cX4 hk),rfl,q⟩
end
end LV
namespace LS
open PySem PySem.W PyProof.Rows
def ev {α:Type}(lt:Nat->Nat->Bool):KasT α->α
 | .ret a=>a
 | .ask i j k=>ev lt (k (lt i j))
theorem Z6 {α β:Type}(lt:Nat->Nat->Bool)(f:α->KasT β):∀t:KasT α,ev lt (t.bind f)=ev lt (f (ev lt t))
 | .ret _=>rfl
 | .ask i j k=>Z6 lt f (k (lt i j))
def S0 {α:Type}(lt:Nat->Nat->Bool)(P:Nat->Prop):KasT α->Prop
 | .ret _=>True
 | .ask i j k=>P i/\P j/\S0 lt P (k (lt i j))
theorem S9 {α β:Type}{lt:Nat->Nat->Bool}{P:Nat->Prop}{f:α->KasT β}:∀{t:KasT α},S0 lt P t->S0 lt P (f (ev lt t))->S0 lt P (t.bind f)
 | .ret _,_,h=>h
 | .ask _ _ _,⟨h1,h2,h3⟩,h=>⟨h1,h2,S9 h3 h⟩
theorem cS3 {α:Type}{lt:Nat->Nat->Bool}{P:Nat->Prop}{cmp:Nat->Nat->(Bool->Shared->Prop)->Shared->Prop}{Q:α->Shared->Prop}{s:Shared}
  (hc:∀i j C,P i->P j->C (lt i j) s->cmp i j C s):∀(t:KasT α),S0 lt P t->Q (ev lt t) s->t.kasWp cmp Q s
 | .ret _,_,h=>h
 | .ask i j k,⟨h1,h2,h3⟩,h=>hc i j _ h1 h2 (cS3 hc (k (lt i j)) h3 h)
structure Ord (lt:Nat->Nat->Bool):Prop where
 asym:∀a b,lt a b=true->lt b a=false
 trans:∀a b c,lt b a=false->lt c b=false->lt c a=false
section
variable {lt:Nat->Nat->Bool}
def g (p:Array Nat)(i:Nat):Nat:=p.getD i 0
theorem aN6 {p:Array Nat}{i:Nat}:g p i=(p[i]?).getD 0:=by unfold g;simp[Array.getD_eq_getD_getElem?]
abbrev le (lt:Nat->Nat->Bool)(a b:Nat):Prop:=lt b a=false
theorem Ord.refl (O:Ord lt)(a:Nat):le lt a a:=by
 cases h:lt a a with
 | false=>exact h
 | true=>exact O.asym a a h
theorem Ord.of_lt (O:Ord lt){a b:Nat}(h:lt a b=true):le lt a b:=O.asym a b h
def Srt (lt:Nat->Nat->Bool)(p:Array Nat)(k:Nat):Prop:=∀i j,i<=j->j<k->le lt (g p i) (g p j)
def Dsc (lt:Nat->Nat->Bool)(p:Array Nat)(k:Nat):Prop:=∀i j,i<=j->j<k->le lt (g p j) (g p i)
theorem aX6 {p:Array Nat}{i j:Nat}(hj:j<=p.size)(k:Nat):g (kas_rev p i j) k=if i<=k/\k<j then g p (i+j-1-k) else g p k:=by
 unfold kas_rev;rw[aN6,getElem?_mirror_all hj,aN6,aN6];split <;> rfl
theorem dL8 {p:Array Nat}{k l:Nat}(hk:k<p.size)(hl:l<=k)(i:Nat):g (bubble p k (k-l)) i=if i=l then g p k else if l<i/\i<=k then g p (i-1) else g p i:=by
 rw[aN6,getElem?_bubble hk _ (by omega),aN6,aN6,aN6,show k-(k-l)=l by omega]
 repeat' split
 all_goals rfl
theorem bD7 (O:Ord lt){p:Array Nat}{N:Nat}:∀(f n:Nat),1<=n->n+f<=N->Srt lt p n->∃m,ev lt (kas_asc p f n)=m/\n<=m/\m<=n+f/\Srt lt p m/\(m<n+f->lt (g p m) (g p (m-1))=true)/\S0 lt (λi=>∃j,j<N/\i=g p j) (kas_asc p f n)
 | 0,n,h1,hN,h=>⟨n,rfl,Aa7 _,Aa7 _,h,λz=>absurd z (Ad7 _),trivial⟩
 | f+1,n,h1,hN,h=>by
  cases hc:lt (g p n) (g p (n-1)) with
  | true=>
   refine⟨n,?_,Aa7 _,by omega,h,λ_=>hc,⟨n,by omega,rfl⟩,⟨n-1,by omega,rfl⟩,?_⟩
   ·show ev lt (if lt (g p n) (g p (n-1))=true then KasT.ret n else kas_asc p f (n+1))=n
    rw[hc];rfl
   ·show S0 lt _ (if lt (g p n) (g p (n-1))=true then KasT.ret n else kas_asc p f (n+1))
    rw[hc];exact trivial
  | false=>
   have h':Srt lt p (n+1):=λi j hij hj=>by
    by_cases e:j=n
    ·subst e;by_cases e2:i=j
     ·subst e2;exact O.refl _
     ·exact O.trans _ _ _ (h i (j-1) (by omega) (by omega)) hc
    ·exact h i j hij (by omega)
   obtain ⟨m,e,a1,a2,a3,a4,a5⟩:=bD7 O (N:=N) f (n+1) (by omega) (by omega) h'
   refine⟨m,?_,by omega,by omega,a3,λz=>a4 (by omega),⟨n,by omega,rfl⟩,⟨n-1,by omega,rfl⟩,?_⟩
   ·show ev lt (if lt (g p n) (g p (n-1))=true then KasT.ret n else kas_asc p f (n+1))=m
    rw[hc];exact e
   ·show S0 lt _ (if lt (g p n) (g p (n-1))=true then KasT.ret n else kas_asc p f (n+1))
    rw[hc];exact a5
def Same (lt:Nat->Nat->Bool)(p:Array Nat)(n q:Nat):Prop:=q<n/\∀i j,n-1-q<=i->i<n->n-1-q<=j->j<n->le lt (g p i) (g p j)
theorem bU5 (O:Ord lt){p:Array Nat}{n q:Nat}(hn:n<=p.size)(h:Dsc lt p n)(hs:Same lt p n q):Dsc lt (kas_rev p (n-(q+1)) n) n/\(∀k,n<=k->g (kas_rev p (n-(q+1)) n) k=g p k)/\Same lt (kas_rev p (n-(q+1)) n) n q:=by
 obtain ⟨hq,hs⟩:=hs;have e:∀k,g (kas_rev p (n-(q+1)) n) k=if n-(q+1)<=k/\k<n then g p (n-(q+1)+n-1-k) else g p k:=aX6 hn;have al:∀k,k<n->le lt (g (kas_rev p (n-(q+1)) n) k) (g p k)/\le lt (g p k) (g (kas_rev p (n-(q+1)) n) k):=λk hk=>by
  rw[e];split
  ·exact⟨hs _ _ (by omega) (by omega) (by omega) (by omega),hs _ _ (by omega) (by omega) (by omega) (by omega)⟩
  ·exact⟨O.refl _,O.refl _⟩
 refine⟨λi j hij hj=>?_,λk hk=>by rw[e,if_neg (by omega)],hq,λi j h1 h2 h3 h4=>?_⟩
 ·exact O.trans _ _ _ (al j hj).1 (O.trans _ _ _ (h i j hij hj) (al i (by omega)).2)
 ·exact O.trans _ _ _ (al i h2).1 (O.trans _ _ _ (hs i j h1 h2 h3 h4) (al j h4).2)
theorem aC6 (O:Ord lt){p:Array Nat}{n:Nat}(h1:1<=n)(h:Dsc lt p n)(hl:le lt (g p n) (g p (n-1))):Dsc lt p (n+1):=λi j hij hj=>by
 by_cases e:j=n
 ·subst e;by_cases e2:i=j
  ·subst e2;exact O.refl _
  ·exact O.trans _ _ _ hl (h i (j-1) (by omega) (by omega))
 ·exact h i j hij (by omega)
theorem aO1 (O:Ord lt){P:Nat->Prop}{N:Nat}:∀(f:Nat) (p:Array Nat) (n q:Nat),1<=n->n+f<=N->N<=p.size->(∀j,j<N->P (g p j))->Dsc lt p n->Same lt p n q ->
  ∃p' m q',ev lt (kas_desc f p n q)=(p',m,q')/\p'.Perm p/\n<=m/\m<=n+f/\Dsc lt p' m/\Same lt p' m q'/\(∀j,j<N->P (g p' j))/\S0 lt P (kas_desc f p n q)
 | 0,p,n,q,h1,hN,hz,hP,h,hs=>⟨p,n,q,rfl,Array.Perm.refl _,Aa7 _,Aa7 _,h,hs,hP,trivial⟩
 | f+1,p,n,q,h1,hN,hz,hP,h,hs=>by
  have sh:∀c:Bool,lt (g p n) (g p (n-1))=c->ev lt (kas_desc (f+1) p n q)=ev lt (if c=true then(if q>0 then kas_desc f (kas_rev p (n-(q+1)) n) (n+1) 0 else kas_desc f p (n+1) 0)
    else .ask (g p (n-1)) (g p n) λd=>if d=true then .ret (p,n,q) else kas_desc f p (n+1) (q+1)):=λc e=>by subst e;rfl
  have sa:∀c:Bool,lt (g p n) (g p (n-1))=c->S0 lt P (if c=true then(if q>0 then kas_desc f (kas_rev p (n-(q+1)) n) (n+1) 0 else kas_desc f p (n+1) 0)
    else .ask (g p (n-1)) (g p n) λd=>if d=true then .ret (p,n,q) else kas_desc f p (n+1) (q+1))->S0 lt P (kas_desc (f+1) p n q):=λc e hh=>by subst e;exact⟨hP n (by omega),hP (n-1) (by omega),hh⟩
  cases hc:lt (g p n) (g p (n-1)) with
  | true=>
   rw[sh true hc,if_pos rfl];have sa:=sa true hc;rw[if_pos rfl]at sa;by_cases hq:q>0
   ·rw[if_pos hq]at sa ⊢;obtain ⟨d1,d2,d3⟩:=bU5 O (by omega) h hs
    have hl:le lt (g (kas_rev p (n-(q+1)) n) n) (g (kas_rev p (n-(q+1)) n) (n-1)):=by
     rw[d2 n (Aa7 _),aX6 (by omega),if_pos (by omega)]
     exact O.trans _ _ _ (O.of_lt hc) (hs.2 _ _ (by omega) (by omega) (by have:=hs.1;omega) (by have:=hs.1;omega))
    obtain ⟨p',m,q',a0,a1,a2,a3,a4,a5,a6,a7⟩:=aO1 O (P:=P) (N:=N) f (kas_rev p (n-(q+1)) n) (n+1) 0 (by omega) (by omega) (by unfold kas_rev;rw[mirror_size];exact hz) (λj hj=>by
     rw[aX6 (by omega)]
     split
     ·exact hP _ (by have:=hs.1;omega)
     ·exact hP j hj) (aC6 O h1 d1 hl) ⟨by omega,λi j b1 b2 b3 b4=>by
      have:i=j:=by omega
      subst this;exact O.refl _⟩
    exact⟨p',m,q',a0,a1.trans (mirror_perm _ _ _ _),by omega,by omega,a4,a5,a6,sa a7⟩
   ·rw[if_neg hq]at sa ⊢;obtain ⟨p',m,q',a0,a1,a2,a3,a4,a5,a6,a7⟩:=aO1 O (P:=P) (N:=N) f p (n+1) 0 (by omega) (by omega) hz hP (aC6 O h1 h (O.of_lt hc)) ⟨by omega,λi j b1 b2 b3 b4=>by
      have:i=j:=by omega
      subst this;exact O.refl _⟩
    exact⟨p',m,q',a0,a1,by omega,by omega,a4,a5,a6,sa a7⟩
  | false=>
   rw[sh false hc,if_neg Bool.false_ne_true];have sa:=sa false hc;rw[if_neg Bool.false_ne_true]at sa;cases hd:lt (g p (n-1)) (g p n) with
   | true=>
    refine⟨p,n,q,?_,Array.Perm.refl _,Aa7 _,by omega,h,hs,hP,sa ⟨hP _ (by omega),hP _ (by omega),?_⟩⟩
    ·show ev lt (if lt (g p (n-1)) (g p n)=true then _ else _)=_
     rw[hd];rfl
    ·show S0 lt P (if lt (g p (n-1)) (g p n)=true then _ else _)
     rw[hd];exact trivial
   | false=>
    obtain ⟨hq,hs⟩:=hs;have s':Same lt p (n+1) (q+1):=⟨by omega,λi j b1 b2 b3 b4=>by
     have up:∀i,n-1-q<=i->i<n+1->le lt (g p i) (g p (n-1))/\le lt (g p (n-1)) (g p i):=λi c1 c2=>by
      by_cases e:i=n
      ·subst e;exact⟨hd,hc⟩
      ·exact⟨hs i (n-1) c1 (by omega) (by omega) (by omega),hs (n-1) i (by omega) (by omega) c1 (by omega)⟩
     exact O.trans _ _ _ (up i (by omega) b2).1 (up j (by omega) b4).2⟩
    obtain ⟨p',m,q',a0,a1,a2,a3,a4,a5,a6,a7⟩:=aO1 O (P:=P) (N:=N) f p (n+1) (q+1) (by omega) (by omega) hz hP (aC6 O h1 h hd) s'
    refine⟨p',m,q',?_,a1,by omega,by omega,a4,a5,a6,sa ⟨hP _ (by omega),hP _ (by omega),?_⟩⟩
    ·show ev lt (if lt (g p (n-1)) (g p n)=true then _ else _)=_
     rw[hd];exact a0
    ·show S0 lt P (if lt (g p (n-1)) (g p n)=true then _ else _)
     rw[hd];exact a7
theorem cX9 (O:Ord lt){P:Nat->Prop}{p:Array Nat}{N:Nat}(hP:∀j,j<N->P (g p j)){f n:Nat}(h1:1<=n)(hN:n+f<=N)(h:Srt lt p n):S0 lt P (kas_asc p f n):=by
 obtain ⟨_,_,_,_,_,_,a⟩:=bD7 O f n h1 hN h;have up:∀{α:Type} (t:KasT α),S0 lt (λi=>∃j,j<N/\i=g p j) t->S0 lt P t:=λ{α} t=>by
  induction t with
  | ret _=>exact λz=>z
  | ask i j k ih=>
   rintro ⟨⟨a,ha,rfl⟩,⟨b,hb,rfl⟩,z⟩;exact⟨hP a ha,hP b hb,ih _ z⟩
 exact up _ a
theorem bJ1 (O:Ord lt){P:Nat->Prop}{p:Array Nat}{n N:Nat}(h1:1<=n)(hn:n<=N)(hz:N<=p.size)(hP:∀j,j<N->P (g p j))(h:Dsc lt p n) :
  ∃m p',ev lt (kas_tail3 n N p)=(m,p')/\p'.Perm p/\1<=m/\m<=N/\Srt lt p' m/\(∀j,j<N->P (g p' j))/\S0 lt P (kas_tail3 n N p):=by
 have e:∀k,g (kas_rev p 0 n) k=if 0<=k/\k<n then g p (0+n-1-k) else g p k:=aX6 (by omega)
 have s:Srt lt (kas_rev p 0 n) n:=λi j hij hj=>by
  rw[e,e,if_pos (by omega),if_pos (by omega)]
  exact h _ _ (by omega) (by omega)
 have hP':∀j,j<N->P (g (kas_rev p 0 n) j):=λj hj=>by
  rw[e];split
  ·exact hP _ (by omega)
  ·exact hP j hj
 obtain ⟨m,a0,a1,a2,a3,_,_⟩:=bD7 O (p:=kas_rev p 0 n) (N:=N) (N-n) n h1 (by omega) s
 refine⟨m,kas_rev p 0 n,?_,mirror_perm _ _ _ _,by omega,by omega,a3,hP',S9 (cX9 O hP' h1 (by omega) s) trivial⟩
 unfold kas_tail3;rw[Z6,a0];rfl
theorem aM6 (O:Ord lt){P:Nat->Prop}{p:Array Nat}{n N:Nat}(h1:1<=n)(hn:n+1<=N)(hz:N<=p.size)(hP:∀j,j<N->P (g p j))(h:Dsc lt p (n+1)) :
  ∃m p',ev lt (kas_descPart n N p)=(m,p')/\p'.Perm p/\1<=m/\m<=N/\Srt lt p' m/\(∀j,j<N->P (g p' j))/\S0 lt P (kas_descPart n N p):=by
 obtain ⟨p1,m1,q1,a0,a1,a2,a3,a4,a5,a6,a7⟩:=aO1 O (P:=P) (N:=N) (N-(n+1)) p (n+1) 0 (by omega) (by omega) hz hP h ⟨by omega,λi j b1 b2 b3 b4=>by
  have:i=j:=by omega
  subst this;exact O.refl _⟩
 have z1:N<=p1.size:=by rw[a1.size_eq];exact hz
 unfold kas_descPart;by_cases hq:q1>0
 ·obtain ⟨d1,d2,d3⟩:=bU5 O (by omega) a4 a5
  have hP':∀j,j<N->P (g (kas_rev p1 (m1-(q1+1)) m1) j):=λj hj=>by
   rw[aX6 (by omega)]
   split
   ·exact a6 _ (by have:=a5.1;omega)
   ·exact a6 j hj
  obtain ⟨m,p',b0,b1,b2,b3,b4,b5,b6⟩:=bJ1 O (P:=P) (p:=kas_rev p1 (m1-(q1+1)) m1) (n:=m1) (N:=N) (by omega) (by omega) (by unfold kas_rev;rw[mirror_size];exact z1) hP' d1
  refine⟨m,p',?_,b1.trans ((mirror_perm _ _ _ _).trans a1),b2,b3,b4,b5,S9 a7 ?_⟩
  ·rw[Z6,a0];show ev lt (if q1>0 then _ else _)=_;rw[if_pos hq];exact b0
  ·rw[a0];show S0 lt P (if q1>0 then _ else _);rw[if_pos hq];exact b6
 ·obtain ⟨m,p',b0,b1,b2,b3,b4,b5,b6⟩:=bJ1 O (P:=P) (p:=p1) (n:=m1) (N:=N) (by omega) (by omega) z1 a6 a4
  refine⟨m,p',?_,b1.trans a1,b2,b3,b4,b5,S9 a7 ?_⟩
  ·rw[Z6,a0];show ev lt (if q1>0 then _ else _)=_;rw[if_neg hq];exact b0
  ·rw[a0];show S0 lt P (if q1>0 then _ else _);rw[if_neg hq];exact b6
theorem cH6 (O:Ord lt){P:Nat->Prop}{p:Array Nat}{N:Nat}(h1:1<=N)(hz:N<=p.size)(hP:∀j,j<N->P (g p j)) :
  ∃m p',ev lt (kas_count N p)=(m,p')/\p'.Perm p/\1<=m/\m<=N/\Srt lt p' m/\(∀j,j<N->P (g p' j))/\S0 lt P (kas_count N p):=by
 have s1:Srt lt p 1:=λi j hij hj=>by
  have:i=j:=by omega
  subst this;exact O.refl _
 obtain ⟨n,a0,a1,a2,a3,a4,_⟩:=bD7 O (p:=p) (N:=N) (N-1) 1 (by omega) (by omega) s1
 have aP:=cX9 O hP (f:=N-1) (n:=1) (by omega) (by omega) s1
 unfold kas_count;have wrap:∀{t:KasT (Nat×Array Nat)},(if(n==N)=true then KasT.ret (n,p) else if n>1 then .ask (p.getD 0 0) (p.getD (n-1) 0) λc=>if c=true then .ret (n,p) else kas_descPart n N (kas_rev p 0 n) else kas_descPart n N p)=t ->
   (∃m p',ev lt t=(m,p')/\p'.Perm p/\1<=m/\m<=N/\Srt lt p' m/\(∀j,j<N->P (g p' j))/\S0 lt P t) ->
   ∃m p',ev lt ((kas_asc p (N-1) 1).bind λn=>if(n==N)=true then .ret (n,p) else if n>1 then .ask (p.getD 0 0) (p.getD (n-1) 0) λc=>if c=true then .ret (n,p) else kas_descPart n N (kas_rev p 0 n) else kas_descPart n N p)=(m,p')/\p'.Perm p/\1<=m/\m<=N/\Srt lt p' m/\(∀j,j<N->P (g p' j)) /\
    S0 lt P ((kas_asc p (N-1) 1).bind λn=>if(n==N)=true then .ret (n,p) else if n>1 then .ask (p.getD 0 0) (p.getD (n-1) 0) λc=>if c=true then .ret (n,p) else kas_descPart n N (kas_rev p 0 n) else kas_descPart n N p):=λ{t} e h=>by
  obtain ⟨m,p',b0,b1,b2,b3,b4,b5,b6⟩:=h;refine⟨m,p',?_,b1,b2,b3,b4,b5,S9 aP ?_⟩
  ·rw[Z6,a0,e];exact b0
  ·rw[a0,e];exact b6
 refine wrap rfl ?_;by_cases e:n=N
 ·rw[if_pos (by simp[e])]
  exact⟨n,p,rfl,Array.Perm.refl _,a1,by omega,a3,hP,trivial⟩
 ·rw[if_neg (by simp[e])]
  have hd:=a4 (by omega)
  by_cases h2:n>1
  ·rw[if_pos h2];cases hc:lt (g p 0) (g p (n-1)) with
   | true=>
    refine⟨n,p,?_,Array.Perm.refl _,a1,by omega,a3,hP,hP 0 (by omega),hP (n-1) (by omega),?_⟩
    ·show ev lt (if lt (g p 0) (g p (n-1))=true then _ else _)=_
     rw[hc];rfl
    ·show S0 lt P (if lt (g p 0) (g p (n-1))=true then _ else _)
     rw[hc];exact trivial
   | false=>
    have al:∀i j,i<n->j<n->le lt (g p i) (g p j):=λi j hi hj=>O.trans _ _ _ (a3 i (n-1) (by omega) (by omega)) (O.trans _ _ _ hc (a3 0 j (by omega) hj))
    have er:∀k,g (kas_rev p 0 n) k=if 0<=k/\k<n then g p (0+n-1-k) else g p k:=aX6 (by omega)
    have ds:Dsc lt (kas_rev p 0 n) (n+1):=by
     refine aC6 O a1 (λi j hij hj=>?_) ?_
     ·rw[er,er,if_pos (by omega),if_pos (by omega)]
      exact al _ _ (by omega) (by omega)
     ·rw[er,er,if_neg (by omega),if_pos (by omega)]
      exact O.trans _ _ _ (O.of_lt hd) (al _ _ (by omega) (by omega))
    have hP':∀j,j<N->P (g (kas_rev p 0 n) j):=λj hj=>by
     rw[er];split
     ·exact hP _ (by omega)
     ·exact hP j hj
    obtain ⟨m,p',b0,b1,b2,b3,b4,b5,b6⟩:=aM6 O (P:=P) (p:=kas_rev p 0 n) (n:=n) (N:=N) a1 (by omega) (by unfold kas_rev;rw[mirror_size];exact hz) hP' ds
    refine⟨m,p',?_,b1.trans (mirror_perm _ _ _ _),b2,b3,b4,b5,hP 0 (by omega),hP (n-1) (by omega),?_⟩
    ·show ev lt (if lt (g p 0) (g p (n-1))=true then _ else _)=_
     rw[hc];exact b0
    ·show S0 lt P (if lt (g p 0) (g p (n-1))=true then _ else _)
     rw[hc];exact b6
  ·rw[if_neg h2];have n1:n=1:=by omega
   subst n1;exact aM6 O (Aa7 _) (by omega) hz hP (aC6 O (Aa7 _) (λi j hij hj=>by
    have:i=j:=by omega
    subst this;exact O.refl _) (O.of_lt hd))
theorem aT3 (O:Ord lt){P:Nat->Prop}{p:Array Nat}{k N:Nat}(hk:k<N)(hP:∀j,j<N->P (g p j))(hs:Srt lt p k):∀(f l r:Nat),l<=r->r<=k->r-l<=f->(∀i,i<l->le lt (g p i) (g p k))->(∀i,r<=i->i<k->lt (g p k) (g p i)=true) ->
  ∃m,ev lt (kas_place p k f l r)=m/\m<=k/\(∀i,i<m->le lt (g p i) (g p k))/\(∀i,m<=i->i<k->lt (g p k) (g p i)=true)/\S0 lt P (kas_place p k f l r)
 | 0,l,r,h1,h2,h3,h4,h5=>⟨l,rfl,by omega,h4,λi a b=>h5 i (by omega) b,trivial⟩
 | f+1,l,r,h1,h2,h3,h4,h5=>by
  unfold kas_place;by_cases hlr:l≥r
  ·rw[if_pos hlr];exact⟨l,rfl,by omega,h4,λi a b=>h5 i (by omega) b,trivial⟩
  ·rw[if_neg hlr];cases hc:lt (g p k) (g p ((l+r) / 2)) with
   | true=>
    obtain ⟨m,a0,a1,a2,a3,a4⟩:=aT3 O hk hP hs f l ((l+r) / 2) (by omega) (by omega) (by omega) h4 (λi b1 b2=>by
     cases e:lt (g p k) (g p i) with
     | true=>rfl
     | false=>
      have:lt (g p k) (g p ((l+r) / 2))=false:=O.trans _ _ _ (hs _ _ b1 b2) e
      rw[hc]at this;cases this)
    refine⟨m,?_,a1,a2,a3,hP k hk,hP _ (by omega),?_⟩
    ·show ev lt (if lt (g p k) (g p ((l+r) / 2))=true then _ else _)=_
     rw[hc];exact a0
    ·show S0 lt P (if lt (g p k) (g p ((l+r) / 2))=true then _ else _)
     rw[hc];exact a4
   | false=>
    obtain ⟨m,a0,a1,a2,a3,a4⟩:=aT3 O hk hP hs f ((l+r) / 2+1) r (by omega) (by omega) (by omega) (λi b1=>O.trans _ _ _ (hs i ((l+r) / 2) (by omega) (by omega)) hc) h5
    refine⟨m,?_,a1,a2,a3,hP k hk,hP _ (by omega),?_⟩
    ·show ev lt (if lt (g p k) (g p ((l+r) / 2))=true then _ else _)=_
     rw[hc];exact a0
    ·show S0 lt P (if lt (g p k) (g p ((l+r) / 2))=true then _ else _)
     rw[hc];exact a4
theorem cQ8 (O:Ord lt){P:Nat->Prop}{N:Nat}:∀(f:Nat) (p:Array Nat) (k:Nat),k+f=N->N<=p.size->(∀j,j<N->P (g p j))->Srt lt p k ->
  ∃p',ev lt (kas_bin f p k)=p'/\p'.Perm p/\Srt lt p' N/\S0 lt P (kas_bin f p k)
 | 0,p,k,hN,hz,hP,h=>⟨p,rfl,Array.Perm.refl _,(show k=N from hN)▸h,trivial⟩
 | f+1,p,k,hN,hz,hP,h=>by
  obtain ⟨l,a0,a1,a2,a3,a4⟩:=aT3 O (k:=k) (N:=N) (by omega) hP h k 0 k (by omega) (by omega) (by omega) (λi z=>absurd z (Nat.not_lt_zero _)) (λi a b=>by omega)
  have e:∀i,g (bubble p k (k-l)) i=if i=l then g p k else if l<i/\i<=k then g p (i-1) else g p i:=dL8 (by omega) a1
  have s':Srt lt (bubble p k (k-l)) (k+1):=λi j hij hj=>by
   rw[e,e];by_cases il:i=l
   ·rw[if_pos il];by_cases jl:j=l
    ·rw[if_pos jl];exact O.refl _
    ·rw[if_neg jl,if_pos (by omega)]
     exact O.of_lt (a3 _ (by omega) (by omega))
   ·rw[if_neg il];by_cases jl:j=l
    ·rw[if_pos jl,if_neg (by omega)]
     exact a2 i (by omega)
    ·rw[if_neg jl];by_cases c1:l<i/\i<=k
     ·rw[if_pos c1,if_pos (by omega)]
      exact h _ _ (by omega) (by omega)
     ·rw[if_neg c1];by_cases c2:l<j/\j<=k
      ·rw[if_pos c2];exact h _ _ (by omega) (by omega)
      ·rw[if_neg c2];exact h _ _ hij (by omega)
  have hP':∀j,j<N->P (g (bubble p k (k-l)) j):=λj hj=>by
   rw[e]
   repeat' split
   all_goals exact hP _ (by omega)
  obtain ⟨p',b0,b1,b2,b3⟩:=cQ8 O (P:=P) (N:=N) f (bubble p k (k-l)) (k+1) (by omega) (by rw[bubble_size];exact hz) hP' s'
  refine⟨p',?_,b1.trans (bubble_perm _ _ _),b2,?_⟩
  ·show ev lt ((kas_place p k k 0 k).bind λl=>kas_bin f (bubble p k (k-l)) (k+1))=p'
   rw[Z6,a0];exact b0
  ·show S0 lt P ((kas_place p k k 0 k).bind λl=>kas_bin f (bubble p k (k-l)) (k+1))
   exact S9 a4 (by rw[a0];exact b3)
theorem bX9 (O:Ord lt){N:Nat}(h1:1<=N):∃p',ev lt (kas_sort N)=p'/\p'.Perm (List.toArray (List.range N))/\Srt lt p' N/\S0 lt (λi=>i<N) (kas_sort N):=by
 have hg:∀j,j<N->g (List.toArray (List.range N)) j<N:=λj hj=>by
  rw[aN6];simp[hj]
 obtain ⟨m,p1,a0,a1,a2,a3,a4,a5,a6⟩:=cH6 O (P:=λi=>i<N) (p:=List.toArray (List.range N)) (N:=N) h1 (by simp) hg
 have z1:N<=p1.size:=by rw[a1.size_eq];simp
 unfold kas_sort;by_cases hm:m<N
 ·have hx:max m 1=m:=by omega
  obtain ⟨p',b0,b1,b2,b3⟩:=cQ8 O (P:=λi=>i<N) (N:=N) (N-m) p1 m (by omega) z1 a5 a4
  refine⟨p',?_,b1.trans a1,b2,S9 a6 ?_⟩
  ·rw[Z6,a0];dsimp only;rw[if_pos hm,hx];exact b0
  ·rw[a0];dsimp only;rw[if_pos hm,hx];exact b3
 ·have:m=N:=by omega
  refine⟨p1,?_,a1,this▸a4,S9 a6 ?_⟩
  ·rw[Z6,a0];dsimp only;rw[if_neg hm];rfl
  ·rw[a0];dsimp only;rw[if_neg hm];exact trivial
end
end LS
namespace LV
open PySem PySem.Spec PyProof.Rows L2 PySem.W Att
section
variable {P:Program}{w:World}{A:Around}{s:Shared}{Q:Bool->Shared->Prop}
theorem aG9 (a b:Int)(as bs:List Int):HT.Y0 (a::as) (b::bs)=if a=b then HT.Y0 as bs else decide (a<b):=rfl
theorem aC4:∀{xs ys:List Value} {as bs:List Int} (i:Nat),IntsAre xs as->IntsAre ys bs->Q (HT.Y0 as bs) s->KatLex P w A true (decide (as.length<bs.length)) Q (xs.zip ys) i s
 | _,_,_,_,i,.nil,.nil,h=>h
 | _,_,_,_,i,.nil,@IntsAre.cons n t vs ns r,h=>by
  have e:decide (([]:List Int).length<(n::ns).length)=true:=by simp
  show Q (decide (([]:List Int).length<(n::ns).length)) s
  rw[e];exact h
 | _,_,_,_,i,@IntsAre.cons n t vs ns r,.nil,h=>by
  have e:decide ((n::ns).length<([]:List Int).length)=false:=by simp
  show Q (decide ((n::ns).length<([]:List Int).length)) s
  rw[e];exact h
 | _,_,_,_,i,@IntsAre.cons a t xs as ra,@IntsAre.cons b u ys bs rb,h=>by
  rw[aG9]at h;refine kat_cons ?_;refine SeqAt.EqAt.int_int a t b u P w _ _ ?_;by_cases e:a=b
  ·subst e;rw[if_pos rfl]at h
   have:(a==a)=true:=by simp
   rw[this];refine kat_yes ?_;have e2:decide ((a::as).length<(a::bs).length)=decide (as.length<bs.length):=by simp
   rw[e2];exact aC4 (i+1) ra rb h
  ·rw[if_neg e]at h
   have:(a==b)=false:=by simpa using e
   rw[this];refine kat_no ?_;cases hb:(true&&i==0) with
   | true=>exact oneLt_int h
   | false=>exact kat_one _ _ (lt_int h)
theorem aR7:∀a b:List Int,HT.Y0 a b=true->HT.Y0 b a=false
 | [],[],h=>by cases h
 | [],_::_,_=>rfl
 | _::_,[],h=>by cases h
 | x::xs,y::ys,h=>by
  rw[aG9]at h ⊢;by_cases e:x=y
  ·subst e;rw[if_pos rfl]at h ⊢;exact aR7 xs ys h
  ·rw[if_neg e]at h;rw[if_neg (λz=>e z.symm)]
   have:=of_decide_eq_true h
   exact decide_eq_false (by omega)
def H9 (a b:List Int):Prop:=HT.Y0 b a=false
theorem aD0:∀a b c:List Int,H9 a b->H9 b c->H9 a c
 | [],_,[],_,_=>rfl
 | [],_,_::_,_,_=>rfl
 | _::_,[],_,h,_=>by cases h
 | _::_,_::_,[],_,h=>by cases h
 | x::xs,y::ys,z::zs,h1,h2=>by
  unfold H9 at *;rw[aG9]at *;by_cases e1:y=x
  ·subst e1;rw[if_pos rfl]at h1;by_cases e2:z=y
   ·subst e2;rw[if_pos rfl]at h2 ⊢;exact aD0 xs ys zs h1 h2
   ·rw[if_neg e2]at h2 ⊢;exact h2
  ·rw[if_neg e1]at h1;have h1:=of_decide_eq_false h1;by_cases e2:z=y
   ·subst e2;rw[if_neg e1];exact decide_eq_false h1
   ·rw[if_neg e2]at h2;have h2:=of_decide_eq_false h2;rw[if_neg (by omega)]
    exact decide_eq_false (by omega)
theorem aR9:∀a b:List Int,H9 a b->H9 b a->a=b
 | [],[],_,_=>rfl
 | [],_::_,_,h=>by cases h
 | _::_,[],h,_=>by cases h
 | x::xs,y::ys,h1,h2=>by
  unfold H9 at *;rw[aG9]at *;by_cases e:x=y
  ·subst e;rw[if_pos rfl]at h1 h2;rw[aR9 xs ys h1 h2]
  ·rw[if_neg (λz=>e z.symm)]at h1
   rw[if_neg e]at h2;have h1:=of_decide_eq_false h1;have h2:=of_decide_eq_false h2;omega
theorem aX9 (a b:List Int):H9 a b\/H9 b a:=by
 unfold H9;cases h:HT.Y0 b a with
 | false=>exact .inl rfl
 | true=>exact .inr (aR7 b a h)
theorem bY6 (ts:Nat->List Int):LS.Ord λi j=>HT.Y0 (ts i) (ts j):=
 ⟨λa b h=>aR7 _ _ h,λa b c h1 h2=>aD0 _ _ _ h1 h2⟩
def TupsAt (h:Heap):List Value->List (List Int)->Prop
 | [],[]=>True
 | v::vs,t::ts=>(∃a its,v=.ref a/\IsTup h a its/\IntsAre its.toList t/\t≠[])/\TupsAt h vs ts
 | _,_=>False
theorem TupsAt.length {h:Heap}:∀{vs:List Value} {ts:List (List Int)},TupsAt h vs ts->vs.length=ts.length
 | [],[],_=>rfl
 | _::_,_::_,r=>by simp[TupsAt.length r.2]
 | [],_::_,r=>r.elim
 | _::_,[],r=>r.elim
theorem TupsAt.get {h:Heap}:∀{vs:List Value} {ts:List (List Int)} {i:Nat},TupsAt h vs ts->i<ts.length->∃a its,vs.getD i .none=.ref a/\IsTup h a its/\IntsAre its.toList (ts.getD i [])
 | v::vs,t::ts,0,⟨⟨a,its,e,h1,h2,_⟩,_⟩,_=>⟨a,its,e,h1,h2⟩
 | v::vs,t::ts,i+1,⟨_,r⟩,hi=>TupsAt.get (i:=i) r (by simpa using hi)
 | [],[],_,_,hi=>by simp at hi
 | [],_::_,_,r,_=>r.elim
 | _::_,[],_,r,_=>r.elim
theorem TupsAt.keep {h h':Heap}:∀{vs:List Value} {ts:List (List Int)},TupsAt h vs ts->(∀a its,Value.ref a∈vs->IsTup h a its->IsTup h' a its)->TupsAt h' vs ts
 | [],[],_,_=>trivial
 | v::vs,t::ts,⟨⟨a,its,e,h1,h2,h3⟩,r⟩,k=>⟨⟨a,its,e,k a its (by rw[e];simp) h1,h2,h3⟩,r.keep λa its ha=>k a its (Ad3 _ ha)⟩
 | [],_::_,r,_=>r.elim
 | _::_,[],r,_=>r.elim
theorem TupsAt.kat {h:Heap}:∀{vs:List Value} {ts:List (List Int)},TupsAt h vs ts->∃fs,KatTups h vs fs/\fs.length=vs.length/\∀f∈fs,∃i t,f=Value.int i t
 | [],[],_=>⟨[],.nil,rfl,by simp⟩
 | v::vs,t::ts,⟨⟨a,its,e,⟨o,ho,hc,n,hd⟩,h2,h3⟩,r⟩=>by
  obtain ⟨fs,k1,k2,k3⟩:=r.kat;subst e;obtain ⟨l⟩:=its;cases h2 with
  | nil=>exact absurd rfl h3
  | cons i u r'=>
   refine⟨.int i u::fs,.cons ho hc hd (by simp) k1,by simp[k2],λf hf=>?_⟩
   rcases Aa1.mp hf with rfl | hf
   ·exact⟨_,_,rfl⟩
   ·exact k3 f hf
 | [],_::_,r=>r.elim
 | _::_,[],r=>r.elim
end
section
variable {P:Program}{w:World}{A:Around}{s:Shared}{E:Value->Shared->Prop}
theorem bJ7 {L l:Addr}{m:Str->Option Value}{vs:List Value}{ts:List (List Int)}{Q:Value->Shared->Prop}(hL:s.heap.Ns L m)(hl:s.heap.IsList l vs.toArray)(ht:TupsAt s.heap vs ts)(hneL:∀a,Value.ref a∈vs->a≠L)(h2:2<=vs.length)(h64:vs.length<64)
  (h:∀h' D (p:List Nat) c,h'.Ns L m->(∀b o,b≠L->s.heap.get? b=some o->h'.get? b=some o)->s.heap.get? D=none->h'.get? D=some {cls:=.type "list",data:=.seq (p.map λi=>vs.getD i .none).toArray c}->p.Perm (List.range vs.length)->(p.map λi=>ts.getD i []).Pairwise H9->Q (.ref D) {s with heap:=h'}) :
  wpAny (model P w) A (call (.builtin "sorted") [.ref l]) Q E s:=by
 have hlen:=ht.length
 refine kat_sorted (cQ1 hL) bM9 hl h2 h64 λD e1 h' F' N' hD=>?_
 have kp:∀b o,b≠L->s.heap.get? b=some o->h'.get? b=some o:=λb o hb e=>(N' (b,o) (Ad3 _ (S7 hb (S1 _ _) e))).1
 have DL:D≠L:=(N' _ List.mem_cons_self).2.1
 have hDs:s.heap.get? D=none:=by
  cases e:s.heap.get? D with
  | none=>rfl
  | some o=>exact absurd (hD (D,o) (S7 DL (S1 _ _) e)) (Ad7 _)
 have ht':TupsAt h' vs ts:=ht.keep λa its ha ⟨o,e,r⟩=>⟨o,kp a o (hneL a ha) e,r⟩
 obtain ⟨fs,k1,k2,k3⟩:=ht'.kat;refine kat_kind (s:={s with heap:=h'}) k1 (by omega) (T:=.type "int") (λv hv=>?_) (by decide) ?_
 ·obtain ⟨i,t,rfl⟩:=k3 v hv;exact λA Q E s _ q=>wpAny_of_eq (show typeOf (Value.int i t)=pure (.type "int") from rfl) q
 have et:(Value.type "int" != Value.type "tuple")=true:=by decide
 rw[et];obtain ⟨p',e0,hp,hs,ha⟩:=LS.bX9 (bY6 λi=>ts.getD i []) (N:=vs.length) (by omega)
 refine LS.cS3 (P:=λi=>i<vs.length) (lt:=λi j=>HT.Y0 (ts.getD i []) (ts.getD j [])) (λi j C hi hj hC=>?_) _ ha ?_
 ·obtain ⟨a,its,e,⟨o,h1,c1,n1,d1⟩,r1⟩:=ht'.get (i:=i) (by omega)
  obtain ⟨a',its',e',⟨o',h1',c1',n1',d1'⟩,r1'⟩:=ht'.get (i:=j) (by omega)
  unfold kas_ask;rw[e,e'];refine kat_lt (s:={s with heap:=h'}) h1 d1 h1' d1' ?_
  have el:decide (its.size<its'.size)=decide ((ts.getD i []).length<(ts.getD j []).length):=by
   have a1:=r1.length;have a2:=r1'.length
   simp only[Array.length_toList]at a1 a2;rw[a1,a2]
  rw[el];exact aC4 0 r1 r1' hC
 ·rw[e0];refine KasFin.intro F' N' (.head λp hp z=>?_) λh'' c F'' N''=>?_
  ·have:=hD p hp
   rw[z]at this;exact absurd this (Ad7 _)
  ·have kp2:∀b o,b≠L->s.heap.get? b=some o->h''.get? b=some o:=λb o hb e=>(N'' (b,o) (Ad3 _ (S7 hb (S1 _ _) e))).1
   have hpl:p'.toList.Perm (List.range vs.length):=by simpa using(Array.perm_iff_toList_perm.mp hp)
   refine h h'' D p'.toList c F''.ns kp2 hDs (N'' _ List.mem_cons_self).1 hpl ?_;rw[Ad8,List.pairwise_iff_getElem];intro i j hi hj hij;have hz:p'.toList.length=vs.length:=by rw[hpl.length_eq];simp
   have:=hs i j (Nat.le_of_lt hij) (by omega)
   unfold LS.le at this;rw[LS.aN6,LS.aN6]at this;have hi':i<p'.size:=by simpa using hi
   have hj':j<p'.size:=by simpa using hj
   simp only[Array.getElem?_eq_getElem hi',Array.getElem?_eq_getElem hj',Option.getD_some]at this;unfold H9;simpa using this
end
section
variable {P:Program}{w:World}{A:Around}{s:Shared}{E:Value->Shared->Prop}
theorem aN3 {a:Addr}{vs:List Value}{n:Nat}{P':PySem.Fin->Shared->Prop}(ho:s.heap.get? a=some (seqObj "list" vs.toArray n))(h2:vs.length<2)
  (h:P' (.done (.ret .none)) {s with heap:=sortedHeap s.heap a vs vs.toArray}):wpAny (model P w) A (Builtin.«list.sort» ⟨[.ref a],[]⟩) P' E s:=by
 rw[list_sort_plain];have ha:a<s.heap.objs.size:=Ab3 ho;refine wpAny_bind (listItems_at ho rfl ?_);refine wpAny_bind (listUpdate_at ho rfl ?_);obtain ⟨e1,ho1⟩:∃e1,(s.heap.update a (Obj.mapSeq λ_ => #[])).get? a=some (seqObj "list" #[] e1):=⟨_,get?_update_seq ho (λ_ => #[])⟩
 refine wpAny_bind (seqEpoch_at ho1 rfl ?_);refine wpAny_bind (wpAny_newTuple ?_);refine wpAny_bind (wpAny_newList ?_);refine wpAny_holding ?_;have ho6:(((s.heap.update a (Obj.mapSeq λ_ => #[])).push (seqObj "tuple" vs.toArray 0)).push (seqObj "list" #[] 0)).get? a=some (seqObj "list" #[] e1):=by
  rw[Heap.get?_push_ne _ _ _ (by rw[size_push',Heap.size_update];exact Ab9 (Nat.lt_succ_of_lt ha)),Heap.get?_push_ne _ _ _ (by rw[Heap.size_update];exact Ab9 ha)]
  exact ho1
 show wpAny (model P w) A _ P' E {s with heap:=((s.heap.update a (Obj.mapSeq λ_ => #[])).push (seqObj "tuple" vs.toArray 0)).push (seqObj "list" #[] 0)}
 dsimp only
 have hsz:vs.toArray.size<2:=by simpa using h2
 rw[if_pos hsz,if_pos hsz];refine wpAny_bind (wpAny_pure ?_);rw[StateT.run_pure];refine wpAny_bind (wpAny_pure ?_);dsimp only;refine wpAny_bind (seqEpoch_at ho6 rfl ?_);refine wpAny_bind (listUpdate_at ho6 rfl ?_ (hsz2:=by rw[Array.size_map];show(pairsOf vs).size<=_;rw[pairsOf_size,sizeLine_eq];omega))
 simp only[bne_self_eq_false,Bool.false_eq_true,if_false];refine wpAny_pure ?_;have e:(arrOf (SortSt.mk' general' (vs.toArray.zip vs.toArray) #[] 7 none)).map (·.2)=vs.toArray:=by
  show(vs.toArray.zip vs.toArray).map (·.2)=vs.toArray
  refine Array.ext (by simp) λi h1 h2=>by simp
 have h':=h
 unfold sortedHeap at h';rw[e];exact h'
theorem bB8 {l:Addr}{vs:List Value}{Q:Value->Shared->Prop}(hl:s.heap.IsList l vs.toArray)(h2:vs.length<2)
  (h:Q (.ref (s.heap.objs.size+1)) {s with heap:=sortedAll s.heap vs vs.toArray}):wpAny (model P w) A (call (.builtin "sorted") [.ref l]) Q E s:=by
 refine Calls.call_function_entry kind_sorted plain_sorted entry_sorted (args_sorted1 _) ?_;unfold Builtin.«sorted»;refine wpAny_bind (m:=checkCount "sorted" 1 1 _) (wpAny_pure ?_);refine wpAny_bind (collect_list hl ?_ (by rw[sizeLine_eq];omega))
 refine wpAny_bind (wpAny_newList ?_ (by rw[sizeLine_eq];omega))
 have hsz:((s.heap.push (seqObj "list" #[] 0)).update s.heap.objs.size (Obj.mapSeq (· ++ vs.toArray))).objs.size=s.heap.objs.size+1:=by
  rw[Heap.size_update,size_push']
 have hoL:(((s.heap.push (seqObj "list" #[] 0)).update s.heap.objs.size (Obj.mapSeq (· ++ vs.toArray))).push (seqObj "list" vs.toArray 0)).get? (s.heap.objs.size+1)=some (seqObj "list" vs.toArray 0):=by
  rw[<- hsz];exact Ac3 _ rfl
 show wpAny _ _ _ _ _ {s with heap:=((s.heap.push (seqObj "list" #[] 0)).update s.heap.objs.size (Obj.mapSeq (· ++ vs.toArray))).push (seqObj "list" vs.toArray 0)}
 rw[hsz];refine wpAny_bind (wpAny_holding (wpAny_call_entry slot_list_sort ⟨_,hoL,rfl⟩ entry_list_sort (aN3 hoL h2 ⟨_,rfl,?_⟩) (args_list_sort _)));exact wpAny_pure ⟨_,rfl,h⟩
end
section
variable {X:Cx}
theorem Z5 {P:Program}{w:World}{H:Hp}{h:Heap}{a:Addr}:∀(o:HO),ObjOk P w H h a o->∃u,h.get? a=some u
 | .lst _,⟨_,its,n,_,e⟩=>⟨_,e⟩
 | .tup _,⟨_,its,_,o,e,_⟩=>⟨_,e⟩
 | .dK _,⟨_,_,vs,_,o,es,n,e,_⟩=>⟨_,e⟩
 | .dT _,⟨_,_,xs,_,o,es,ep,e,_⟩=>⟨_,e⟩
 | .set _ _,⟨o,es,ep,t,e,_⟩=>⟨_,e⟩
 | .ins _ _ _,⟨_,_,_,e,_⟩=>⟨_,e⟩
 | .own _,e=>e
 | .xd _,⟨mA,⟨o,h1⟩,_⟩=>by
  first
  | exact⟨_,h1.1⟩
  | (obtain ⟨_,_,h2,_⟩:=h1;exact⟨_,h2⟩)
  | (obtain ⟨_,h2,_⟩:=h1;exact⟨_,h2⟩)
 | .met _ _,e=>⟨_,e⟩
 | .rng _ _,⟨_,_,_,e⟩=>⟨_,e⟩
 | .frz _ _,⟨e,_⟩=>⟨_,e⟩
 | .tbl _,e=>⟨_,e⟩
 | .ext _,⟨_,e,_⟩=>e
theorem aF2 {pins:List (Addr×Obj)}{σ:L2.St}{H:Hp}{s:Shared}{h':Heap}{m:Str->Option Value}{D:Addr}{ys:List V}{its:List Value}{c:Nat}(I:Inv X pins σ H s)(hL:s.heap.Ns X.env.locals m)(hL':h'.Ns X.env.locals m)(kp:∀b o,b≠X.env.locals->s.heap.get? b=some o->h'.get? b=some o)
  (hD:s.heap.get? D=none) (e:h'.get? D=some {cls:=.type "list",data:=.seq its.toArray c}) (rv:Vals ys its) (hz:ys.length<=sizeLine):H D=none/\Inv X pins σ (upd H D (.lst ys)) {s with heap:=h'}:=by
 have HD:H D=none:=by
  cases q:H D with
  | none=>rfl
  | some o=>obtain ⟨u,hu⟩:=Z5 o (I.hok D o q);rw[hD]at hu;cases hu
 have nD:∀b o,s.heap.get? b=some o->b≠D:=λb o q z=>by rw[z,hD]at q;cases q
 have nH:∀b o,H b=some o->b≠D:=λb o q z=>by rw[z,HD]at q;cases q
 refine⟨HD,?_⟩;refine I.step (g':=s.gens) (d':=s.drawn) (t':=s.toks) (ch:=[]) (by simp) (λb o hb _ _ q _=>kp b o hb q) (λb o hb _ _ q _=>⟨o.slots,kp b o hb q⟩) (λb o _ q n=>by rw[B2 (nD b o q)];exact n) (λb o _ q=>?_)
  (λb xs q=>by rw[B2 (nH b _ q)];exact q) (λb o u q=>by rw[B2 (nH b _ q)];exact q) (λb ps q=>⟨#[],by rw[B2 (nH b _ q)];simpa using q⟩) (λm' hm'=>?_) (λb o q=>?_) I.bare
 ·by_cases hb:b=X.env.locals
  ·subst hb;obtain ⟨o',_,_,ho',_⟩:=hL';exact⟨o',ho'⟩
  ·exact⟨o,kp b o hb q⟩
 ·rw[hm'.eq_nsMap,<- hL.eq_nsMap];exact hL'
 ·by_cases hb:b=D
  ·subst hb;rw[B7]at q;cases q;exact⟨hz,its,c,rv,e⟩
  ·rw[B2 hb]at q;refine(I.hok b o q).stay (λc' v hc q'=>kp c' v ?_ q') (λc' q'=>by rw[B2 (nH c' _ q')];exact q') λc' xs q'=>by rw[B2 (nH c' _ q')];exact q'
   rcases hc with z | z
   ·rw[z];exact D0 q I.free
   ·exact D0 z I.free
end
def TupsV (K:PySem.W.Frag)(H:Hp):List V->List (List Int)->Prop
 | [],[]=>True
 | v::vs,t::ts=>(∃a,v=.ref a/\SqT K H a (t.map V.int)/\t≠[])/\TupsV K H vs ts
 | _,_=>False
theorem TupsV.length {K:PySem.W.Frag}{H:Hp}:∀{vs:List V} {ts:List (List Int)},TupsV K H vs ts->vs.length=ts.length
 | [],[],_=>rfl
 | _::_,_::_,r=>by simp[TupsV.length r.2]
 | [],_::_,r=>r.elim
 | _::_,[],r=>r.elim
section
variable {X:Cx}{pins:List (Addr×Obj)}{σ:L2.St}{H:Hp}{s:Shared}
theorem cS4 (I:Inv X pins σ H s){a:Addr}{xs:List V}(h:SqT X.K H a xs):a≠X.env.locals:=by
 rcases h with (h | ⟨o,h⟩) | ⟨o,its,n,hk,_⟩
 ·exact D0 h I.free
 ·exact D0 h I.free
 ·have:=Ab3 (I.mod.kin a o hk)
  exact Ab9 (Ab8 this (Nat.le_trans I.ok.bsz I.ok.above))
theorem bB1 (I:Inv X pins σ H s):∀{vs:List V} {ts:List (List Int)} {us:List Value},TupsV X.K H vs ts->Vals vs us->TupsAt s.heap us ts/\∀a,Value.ref a∈us->a≠X.env.locals
 | [],[],_,_,r=>by cases r;exact⟨trivial,λa h=>by simp at h⟩
 | v::vs,t::ts,_,⟨⟨a,e,sq,ne⟩,h⟩,r=>by
  subst e;cases r with
  | cons r1 r2=>
   cases r1
   obtain ⟨h1,h2⟩:=bB1 I h r2;obtain ⟨its,rv,p,_⟩:=I.tuple sq;refine⟨⟨⟨a,its.toArray,rfl,p,by simpa using V2 rv,ne⟩,h1⟩,λb hb=>?_⟩
   rcases Aa1.mp hb with e | hb
   ·cases e;exact cS4 I sq
   ·exact h2 b hb
 | [],_::_,_,h,_=>h.elim
 | _::_,[],_,h,_=>h.elim
theorem aL6 {vs:List V}{us:List Value}(r:Vals vs us):∀{q:List Nat},(∀i∈q,i<vs.length)->Vals (q.map λi=>vs.getD i .non) (q.map λi=>us.getD i .none)
 | [],_=>.nil
 | i::q,h=>by
  have hi:=h i (by simp)
  obtain ⟨u,h1,h2⟩:=r.get (i:=i) (x:=vs[i]) (Aa2 hi);refine .cons ?_ (aL6 r λj hj=>h j (by simp[hj]))
  have e1:vs.getD i .non=vs[i]:=by simp[List.getD,hi]
  have e2:us.getD i .none=u:=by simp[List.getD,h1]
  show RelV (vs.getD i .non) (us.getD i .none)
  rw[e1,e2];exact h2
end
section
variable {X:Cx}
theorem aR0 (K:PySem.W.Frag)(h:X.K=K:=by rfl):W4 X (.builtin "sorted") (λxs H Q=>∃(p:Addr) (ys:List V) (ts:List (List Int)),xs=[.ref p]/\SqL K H p ys/\TupsV K H ys ts/\ys.length<64 /\
  ∀a (q:List Nat),H a=none->q.Perm (List.range ys.length)->(q.map λi=>ts.getD i []).Pairwise H9->Q (.ref a) (upd H a (.lst (q.map λi=>ys.getD i .non)))):=by
 subst h;intro pins s σ H xs us Q I r ⟨p,ys,ts,e,hq,ht,h64,q⟩;subst e;obtain ⟨u,rfl,rx⟩:=aB1 r;cases rx;obtain ⟨its,rv,pl,hz⟩:=I.list hq;have hlen:=rv.length;have htl:=ht.length;by_cases h2:its.length<2
 ·refine bB8 pl.isList h2 ?_;obtain ⟨e,he⟩:=sortedAll_at s.heap its its.toArray;have fin:=q (s.heap.objs.size+1) (List.range ys.length) (I.hok.fresh (Nat.le_succ _)) (.refl _) (by
   rw[hlen]
   match its.length,h2 with
   | 0,_=>simp
   | 1,_=>simp[List.range_succ])
  have el:((List.range ys.length).map λi=>ys.getD i .non)=ys:=by
   refine List.ext_getElem (by simp) λi h1 h2=>?_
   simp[List.getD,h2]
  rw[el]at fin;exact⟨.ref _,_,I.laid (t':=s.toks) (λb o e=>sortedAll_old e) (Nat.le_succ _) (show ObjOk X.prog X.w _ _ _ (.lst ys) from⟨hz,its,e,rv,he⟩),rfl,fin⟩
 ·obtain ⟨m,hm,_⟩:=I.loc;obtain ⟨ta,tl⟩:=bB1 I ht rv;refine bJ7 hm pl.isList ta tl (by omega) (by omega) λh' D pp c hL' kp hD el hp hs=>?_
  have hin:∀i∈pp,i<ys.length:=λi hi=>by have:=Ab5.mp (hp.mem_iff.mp hi);omega
  have rv':=aL6 rv hin
  obtain ⟨HD,I'⟩:=aF2 I hm hL' kp hD el rv' (by rw[Aa3,hp.length_eq,List.length_range];omega)
  exact⟨.ref D,_,I',rfl,q D pp HD (by rw[hlen];exact hp) hs⟩
end
end LV
namespace LV
open PySem L2
section
variable {K:PySem.W.Frag}{ρ ρ' ρ1:List Sl}{m m':Bool}{t ta tb tc:TE}{d d':PyData}{ds es:List PyData}
abbrev lI (l:List Int):PyData:=.list (l.map .int)
abbrev tI (l:List Int):PyData:=.tuple (l.map .int)
theorem j9:∀l:List Int,M1 (l.map .int)=true
 | []=>rfl
 | _::l=>by simp[M1,imm,j9 l]
theorem aC0 {α:Type}{f:α->PyData}(h:∀a,imm (f a)=true):∀l:List α,M1 (l.map f)=true
 | []=>rfl
 | a::l=>by simp[M1,h a,aC0 h l]
theorem bQ7 (l:List Int):imm (tI l)=true:=by simp[imm,j9 l]
theorem bA9:∀{l:List PyData},(∀d∈l,imm d=true)->M1 l=true
 | [],_=>rfl
 | a::l,h=>by simp[M1,h a (by simp),bA9 (l:=l) λd hd=>h d (by simp[hd])]
theorem bB0 (i:Int):Fit (.int i):=⟨rfl,by simp[PyData.depth]⟩
theorem bM7 (b:Bool):Fit (.bool b):=⟨rfl,by simp[PyData.depth]⟩
def FitN (n:Nat)(d:PyData):Prop:=d.canLay0=true/\d.depth<=n
theorem cI5 (n:Nat)(i:Int):FitN n (.int i):=⟨rfl,by simp[PyData.depth]⟩
theorem aQ8 {n:Nat}:∀{l:List PyData},(∀d∈l,FitN n d)->PyData.canLayAll0 l=true/\PyData.depthAll l<=n
 | [],_=>⟨rfl,by simp[PyData.depthAll]⟩
 | a::l,h=>by
  obtain ⟨h1,h2⟩:=h a (by simp)
  obtain ⟨h3,h4⟩:=aQ8 (l:=l) λd hd=>h d (by simp[hd])
  exact⟨by simp[PyData.canLayAll0,h1,h3],by simp only[PyData.depthAll];omega⟩
theorem aS3 {n:Nat}{l:List PyData}(h:∀d∈l,FitN n d):FitN (n+1) (.tuple l):=by
 obtain ⟨a,b⟩:=aQ8 h;exact⟨by simpa[PyData.canLay0]using a,by simp only[PyData.depth];omega⟩
theorem cF8 {n:Nat}{l:List PyData}(h:∀d∈l,FitN n d):FitN (n+1) (.list l):=by
 obtain ⟨a,b⟩:=aQ8 h;exact⟨by simpa[PyData.canLay0]using a,by simp only[PyData.depth];omega⟩
theorem FitN.fit {n:Nat}(h:FitN n d)(hn:n<=32:=by decide):Fit d:=⟨h.1,Nat.le_trans h.2 hn⟩
theorem cO4 (l:List Int):∀d∈l.map PyData.int,FitN 0 d:=λd hd=>by
 obtain ⟨i,_,rfl⟩:=Aa8.mp hd;exact cI5 0 i
theorem v6 (l:List Int):FitN 1 (tI l):=aS3 (cO4 l)
theorem dA4 (ha:E K false ta ρ d)(hb:E K false tb ρ d')(h1:Fit d)(h2:Fit d'):E K m (tOp (cG0 K false) ta tb) ρ (.bool (PyData.eqv d d')):=
 cP5 false false ha hb λS H x y Q _ rx ry q=>⟨d,d',rx,ry,h1,h2,q _ H (L2.Same.rf _) (.bl _)⟩
theorem bX7 (ha:E K false ta ρ d)(hb:E K false tb ρ d')(h1:Fit d)(h2:Fit d'):E K m (tOp (cG0 K true) ta tb) ρ (.bool (!PyData.eqv d d')):=
 cP5 false false ha hb λS H x y Q _ rx ry q=>⟨d,d',rx,ry,h1,h2,q _ H (L2.Same.rf _) (.bl _)⟩
theorem cK9 (ha:E K false ta ρ d)(hb:E K false tb ρ d')(hs:sq d'=some ds)(h1:Fit d)(h2:Fit d'):E K m (tOp (dI3 K false) ta tb) ρ (.bool (ds.any λz=>PyData.eqv z d)):=
 cP5 false false ha hb λS H x y Q _ rx ry q=>⟨d,d',ds,rx,ry,hs,h1,h2,q _ H (L2.Same.rf _) (.bl _)⟩
theorem y4 {α:Type}[DecidableEq α]{f:α->PyData}(h:∀a b,PyData.eqv (f a) (f b)=decide (a=b)):∀l l':List α,PyData.eqvAll (l.map f) (l'.map f)=decide (l=l')
 | [],[]=>by simp[PyData.eqvAll]
 | [],_::_=>by simp[PyData.eqvAll]
 | _::_,[]=>by simp[PyData.eqvAll]
 | a::l,b::l'=>by
  simp only[Ac6,PyData.eqvAll,h,y4 h l l',List.cons.injEq];by_cases e:a=b <;> simp[e]
theorem aO4 (a b:Int):PyData.eqv (.int a) (.int b)=decide (a=b):=by
 simp only[PyData.eqv];by_cases h:a=b <;> simp[h]
theorem bT8 (l l':List Int):PyData.eqv (tI l) (tI l')=decide (l=l'):=by
 simp only[PyData.eqv];exact y4 aO4 l l'
theorem dB8 (l l':List (List Int)):PyData.eqv (.list (l.map tI)) (.list (l'.map tI))=decide (l=l'):=by
 simp only[PyData.eqv];exact y4 bT8 l l'
theorem bY3 {H:Hp}{p:V}{l:List Int}(r:Rep K H p (lI l)):∃a,p=.ref a/\SqL K H a (l.map V.int):=by
 cases r with
 | lst s r=>rw[<- r.ints];exact⟨_,rfl,s⟩
theorem dM6 {t:TA}{l:List Int}{M:Int}(ha:A K false t ρ [lI l])(hM:M∈l/\∀a∈l,M<=a):E K m (tCB (λxs H Q=>∃(p:Addr) (l:List Int),xs=[.ref p]/\SqL K H p (l.map V.int)/\l≠[]/\∀M,M∈l->(∀a∈l,M<=a)->Q (.int M) H) t) ρ (.int M):=dD6 ha λH vs Q r q=>by
 cases r with
 | cons a b=>
  cases b
  obtain ⟨p,rfl,s⟩:=bY3 a;refine⟨p,l,rfl,s,List.ne_nil_of_mem hM.1,λM' h1 h2=>?_⟩
  have:M'=M:=Int.le_antisymm (h2 M hM.1) (hM.2 M' h1)
  rw[this];exact q _ λ_=>.int _
abbrev lB (l:List Bool):PyData:=.list (l.map .bool)
theorem Reps.bools {H:Hp}:∀{l:List Bool} {vs:List V},Reps K H vs (l.map PyData.bool)->vs=l.map V.bl
 | [],_,r=>by cases r;rfl
 | i::l,_,r=>by
  cases r with
  | cons a b=>cases a;rw[Reps.bools b];rfl
theorem dJ1 {t:TA}{l:List Bool}(ha:A K false t ρ [lB l]):E K m (tCB (λxs H Q=>∃(p:Addr) (l:List Bool),xs=[.ref p]/\SqL K H p (l.map V.bl)/\Q (.bl (l.all id)) H) t) ρ (.bool (l.all id)):=dD6 ha λH vs Q r q=>by
 cases r with
 | cons a b=>
  cases b
  cases a with
  | lst s r=>rw[r.bools]at s;exact⟨_,l,rfl,s,q _ λ_=>.bl _⟩
theorem cJ5 {l:List Int}{k:Int}(ha:E K false ta ρ (lI l))(hb:E K false tb ρ (.int k))(hk:k∈l) :
  E K m (tBM K "list" (λx xs H Q=>∃(p:Addr) (l:List Int) (k:Int),x=.ref p/\xs=[.int k]/\SqL K H p (l.map V.int)/\k∈l/\Q (.int (l.idxOf k)) H) ta (E9 tb W1)) ρ (.int (l.idxOf k)):=E.bor (E.imm (m:=false) λS B σ H o I Q q=>ha S B σ H o I _ λv H1 s1 r=>by
 obtain ⟨p,rfl,s⟩:=bY3 r;refine⟨.inl ⟨rfl,_,s⟩,?_⟩;refine hb S B σ H1 o (I.grow s1) _ λu H2 s2 r2=>?_
 cases r2
 exact⟨p,l,k,rfl,rfl,R5 s2 s,hk,q _ H2 (L2.Same.tr s1 s2) (.int _)⟩)
theorem aB3 {S:Addr->Prop}{H1:Hp}{p:Addr}{xs:List V}(hs:∀b,S b->∃u:HM,H1 b=some u.ho)(hp:H1 p=none)(r:Reps K H1 xs ds)(hi:M1 ds=true):Reps K (hid (λb=>S b\/b=p) (upd H1 p (.lst xs))) xs ds:=
 j4 (λa ys q=>S5 (λb z=>by
  rcases z with z | z
  ·obtain ⟨zs,e⟩:=hs b z;exact⟨zs,by rw[B2 (λz'=>by rw[z',hp]at e;cases e)];exact e⟩
  ·exact⟨.l xs,by rw[z];exact B7⟩) (V8 (D3 hp) q)) ds hi r
theorem cZ8 {r:List V->Hp->VK->Prop}{t:TA}(ha:A K false t ρ ds)(hi:M1 es=true)(hr:∀(H:Hp) (vs:List V) (Q:VK),Reps K H vs ds->(∀p xs,H p=none->Reps K H xs es->Q (.ref p) (upd H p (.lst xs)))->r vs H Q):EF K (tCB r t) ρ es:=λS B σ H o I Q q=>
 ha S B σ H o I _ λvs H1 s1 rs=>hr H1 vs Q rs λp xs hp rx=>q p xs _ (L2.Same.tr s1 (D3 hp)) (Q7 s1 hp) B7 (aB3 (I.grow s1).lists hp rx hi)
theorem aG8 {t:TA}(ha:A K false t ρ [.list ds])(hi:M1 ds=true):E K m (tCB (λxs H Q=>∃p ys,xs=[.ref p]/\((SqL K H p ys/\∀l,H l=none->Q (.ref l) (upd H l (.tup ys)))\/(SqT K H p ys/\Q (.ref p) H))) t) ρ (.tuple ds):=E.bor (E.imm (m:=false) (λS B σ H o I Q q=>ha S B σ H o I _ λvs H1 s1 r=>by
 cases r with
 | cons a b=>
  cases b
  cases a with
  | lst s r=>exact⟨_,_,rfl,.inl ⟨s,λl hl=>q _ _ (L2.Same.tr s1 (D3 hl)) (.tup (SqT.of B7) (r.mono (D3 hl)))⟩⟩) (by simp[imm,hi]))
theorem dC0 {t:TA}{i j:Int}(ha:A K false t ρ [.int i,.int j])(hb : -(2^62)<=i/\i<2^62 /\ -(2^62)<=j/\j<2^62/\j-i<=1000000) :
  EF K (tCB (λxs H Q=>∃(r:Addr) (i j:Int),xs=[.ref r]/\H r=some (.rng i j)/\(-(2^62)<=i/\i<2^62 /\ -(2^62)<=j/\j<2^62/\j-i<=1000000)/\∀l,H l=none->Q (.ref l) (upd H l (.lst (aE3 i (j-i).toNat)))) (E9 (dA1 t) W1)) ρ (X7 i (j-i).toNat):=λS B σ H o I Q q=>
 ha S B σ H o I _ λvs H1 s1 r=>by
  cases r with
  | cons a b=>
   cases a
   cases b with
   | cons a b=>
    cases a;cases b
    refine⟨i,j,rfl,λp hp=>⟨p,i,j,rfl,B7,hb,λl hl=>?_⟩⟩
    have g1:=D3 (o:=.rng i j) hp
    have g2:=D3 (o:=.lst (aE3 i (j-i).toNat)) hl
    refine q l _ _ (L2.Same.tr s1 (L2.Same.tr g1 g2)) (Q7 (L2.Same.tr s1 g1) hl) B7 ?_;have e1:aE3 i (j-i).toNat=((List.range (j-i).toNat).map λ(k:Nat)=>i+(k:Int)).map V.int:=by simp[aE3]
    have e2:X7 i (j-i).toNat=((List.range (j-i).toNat).map λ(k:Nat)=>i+(k:Int)).map PyData.int:=by simp[X7]
    rw[e1,e2];exact X2 _
theorem dD0 (ha:E K false ta ρ (.list ds))(hi:M1 ds=true):EF K (bZ6 K ta) ρ ds.reverse:=λS B σ H o I Q q=>
 ha S B σ H o I _ λv H1 s1 r=>by
  cases r with
  | lst s r=>
   refine⟨_,_,rfl,s,λl hl=>q l _ _ (L2.Same.tr s1 (D3 hl)) (Q7 s1 hl) B7 (aB3 (I.grow s1).lists hl r.reverse ?_)⟩
   refine bA9 λd hd=>?_
   have:∀{l:List PyData},M1 l=true->∀d∈l,imm d=true:=λ{l}=>by
    induction l with
    | nil=>simp
    | cons a l ih=>intro h d hd;simp[M1]at h;rcases Aa1.mp hd with rfl | z;exact h.1;exact ih h.2 d z
   exact this hi d (List.mem_reverse.mp hd)
end
def OT.kids:OT->List OT
 | .leaf _ | .dic _=>[]
 | .tup ts=>ts
 | .lst ts=>ts
def OT.at:List Nat->OT->Option OT
 | [],t=>some t
 | k::π,t=>(t.kids[k]?).bind (OT.at π)
def OT.put (t:OT)(π:List Nat)(u:OT):OT:=match π with
 | []=>u
 | k::π=>match t with
  | .lst ts=>.lst (ts.modify k λt=>OT.put t π u)
  | .tup ts=>.tup (ts.modify k λt=>OT.put t π u)
  | .leaf d=>.leaf d
  | .dic d=>.dic d
theorem OT.put_nil {t u:OT}:t.put [] u=u:=by rw[OT.put]
theorem OT.put_lst {ts:List OT}{k:Nat}{π:List Nat}{u:OT}:(OT.lst ts).put (k::π) u=.lst (ts.modify k λt=>OT.put t π u):=by rw[OT.put]
theorem OT.put_tup {ts:List OT}{k:Nat}{π:List Nat}{u:OT}:(OT.tup ts).put (k::π) u=.tup (ts.modify k λt=>OT.put t π u):=by rw[OT.put]
section
variable {K:PySem.W.Frag}{Z Z' H H':Hp}
theorem S8 {α:Type}{f:α->α}:∀{l:List α} {k:Nat} {a:α},l[k]? = some a->l.modify k f=l.set k (f a)
 | [],k,a,h=>by simp at h
 | b::l,0,a,h=>by simp at h;subst h;rfl
 | b::l,k+1,a,h=>by
  have:=S8 (f:=f) (l:=l) (k:=k) (a:=a) (by simpa using h)
  simpa using this
theorem bP8:∀{ts:List OT} {xs:List V} {L:List Addr} {k:Nat} {t:OT},Dps K Z H xs ts L->ts[k]? = some t->∃v L1 L2 L3,xs[k]? = some v/\Dp K Z H v t L2/\L=L1++L2++L3 /\
  ∀(Z' H':Hp) (t':OT) (L2':List Addr),Same Z Z'->(∀a xs,Rd H a (.tup xs)->Rd H' a (.tup xs))->(∀b,b∈L1\/b∈L3->H' b=H b)->Dp K Z' H' v t' L2'->Dps K Z' H' xs (ts.set k t') (L1++L2'++L3)
 | [],_,_,_,_,r,h=>by simp at h
 | t::ts,_,_,0,_,r,h=>by
  simp at h;subst h
  cases r with
  | @cons v _ vs _ La Lb a b=>
   refine⟨v,[],La,Lb,rfl,a,rfl,λZ' H' t' L2' hz ht hl r=>?_⟩
   simpa using Dps.cons r (m8 hz ht ts (λb hb=>hl b (.inr hb)) b)
 | t::ts,_,_,k+1,t1,r,h=>by
  cases r with
  | @cons v _ vs _ La Lb a b=>
   obtain ⟨w,L1,L2,L3,h1,h2,h3,h4⟩:=bP8 (k:=k) (t:=t1) b (by simpa using h)
   refine⟨w,La++L1,L2,L3,by simpa using h1,h2,by rw[h3];simp,λZ' H' t' L2' hz ht hl r=>?_⟩
   have:=Dps.cons (aD6 hz ht t (λb hb=>hl b (.inl (by simp[hb]))) a) (h4 Z' H' t' L2' hz ht (λb hb=>hl b (by rcases hb with hb | hb <;> simp[hb])) r)
   simpa using this
theorem cV1 {t:OT}{v:V}{L:List Addr}{k:Nat}{t1:OT}(r:Dp K Z H v t L)(h:t.kids[k]? = some t1):(∃a xs ts M,v=.ref a/\t=.tup ts/\SqT K H a xs/\Dps K Z H xs ts L/\ts[k]? = some t1/\M=L)\/∃a xs ts M,v=.ref a/\t=.lst ts/\H a=some (.lst xs)/\Dps K Z H xs ts M/\ts[k]? = some t1/\L=a::M:=by
 cases r with
 | leaf r=>simp[OT.kids]at h
 | dic _ _ _ _=>simp[OT.kids]at h
 | tup s r=>exact .inl ⟨_,_,_,_,rfl,rfl,s,r,h,rfl⟩
 | lst s r=>exact .inr ⟨_,_,_,_,rfl,rfl,s,r,h,rfl⟩
def Foc (K:PySem.W.Frag)(Z H:Hp)(v0:V)(t0:OT)(L0:List Addr)(π:List Nat)(v:V)(t:OT):Prop:=
 ∃L A C,Dp K Z H v t L/\L0=A++L++C/\∀(Z' H':Hp) (t':OT) (L':List Addr),Same Z Z'->(∀a xs,Rd H a (.tup xs)->Rd H' a (.tup xs))->(∀b,b∈A\/b∈C->H' b=H b)->Dp K Z' H' v t' L'->Dp K Z' H' v0 (t0.put π t') (A++L'++C)
theorem Foc.root {v0:V}{t0:OT}{L0:List Addr}(r:Dp K Z H v0 t0 L0):Foc K Z H v0 t0 L0 [] v0 t0:=
 ⟨L0,[],[],r,by simp,λZ' H' t' L' _ _ _ r'=>by rw[OT.put_nil];simpa using r'⟩
theorem Foc.mono {v0 v:V}{t0 t:OT}{L0:List Addr}{π:List Nat}(f:Foc K Z H v0 t0 L0 π v t)(hz:Same Z Z')(ht:∀a xs,Rd H a (.tup xs)->Rd H' a (.tup xs))(hl:∀b∈L0,H' b=H b):Foc K Z' H' v0 t0 L0 π v t:=by
 obtain ⟨L,A,C,h1,h2,h3⟩:=f;refine⟨L,A,C,aD6 hz ht t (λb hb=>hl b (by rw[h2];simp[hb])) h1,h2,λZ2 H2 t' L' hz' ht' hl' r'=>h3 Z2 H2 t' L' (L2.Same.tr hz hz') (λa xs z=>ht' a xs (ht a xs z)) (λb hb=>?_) r'⟩
 rw[hl' b hb];exact hl b (by rw[h2];rcases hb with hb | hb <;> simp[hb])
theorem aI1 {u t1:OT}{k:Nat}:∀{π:List Nat} {t0 t:OT},t0.at π=some t->t0.put π (t.put [k] u)=t0.put (π++[k]) u
 | [],t0,t,h=>by cases h;rw[OT.put_nil];rfl
 | j::π,t0,t,h=>by
  unfold OT.at at h;cases hk:t0.kids[j]? with
  | none=>rw[hk]at h;cases h
  | some t1=>
   rw[hk]at h;have h:t1.at π=some t:=h;cases t0 with
   | leaf d=>simp[OT.kids]at hk
   | dic d=>simp[OT.kids]at hk
   | lst ts=>
    have hk:ts[j]? = some t1:=hk
    rw[Ab6,OT.put_lst,OT.put_lst,S8 hk,S8 hk,aI1 (t1:=t1) h]
   | tup ts=>
    have hk:ts[j]? = some t1:=hk
    rw[Ab6,OT.put_tup,OT.put_tup,S8 hk,S8 hk,aI1 (t1:=t1) h]
theorem aJ6 {k:Nat}:∀{π:List Nat} {t0 t:OT},t0.at π=some t->t0.at (π++[k])=t.kids[k]?
 | [],t0,t,h=>by
  cases h
  show(t0.kids[k]?).bind (OT.at [])=_
  cases t0.kids[k]? <;> rfl
 | j::π,t0,t,h=>by
  unfold OT.at at h;rw[Ab6];show(t0.kids[j]?).bind (OT.at (π++[k]))=_;cases hk:t0.kids[j]? with
  | none=>rw[hk]at h;cases h
  | some t1=>
   rw[hk]at h;exact aJ6 (π := π) (t0:=t1) h
theorem Foc.down {v0 v:V}{t0 t t1:OT}{L0:List Addr}{π:List Nat}{k:Nat}(f:Foc K Z H v0 t0 L0 π v t)(ha:t0.at π=some t)(h:t.kids[k]? = some t1) :
  ∃a xs u,v=.ref a/\(SqL K H a xs\/SqT K H a xs)/\xs[k]? = some u/\Foc K Z H v0 t0 L0 (π++[k]) u t1:=by
 obtain ⟨L,A,C,h1,h2,h3⟩:=f;rcases cV1 h1 h with ⟨a,xs,ts0,M,rfl,rfl,s,r1,e,rfl⟩ | ⟨a,xs,ts0,M,rfl,rfl,s,r1,e,rfl⟩
 ·obtain ⟨u,L1,L2,L3,g1,g2,g3,g4⟩:=bP8 r1 e;refine⟨a,xs,u,rfl,.inr s,g1,L2,A++L1,L3++C,g2,by rw[h2,g3];simp,λZ' H' t' L' hz ht hl r'=>?_⟩
  have:=h3 Z' H' _ _ hz ht (λb hb=>hl b (by rcases hb with hb | hb <;> simp[hb])) (Dp.tup (s.imp (ht _ _) id) (g4 Z' H' t' L' hz ht (λb hb=>hl b (by rcases hb with hb | hb <;> simp[hb])) r'))
  rw[<- aI1 (t1:=t1) ha,OT.put_tup,S8 e,OT.put_nil];simpa using this
 ·obtain ⟨u,L1,L2,L3,g1,g2,g3,g4⟩:=bP8 r1 e;refine⟨a,xs,u,rfl,.inl (SqL.of s),g1,L2,A++a::L1,L3++C,g2,by rw[h2,g3];simp,λZ' H' t' L' hz ht hl r'=>?_⟩
  have:=h3 Z' H' _ _ hz ht (λb hb=>hl b (by rcases hb with hb | hb <;> simp[hb])) (Dp.lst (by rw[hl a (by simp)];exact s) (g4 Z' H' t' L' hz ht (λb hb=>hl b (by rcases hb with hb | hb <;> simp[hb])) r'))
  rw[<- aI1 (t1:=t1) ha,OT.put_lst,S8 e,OT.put_nil];simpa using this
end
section
variable {K:PySem.W.Frag}{ρ ρ' ρ1:List Sl}{m m':Bool}{t ta tb tc:TE}{d d':PyData}{ds es:List PyData}{u u0 u1:OT}{us:List OT}
def EFT (K:PySem.W.Frag)(t:TE)(ρ:List Sl)(u:OT):Prop:=
 ∀(S:Addr->Prop) (B:Hp) (σ:St) (H:Hp) (o:Nat->List Addr),Env K S B H σ ρ o->∀Q:VK,
  (∀v L H',Same H H'->(∀b∈L,H b=none)->L.Nodup->Dp K (hid (λb=>C3 ρ o S b\/b∈L) H') H' v u L->Q v H')->t σ H Q
def AFT (K:PySem.W.Frag)(t:TA)(ρ:List Sl)(us:List OT):Prop:=
 ∀(S:Addr->Prop) (B:Hp) (σ:St) (H:Hp) (o:Nat->List Addr),Env K S B H σ ρ o->∀Q:List V->Hp->Prop,
  (∀vs L H',Same H H'->(∀b∈L,H b=none)->L.Nodup->Dps K (hid (λb=>C3 ρ o S b\/b∈L) H') H' vs us L->Q vs H')->t σ H Q
theorem bA0 {S:Addr->Prop}{H:Hp}:Same (hid S H) (hid (λb=>S b\/b∈([]:List Addr)) H):=C6 (L2.Same.rf _) λb z _=>z.elim id λz=>nomatch z
theorem aX7 (h:E K true t ρ d):EFT K t ρ (.leaf d):=λS B σ H o I Q q=>h S B σ H o I _ λv H' s r=>
 q v [] H' s (λ_ z=>nomatch z) .nil (.leaf (r.mono bA0))
theorem aP0 {Z H:Hp}:∀{us:List OT} {vs:List V} {L:List Addr},Dps K Z H vs us L->vs.length=us.length
 | [],_,_,r=>by cases r;rfl
 | u::us,_,_,r=>by cases r with | cons a b=>simp[aP0 b]
theorem G5:AFT K W1 ρ []:=λS B σ H o I Q q=>q [] [] H (L2.Same.rf _) (λ_ z=>nomatch z) .nil .nil
theorem Dps.mono {Z Z' H H':Hp}{vs:List V}{L:List Addr}(r:Dps K Z H vs us L)(hz:Same Z Z')(h:Same H H'):Dps K Z' H' vs us L:=
 m8 hz (λ_ _=>V8 h) us (λb hb=>by obtain ⟨xs,e⟩:=j6 us r b hb;rw[e];exact h _ _ e) r
theorem Env.hide {S:Addr->Prop}{B H H1:Hp}{σ:St}{o:Nat->List Addr}{L:List Addr}(I:Env K S B H σ ρ o)(s:Same H H1)(n:∀b∈L,H b=none)(l:∀b∈L,∃u:HM,H1 b=some u.ho) :
  Env K (λb=>S b\/b∈L) (hid (bA2 ρ o) H1) H1 σ ρ o:=by
 obtain ⟨J,sb⟩:=(I.grow s).rebase;have g:Same (hid (C3 ρ o S) H) (hid (C3 ρ o λb=>S b\/b∈L) H1):=C6 s λb z k=>by
  rcases z with (z | z) | z
  ·exact .inl z
  ·exact absurd (n b z) k
  ·exact .inr z
 refine⟨I.len,T6,λb z=>?_,J.new,I.inj,λi ds h=>?_,λi d h=>?_,λi d h=>?_,λi t h=>?_⟩
 ·rcases z with z | z
  ·exact J.sl b z
  ·obtain ⟨xs,e⟩:=l b z;refine⟨xs,hid_some.mpr ⟨λ⟨i,x,h,hx,hb⟩=>?_,e⟩⟩
   obtain ⟨ys,e'⟩:=I.lists b (.inr ⟨i,x,h,hx,hb⟩);rw[n b z]at e';cases e'
 ·obtain ⟨p,h1,h2,xs,h3,h4⟩:=I.own i ds h;exact⟨p,h1,h2,xs,s _ _ h3,h4.mono g⟩
 ·obtain ⟨v,h1,h2⟩:=I.val i d h;exact⟨v,h1,h2.mono g⟩
 ·obtain ⟨v,h1,h2⟩:=I.bor i d h;exact⟨v,h1,h2.mono s⟩
 ·obtain ⟨nd,v,h1,h2⟩:=I.tr i t h;exact⟨nd,v,h1,h2.mono g s⟩
theorem cU9 {o:Nat->List Addr}{S:Addr->Prop}{L:List Addr}{b:Addr}:C3 ρ o (λb=>S b\/b∈L) b↔C3 ρ o S b\/b∈L:=by
 constructor
 ·rintro ((z | z) | z)
  ·exact .inl (.inl z)
  ·exact .inr z
  ·exact .inl (.inr z)
 ·rintro ((z | z) | z)
  ·exact .inl (.inl z)
  ·exact .inr z
  ·exact .inl (.inr z)
theorem E1 {tr:TA}(ha:EFT K ta ρ u)(hr:AFT K tr ρ us):AFT K (E9 ta tr) ρ (u::us):=λS B σ H o I Q q=>
 ha S B σ H o I _ λx La H1 s1 n1 d1 r1=>hr _ _ σ H1 o (I.hide s1 n1 (aB5 u r1)) _ λxs Lb H2 s2 n2 d2 r2=>by
  have l1:=aB5 u r1
  refine q (x::xs) (La++Lb) H2 (L2.Same.tr s1 s2) (λb hb=>?_) ?_ (.cons (r1.mono ?_ s2) (r2.mono ?_ (L2.Same.rf _)))
  ·rcases Aa0.mp hb with hb | hb
   ·exact n1 b hb
   ·exact Q7 s1 (n2 b hb)
  ·refine Aa4.mpr ⟨d1,d2,λa ha b hb e=>?_⟩
   subst e;obtain ⟨xs,e⟩:=l1 a ha;rw[n2 a hb]at e;cases e
  ·refine C6 s2 λb z k=>?_
   rcases z with z | z
   ·exact .inl z
   ·rcases Aa0.mp z with z | z
    ·exact .inr z
    ·exact absurd (n2 b z) k
  ·refine C6 (L2.Same.rf _) λb z _=>?_
   rw[cU9];rcases z with z | z
   ·exact .inl (.inl z)
   ·rcases Aa0.mp z with z | z
    ·exact .inl (.inr z)
    ·exact .inr z
theorem aG7 {t:TA}(h:AFT K t ρ us)(hl:us.length<=sizeLine:=by first | decide | (unfold PySem.sizeLine;simp)):EFT K (bH7 t) ρ (.tup us):=λS B σ H o I Q q=>h S B σ H o I _ λxs L H1 s1 n d r=>
 ⟨by rw[aP0 r];exact hl,λp hp=>by
  have g:=D3 (o:=.tup xs) hp
  exact q _ L _ (L2.Same.tr s1 g) n d (.tup (SqT.of B7) (r.mono (K6 g) g))⟩
theorem N5 {t:TA}(h:AFT K t ρ us)(hl:us.length<=sizeLine:=by first | decide | (unfold PySem.sizeLine;simp)):EFT K (dF7 t) ρ (.lst us):=λS B σ H o I Q q=>h S B σ H o I _ λxs L H1 s1 n d r=>
 ⟨by rw[aP0 r];exact hl,λp hp=>by
  have g:=D3 (o:=.lst xs) hp
  refine q _ (p::L) _ (L2.Same.tr s1 g) (λb hb=>?_) (Aa5.mpr ⟨λz=>?_,d⟩) (.lst B7 (r.mono ?_ g))
  ·rcases Aa1.mp hb with rfl | hb
   ·exact Q7 s1 hp
   ·exact n b hb
  ·obtain ⟨ys,e⟩:=j6 us r p z;rw[hp]at e;cases e
  ·refine C6 g λb z k=>?_
   rcases z with z | z
   ·exact .inl z
   ·rcases Aa1.mp z with rfl | z
    ·exact absurd hp k
    ·exact .inr z⟩
theorem bA4 {i:Nat}{R:AE}(h:EFT K t ρ u)(hn:R.nx (ρ.set i (.tr u)))(hi:i<ρ.length:=by first | decide | (simp;done) | (simp[LV.sl0];done)):W K (aU8 t (W7 i)) ρ R:=λS B D σ H o I s=>
 h S B σ H o I _ λv L H' s' n d r=>s.nx _ _ H' _ (I.put i hi (λ_=>False) (λ_ z=>z.elim) (λb y q _=>s' b y q) (λb z=>.inr (n b z)) (.inr ⟨u,rfl,d,r⟩) (.inl λ_ z=>z)) hn
def AtP (K:PySem.W.Frag)(t:TE)(ρ:List Sl)(i:Nat)(π:List Nat):Prop:=
 ∀(S:Addr->Prop) (B:Hp) (σ:St) (H:Hp) (o:Nat->List Addr),Env K S B H σ ρ o->∀(u0 u:OT),ρ[i]? = some (.tr u0)->u0.at π=some u->∀Q:VK,
  (∀v0 v H',Same H H'->σ[i]? = some (some v0)->Foc K (hid (C3 ρ o S) H') H' v0 u0 (o i) π v u->Q v H')->t σ H Q
theorem aE9 {i:Nat}:AtP K (L5 i) ρ i []:=λS B σ H o I u0 u h hu Q q=>by
 cases hu
 obtain ⟨_,v,a,b⟩:=I.tr i u0 h;exact⟨v,a,q v v H (L2.Same.rf _) a (Foc.root b)⟩
theorem Foc.grow {Z Z' H H':Hp}{v0 v:V}{L0:List Addr}{π:List Nat}(f:Foc K Z H v0 u0 L0 π v u)(l:∀b∈L0,∃u:HM,H b=some u.ho)(hz:Same Z Z')(h:Same H H'):Foc K Z' H' v0 u0 L0 π v u:=
 f.mono hz (λ_ _=>V8 h) λb hb=>by obtain ⟨xs,e⟩:=l b hb;rw[e];exact h _ _ e
theorem Env.trL {S:Addr->Prop}{B H:Hp}{σ:St}{o:Nat->List Addr}{i:Nat}(I:Env K S B H σ ρ o)(h:ρ[i]? = some (.tr u0)):∀b∈o i,∃u:HM,H b=some u.ho:=λb hb=>I.lists b (.inr ⟨i,_,h,rfl,hb⟩)
theorem aH8 {i:Nat}{π:List Nat}{k:Int}(n:Nat)(hp:AtP K ta ρ i π)(hb:E K false tb ρ (.int k))(hk:k=n)(hd:∀u0,ρ[i]? = some (.tr u0)->∃u,u0.at π=some u):AtP K (tOp (rIx K) ta tb) ρ i (π++[n]):=λS B σ H o I u0 u1 h hu Q q=>by
 obtain ⟨u,hu0⟩:=hd u0 h;rw[aJ6 hu0]at hu;refine hp S B σ H o I u0 u h hu0 _ λv0 v H1 s1 a f=>?_
 refine hb S B σ H1 o (I.grow s1) _ λw H2 s2 r=>?_
 cases r
 have f2:=f.grow ((I.grow s1).trL h) (K6 s2) s2
 obtain ⟨p,xs,x,rfl,hs,hx,f3⟩:=f2.down hu0 hu;have e:=aA3 n hk hx;rcases hs with hs | hs
 ·exact .inl ⟨p,xs,k,x,rfl,rfl,hs,e,q v0 x H2 (L2.Same.tr s1 s2) a f3⟩
 ·exact .inr (.inl ⟨p,xs,k,x,rfl,rfl,hs,e,q v0 x H2 (L2.Same.tr s1 s2) a f3⟩)
end
section
variable {K:PySem.W.Frag}{ρ ρ' ρ1:List Sl}{m m':Bool}{t ta tb tc:TE}{d d':PyData}{ds es:List PyData}{u u0 u1:OT}{us us':List OT}
theorem aS4 {S:Addr->Prop}{B H H2:Hp}{σ:St}{o:Nat->List Addr}{i:Nat}{π:List Nat}{v0:V}{p:Addr}{x:V}{Lx:List Addr}(I:Env K S B H σ ρ o)(hi:ρ[i]? = some (.tr u0))(hv:σ[i]? = some (some v0))
  (f:Foc K (hid (C3 ρ o S) H) H v0 u0 (o i) π (.ref p) (.lst us)) (s:Same H H2) (hN:∀b∈Lx,H b=none) (dx:Lx.Nodup) (rx:Dp K (hid (λb=>C3 ρ o S b\/b∈Lx) H2) H2 x u Lx)
  (nb:∀(j:Nat) (d:PyData),ρ[j]?≠some (Sl.bor d)) (fx:List V->List V) (us':List OT)
  (hc:∀(xs:List V) (M:List Addr) (Z' H':Hp),Dps K Z' H' xs us M->Dp K Z' H' x u Lx->∃M',Dps K Z' H' (fx xs) us' M'/\((M++Lx).Nodup->M'.Nodup)/\∀b∈M',b∈M++Lx) :
  ∃xs,H2 p=some (.lst xs)/\xs.length=us.length/\∃o',Env K S B (upd H2 p (.lst (fx xs))) σ (ρ.set i (.tr (u0.put π (.lst us')))) o':=by
 obtain ⟨nd,v0',hv',r0⟩:=I.tr i u0 hi;obtain ⟨L,A,C,h1,h2,h3⟩:=f;cases h1 with
 | @lst _ xs _ M hp r=>
 have hlt:i<ρ.length:=(Ab0.mp hi).1
 have oi:∀b∈o i,cD7 ρ o i b:=λb hb=>⟨_,hi,rfl,hb⟩
 have os:∀b∈o i,C3 ρ o S b:=λb hb=>.inr ⟨i,_,hi,rfl,hb⟩
 have pin:p∈o i:=by rw[h2];simp
 have sub:∀b,(b∈A\/b∈M\/b∈C)->b∈o i/\b≠p:=λb hb=>by
  rw[h2]at nd ⊢;refine⟨by rcases hb with hb | hb | hb <;> simp[hb],λe=>?_⟩
  subst e;simp only[Aa4,Aa5,Ab6,Aa0,Aa1,Ad5]at nd;grind
 have lst:=I.trL hi
 have up:∀b,b∈o i->b≠p->upd H2 p (.lst (fx xs)) b=H b:=λb hb hne=>by
  rw[B2 hne];obtain ⟨ys,e⟩:=lst b hb;rw[e];exact s _ _ e
 have tk:∀a ys,Rd H2 a (.tup ys)->Rd (upd H2 p (.lst (fx xs))) a (.tup ys):=λa ys q=>by
  have n:a≠p:=λe=>by
   subst e
   have:=s _ _ hp
   rcases q with q | ⟨o,q⟩ <;> rw[this]at q <;> cases q
  rcases q with q | ⟨o,q⟩
  ·exact .inl (by rw[B2 n];exact q)
  ·exact .inr ⟨o,by rw[B2 n];exact q⟩
 have z1:Same (hid (C3 ρ o S) H) (hid (λb=>C3 ρ o S b\/b∈Lx) (upd H2 p (.lst (fx xs)))):=λb y q=>by
  obtain ⟨q1,q2⟩:=hid_some.mp q;refine hid_some.mpr ⟨λz=>z.elim q1 λz=>(by rw[hN b z]at q2;cases q2),?_⟩
  rw[B2 (λe=>q1 (os b (by rw[e];exact pin)))]
  exact s _ _ q2
 have z2:Same (hid (λb=>C3 ρ o S b\/b∈Lx) H2) (hid (λb=>C3 ρ o S b\/b∈Lx) (upd H2 p (.lst (fx xs)))):=λb y q=>by
  obtain ⟨q1,q2⟩:=hid_some.mp q;refine hid_some.mpr ⟨q1,?_⟩;rw[B2 (λe=>q1 (.inl (os b (by rw[e];exact pin))))]
  exact q2
 have pN:p∉Lx:=λz=>by rw[hN p z]at hp;cases hp
 obtain ⟨M',c1,c2,c3⟩:=hc xs M _ _ (m8 z1 (λa ys q=>tk a ys (V8 s q)) us (λb hb=>up b (sub b (.inr (.inl hb))).1 (sub b (.inr (.inl hb))).2) r)
  (aD6 z2 tk u (λb hb=>by rw[B2 (λe=>pN (by rw[<- e];exact hb))]) rx)
 have fin:=h3 _ _ (.lst us') (p::M') z1 (λa ys q=>tk a ys (V8 s q)) (λb hb=>up b (sub b (by rcases hb with hb | hb <;> simp[hb])).1 (sub b (by rcases hb with hb | hb <;> simp[hb])).2) (.lst B7 c1)
 have far:∀b∈Lx,b∉o i:=λb hb hb'=>by
  obtain ⟨ys,e⟩:=lst b hb';rw[hN b hb]at e;cases e
 have mem:∀b∈A++p::M'++C,b∈o i\/b∈Lx:=λb hb=>by
  rw[h2]
  have:=c3 b
  simp only[Aa0,Aa1]at hb this ⊢;grind
 have nodup:(A++p::M'++C).Nodup:=by
  rw[h2]at nd far;simp only[Aa4,Aa5,Ab6,Aa0,Aa1,Ad5]at nd far c2 c3 ⊢;grind
 refine⟨xs,s _ _ hp,aP0 r,d6 o i (A++p::M'++C),?_⟩
 have:=I.put (H':=upd H2 p (.lst (fx xs))) (v:=v0) (x:=.tr (u0.put π (.lst us'))) (L:=A++p::M'++C) i hlt (λb=>b=p) (λb z=>by rw[z];exact oi p pin) (λb y q z=>by rw[B2 z];exact s _ _ q)
  (λb hb=>(mem b hb).imp (oi b) (hN b))
  (.inr ⟨_,rfl,nodup,fin.mono (C6 (L2.Same.rf _) λb z _=>z.elim .inl λz=>(mem b z).elim (λz=>.inl (os b z)) .inr) (L2.Same.rf _)⟩) (.inr nb)
 rw[aS7 hv]at this;exact this
theorem aQ4 {Z H:Hp}{x:V}{Lx:List Addr}:∀{us:List OT} {xs:List V} {M:List Addr},Dps K Z H xs us M->Dp K Z H x u Lx->Dps K Z H (xs++[x]) (us++[u]) (M++Lx)
 | [],_,_,r,h=>by cases r;simpa using Dps.cons h .nil
 | a::us,_,_,r,h=>by
  cases r with
  | @cons v _ vs _ La Lb r1 r2=>
   have:=Dps.cons r1 (aQ4 r2 h)
   simpa using this
theorem j8 {i:Nat}{π:List Nat}{R:AE}(hp:AtP K ta ρ i π)(hi:ρ[i]? = some (.tr u0))(hu:u0.at π=some (.lst us))(he:EFT K tb ρ u)(hl:us.length<sizeLine)(hn:R.nx (ρ.set i (.tr (u0.put π (.lst (us++[u]))))))(nb:S6 ρ=true:=by rfl) :
  W K (aN0 (tBM K "list" aI4 ta (E9 tb W1))) ρ R:=λS B D σ H o I s=>by
 refine hp S B σ H o I u0 _ hi hu _ λv0 v H1 s1 a f=>?_
 have ⟨L,A,C,f1,f2,f3⟩:=f
 cases f1 with
 | @lst p xs _ M hpp r=>
 refine⟨.inl ⟨rfl,_,SqL.of hpp⟩,?_⟩;refine he S B σ H1 o (I.grow s1) _ λx Lx H2 s2 n d rx=>?_
 obtain ⟨ys,e1,e2,o',J⟩:=aS4 (I.grow s1) hi a f s2 n d rx (K8 nb) (λxs=>xs++[x]) (us++[u]) λxs M Z' H' r1 r2=>⟨M++Lx,aQ4 r1 r2,λh=>h,λb hb=>hb⟩
 exact⟨p,ys,x,rfl,rfl,e1,by rw[e2];exact hl,s.nx _ σ _ o' J hn⟩
theorem cA0 {Z H:Hp}{x:V}:∀{us:List OT} {xs:List V} {M:List Addr} {n:Nat},Dps K Z H xs us M->Dp K Z H x u []->∃M',Dps K Z H (xs.set n x) (us.set n u) M'/\(M.Nodup->M'.Nodup)/\∀b∈M',b∈M
 | [],_,_,n,r,h=>by cases r;exact⟨[],.nil,id,λ_ z=>z⟩
 | a::us,_,_,0,r,h=>by
  cases r with
  | @cons v _ vs _ La Lb r1 r2=>exact⟨Lb,by simpa using Dps.cons h r2,λz=>(Aa4.mp z).2.1,λb hb=>by simp[hb]⟩
 | a::us,_,_,n+1,r,h=>by
  cases r with
  | @cons v _ vs _ La Lb r1 r2=>
   obtain ⟨M',h1,h2,h3⟩:=cA0 (n:=n) r2 h;refine⟨La++M',Dps.cons r1 h1,λz=>?_,λb hb=>?_⟩
   ·obtain ⟨z1,z2,z3⟩:=Aa4.mp z;exact Aa4.mpr ⟨z1,h2 z2,λa ha b hb=>z3 a ha b (h3 b hb)⟩
   ·rcases Aa0.mp hb with hb | hb
    ·simp[hb]
    ·simp[h3 b hb]
theorem dF1 {i:Nat}{π:List Nat}{k:Int}{R:AE}(n:Nat)(he:E K true t ρ d)(hp:AtP K ta ρ i π)(hk:E K false tb ρ (.int k))(hkn:k=n)(hn':n<us.length)(hi:ρ[i]? = some (.tr u0))(hu:u0.at π=some (.lst us))(hn:R.nx (ρ.set i (.tr (u0.put π (.lst (us.set n (.leaf d)))))))(nb:S6 ρ=true:=by rfl) :
  W K (aU8 t (dC2 ta tb cH1)) ρ R:=λS B D σ H o I s=>by
 refine he S B σ H o I _ λx H0 s0 rx=>?_
 refine hp S B σ H0 o (I.grow s0) u0 _ hi hu _ λv0 v H1 s1 a f=>?_
 have ⟨L,A,C,f1,f2,f3⟩:=f
 cases f1 with
 | @lst p xs _ M hpp r=>
 refine hk S B σ H1 o ((I.grow s0).grow s1) _ λw H2 s2 rw_=>?_
 cases rw_
 obtain ⟨ys,e1,e2,o',J⟩:=aS4 (x:=x) (u:=.leaf d) (Lx:=[]) ((I.grow s0).grow s1) hi a f s2 (λb z=>nomatch z) .nil (.leaf (rx.mono (L2.Same.tr (K6 (L2.Same.tr s1 s2)) bA0))) (K8 nb) (λxs=>xs.set n x) (us.set n (.leaf d)) λxs M Z' H' r1 r2=>by
  obtain ⟨M',g1,g2,g3⟩:=cA0 (n:=n) r1 r2;exact⟨M',g1,λh=>g2 (by simpa using h),λb hb=>by simpa using g3 b hb⟩
 exact⟨p,ys,k,n,rfl,rfl,e1,by unfold ixN;rw[if_pos (by omega),if_pos (by omega)];simp[hkn],s.nx _ σ _ o' J hn⟩
def EX (K:PySem.W.Frag)(t:TE)(ρ:List Sl)(j:Nat)(d:PyData)(ρ':List Sl):Prop:=
 ∀(S:Addr->Prop) (B:Hp) (σ:St) (H:Hp) (o:Nat->List Addr),Env K S B H σ ρ o->∀Q:VK,(∀v H' o',Env K S B H' σ ρ' o'->(∀k,k≠j->o' k=o k)->(∀b y,H b=some y->b∉o j->H' b=some y)->(∀b∈o j,∃u:HM,H b=some u.ho) ->
  Same (hid (C3 ρ o S) H) (hid (C3 ρ' o' S) H')->Rep K (hid (C3 ρ' o' S) H') v d->Q v H')->t σ H Q
theorem bT0 {j:Nat}(hj:ρ[j]? = some (.own (ds++[d])))(nb:S6 ρ=true:=by rfl):EX K (dC9 K "list" dG6 (L5 j)) ρ j d (ρ.set j (.own ds)):=λS B σ H o I Q q=>by
 obtain ⟨p,hp,a,xs,b,c⟩:=I.own j _ hj;have hl:=c.length;obtain ⟨y,h1,h2⟩:=c.get' (i:=ds.length) (d:=d) (by simp)
 refine⟨_,a,.inl ⟨rfl,xs,SqL.of b⟩,_,xs,y,rfl,rfl,b,by rw[hl];simpa using h1,?_⟩
 have c':=c.dropLast
 rw[List.dropLast_concat]at c';have I':=I.upd hj hp c' (K8 nb);have g:=bA1 (S:=S) (H:=H) (xs:=xs.dropLast) (es:=ds) hj hp;exact q y _ _ I' (λk hk=>D7 (Ne.symm hk)) (λb' x e n=>by rw[B2 (λz=>n (by rw[hp,z];simp))];exact e) (λb' hb=>I.lists b' (.inr ⟨j,_,hj,rfl,hb⟩)) g (h2.mono g)
theorem cN9 {j:Nat}{k:Int}(n:Nat)(hj:ρ[j]? = some (.own ds))(hk:E K false tb ρ (.int k))(hkn:k=n)(hn:ds[n]? = some d)(hb:n<2^63)(nb:S6 ρ=true:=by rfl):EX K (tBM K "list" cO7 (L5 j) (E9 tb W1)) ρ j d (ρ.set j (.own (ds.eraseIdx n))):=λS B σ H0 o I0 Q q=>by
 obtain ⟨p,hp,a,xs,b0,c0⟩:=I0.own j _ hj;refine⟨_,a,.inl ⟨rfl,xs,SqL.of b0⟩,?_⟩;refine hk S B σ H0 o I0 _ λw H s0 r=>?_
 cases r
 have I:=I0.grow s0
 have b:=s0 _ _ b0
 have c:=c0.mono (K6 s0)
 obtain ⟨y,h1,h2⟩:=c.get' hn;have hl:=(Ab0.mp h1).1;refine⟨_,xs,k,n,y,rfl,rfl,b,by omega,by omega,(bF8 (by unfold ixN;rw[if_pos (by omega),if_pos (by omega)];simp[hkn])).1,h1,?_⟩
 have I':=I.upd hj hp (c.eraseIdx n) (K8 nb)
 have g:=bA1 (S:=S) (H:=H) (xs:=xs.eraseIdx n) (es:=ds.eraseIdx n) hj hp
 exact q y _ _ I' (λk hk=>D7 (Ne.symm hk)) (λb' x e m=>by rw[B2 (λz=>m (by rw[hp,z];simp))];exact s0 _ _ e) (λb' hb=>I0.lists b' (.inr ⟨j,_,hj,rfl,hb⟩)) (L2.Same.tr (K6 s0) g) (h2.mono g)
theorem aM1 {i j:Nat}{R:AE}(hx:EX K t ρ j d ρ')(hi:ρ[i]? = some (.own ds))(hi':ρ'[i]? = some (.own ds))(hl:ds.length<sizeLine)(hn:R.nx (ρ'.set i (.own (ds++[d]))))(nb:S6 ρ'=true:=by rfl) :
  W K (aN0 (tBM K "list" aI4 (L5 i) (E9 t W1))) ρ R:=λS B D σ H o I s=>by
 obtain ⟨p,hp,a,xs,b,c⟩:=I.own i ds hi;refine⟨_,a,.inl ⟨rfl,xs,SqL.of b⟩,?_⟩;refine hx S B σ H o I _ λv H' o' I' _ _ _ _ r=>?_
 obtain ⟨p',hp',a',xs',b',c'⟩:=I'.own i ds hi';rw[a]at a';cases a';refine⟨_,xs',v,rfl,rfl,b',by rw[c'.length];exact hl,?_⟩
 exact s.nx _ σ _ _ (I'.upd hi' hp' (c'.append (.cons r .nil)) (K8 nb)) hn
theorem bQ2 {i j:Nat}{π:List Nat}{R:AE}(hp:AtP K ta ρ i π)(hx:EX K t ρ j d ρ')(hij:i≠j)(hj:∃x,ρ[j]? = some x/\x.os=true)(hi:ρ[i]? = some (.tr u0))(hi':ρ'[i]? = some (.tr u0))(hu:u0.at π=some (.lst us))(hl:us.length<sizeLine)(hn:R.nx (ρ'.set i (.tr (u0.put π (.lst (us++[.leaf d]))))))(nb:S6 ρ'=true:=by rfl) :
  W K (aN0 (tBM K "list" aI4 ta (E9 t W1))) ρ R:=λS B D σ H o I s=>by
 refine hp S B σ H o I u0 _ hi hu _ λv0 v H1 s1 a f=>?_
 have ⟨L,A,C,f1,f2,f3⟩:=f
 cases f1 with
 | @lst p xs _ M hpp r=>
 refine⟨.inl ⟨rfl,_,SqL.of hpp⟩,?_⟩;refine hx S B σ H1 o (I.grow s1) _ λx H2 o' I' ho hk hl2 hz rx=>?_
 obtain ⟨y,hy1,hy2⟩:=hj;have f':=f.mono hz (H':=H2) (λa ys q=>by
  have n:a∉o j:=λz=>by
   obtain ⟨zs,e⟩:=hl2 a z;rcases q with q | ⟨o,q⟩ <;> rw[e]at q <;> replace q:=Ab4 q
   ·exact HM.nt q
   ·exact HM.nf q
  rcases q with q | ⟨o,q⟩
  ·exact .inl (hk _ _ q n)
  ·exact .inr ⟨o,hk _ _ q n⟩) λb hb=>by
   obtain ⟨zs,e⟩:=(I.grow s1).trL hi b hb;rw[e];exact hk _ _ e λz=>hij (I.inj i j _ y hi hy1 rfl hy2 b hb z)
 rw[<- ho i hij]at f';obtain ⟨ys,e1,e2,o2,J⟩:=aS4 (x:=x) (u:=.leaf d) (Lx:=[]) I' hi' a f' (L2.Same.rf _) (λb z=>nomatch z) .nil (.leaf (rx.mono bA0)) (K8 nb) (λxs=>xs++[x]) (us++[.leaf d]) λxs M Z' H' r1 r2=>⟨M++[],aQ4 r1 r2,λh=>h,λb hb=>hb⟩
 exact⟨p,ys,x,rfl,rfl,e1,by rw[e2];exact hl,s.nx _ σ _ o2 J hn⟩
theorem Env.frz {S:Addr->Prop}{B H:Hp}{σ:St}{o:Nat->List Addr}{i:Nat}{x:Sl}(I:Env K S B H σ ρ o)(hi:ρ[i]? = some x)(hx:x=.own ds/\d=.list ds\/∃u,x=.tr u/\d=u.data):Env K S B H σ (ρ.set i (.val d)) o:=by
 have hos:x.os=true:=by rcases hx with ⟨rfl,_⟩ | ⟨u,rfl,_⟩ <;> rfl
 have hlt:i<ρ.length:=(Ab0.mp hi).1
 have at_:∀{j:Nat} {y:Sl},y≠.val d->(ρ.set i (.val d))[j]? = some y->i≠j/\ρ[j]? = some y:=λ{j y} hy h=>by
  rw[List.getElem?_set]at h;by_cases c:i=j
  ·rw[if_pos c,if_pos (by omega)]at h
   exact absurd (Ab4 h).symm hy
  ·rw[if_neg c]at h;exact⟨c,h⟩
 have nd:∀{y:Sl},y.os=true->y≠.val d:=λ{y} h e=>by rw[e]at h;cases h
 have g:Same (hid (C3 ρ o S) H) (hid (C3 (ρ.set i (.val d)) o S) H):=C6 (L2.Same.rf _) λb z _=>aK2 rfl z
 have vis:∀b∈o i,hid (C3 (ρ.set i (.val d)) o S) H b=H b:=λb hb=>by
  obtain ⟨xs,e⟩:=I.lists b (.inr ⟨i,x,hi,hos,hb⟩);rw[e];refine hid_some.mpr ⟨λz=>?_,e⟩
  rcases z with z | ⟨j,y,h,hy,hb'⟩
  ·obtain ⟨ys,e'⟩:=I.sl b z;rw[I.new i x hi hos b hb]at e';cases e'
  ·obtain ⟨c,h⟩:=at_ (nd hy) h;exact c (I.inj i j x y hi h hos hy b hb hb')
 have lists:∀b,C3 (ρ.set i (.val d)) o S b->∃u:HM,H b=some u.ho:=λb z=>I.lists b (aK2 rfl z)
 refine⟨by simp[I.len],I.base,I.sl,λj y h hy=>I.new j y (at_ (nd hy) h).2 hy,λj k y z h h' hy hz=>I.inj j k y z (at_ (nd hy) h).2 (at_ (nd hz) h').2 hy hz,λj es h=>?_,λj d' h=>?_,λj d' h=>?_,λj t h=>?_⟩
 ·obtain ⟨c,h⟩:=at_ (nd rfl) h;obtain ⟨p,o',a,xs,b,r'⟩:=I.own j es h;exact⟨p,o',a,xs,b,r'.mono g⟩
 ·by_cases c:i=j
  ·subst c;rw[List.getElem?_set_self hlt]at h;cases h;rcases hx with ⟨rfl,rfl⟩ | ⟨u,rfl,rfl⟩
   ·obtain ⟨p,o',a,xs,b,r'⟩:=I.own i ds hi;exact⟨_,a,.lst (SqL.of (by rw[vis p (by rw[o'];simp)];exact b)) (r'.mono g)⟩
   ·obtain ⟨_,v,a,b⟩:=I.tr i u hi;exact⟨v,a,bS1 T6 (λ_ _ q=>S5 lists q) g u vis b⟩
  ·rw[Ac9 c]at h;obtain ⟨v,a,b⟩:=I.val j d' h;exact⟨v,a,b.mono g⟩
 ·obtain ⟨c,h⟩:=at_ (by simp) h
  exact I.bor j d' h
 ·obtain ⟨c,h⟩:=at_ (nd rfl) h;obtain ⟨n,v,a,b⟩:=I.tr j t h;exact⟨n,v,a,b.mono g (L2.Same.rf _)⟩
theorem aY7 {i:Nat}{t:TS}{R:AE}(hi:ρ[i]? = some (.own ds))(h:W K t (ρ.set i (.val (.list ds))) R):W K t ρ R:=λS B D σ H o I s=>h S B D σ H o (I.frz hi (.inl ⟨rfl,rfl⟩)) s
theorem cP4 {i:Nat}{t:TS}{R:AE}(hi:ρ[i]? = some (.tr u))(h:W K t (ρ.set i (.val u.data)) R):W K t ρ R:=λS B D σ H o I s=>h S B D σ H o (I.frz (ds:=[]) hi (.inr ⟨u,rfl,rfl⟩)) s
theorem aD9 {α:Type}{f:α->OT}{g:α->PyData}(h:∀a,(f a).data=g a):∀l:List α,OT.datas (l.map f)=l.map g
 | []=>rfl
 | a::l=>by simp[OT.datas,h a,aD9 h l]
end
end LV
namespace LV
open PySem PySem.Spec PyProof.Rows L2
def cM7 (K:PySem.W.Frag):R2:=λx y H Q=>∃l b xs zs,x=.ref l/\y=.ref b/\SqL K H l xs/\SqL K H b zs/\xs.length+zs.length<=sizeLine/\∀p,H p=none->Q (.ref p) (upd H p (.lst (xs++zs)))
theorem P7 {X:Cx}(K:PySem.W.Frag)(h:X.K=K:=by rfl):OpR X (binaryOp .Add) (cM7 K):=by
 subst h;intro pins s σ H x y v u Q I rx ry h;obtain ⟨l,b,xs,zs,rfl,rfl,hH,hB,hz,q⟩:=h;cases rx;cases ry;obtain ⟨its,r,⟨⟨cls,dd,data,sl⟩,n,ho,hc,hdd,hd⟩,_⟩:=I.list hH;obtain ⟨its2,r2,⟨⟨cls2,dd2,data2,sl2⟩,n2,ho2,hc2,hdd2,hd2⟩,_⟩:=I.list hB;simp only at hc hd hc2 hd2;subst hc hd hc2 hd2;have e:its.toArray++its2.toArray=(its++its2).toArray:=by simp
 have hl:=r.length
 have hl2:=r2.length
 refine concat_meets ⟨_,ho,rfl⟩ ⟨_,ho2,rfl⟩ noFill_list_add seq_list_add PySem.F.slot_list_add PySem.F.entry_list_add (PySem.F.args_list_add_2 _ _) (list_addW l b its.toArray its2.toArray n n2 dd dd2 sl sl2 (by simp;omega)) ⟨ho,ho2,?_⟩
 rw[e];exact⟨.ref _,_,I.lnew (t':=s.toks) (r.append r2) (by rw[Ab7];omega),rfl,q _ I.fresh⟩
end LV
namespace LV
open PySem L2
section
variable {K:PySem.W.Frag}{ρ ρ' ρ1:List Sl}{m m':Bool}{t ta tb tc:TE}{d d':PyData}{ds es:List PyData}
theorem aJ2:∀{l l':List PyData},M1 (l++l')=(M1 l&&M1 l')
 | [],l'=>by simp[M1]
 | a::l,l'=>by simp[M1,aJ2 (l:=l),Bool.and_assoc]
theorem bM6:∀{l:List PyData},M1 l=true->∀d∈l,imm d=true
 | [],_,d,hd=>by simp at hd
 | a::l,h,d,hd=>by
  simp[M1]at h
  rcases Aa1.mp hd with rfl | z
  ·exact h.1
  ·exact bM6 h.2 d z
theorem bR4 (ha:E K false ta ρ (.list ds))(hb:E K false tb ρ (.list es))(hi:M1 ds=true)(hi':M1 es=true)(hl:ds.length+es.length<=sizeLine:=by first | decide | (unfold PySem.sizeLine;simp;done)):EF K (tOp (cM7 K) ta tb) ρ (ds++es):=λS B σ H o I Q q=>
 ha S B σ H o I _ λx H1 s1 rx=>hb S B σ H1 o (I.grow s1) _ λy H2 s2 ry=>by
  cases rx with
  | @lst a xs _ sa ra=>
  cases ry with
  | @lst b ys _ sb rb=>
  have ra':=ra.mono s2
  refine⟨a,b,xs,ys,rfl,rfl,R5 s2 sa,sb,by rw[ra.length,rb.length];exact hl,λp hp=>q p _ _ (L2.Same.tr s1 (L2.Same.tr s2 (D3 hp))) (Q7 (L2.Same.tr s1 s2) hp) B7 (aB3 ((I.grow s1).grow s2).lists hp (ra'.append rb) ?_)⟩
  rw[aJ2,hi,hi'];rfl
def O (K:PySem.W.Frag)(t:TO)(ρ:List Sl)(i:Option Int):Prop:=
 ∀(S:Addr->Prop) (B:Hp) (σ:St) (H:Hp) (o:Nat->List Addr),Env K S B H σ ρ o->∀Q,(∀H',Same H H'->Q i H')->t σ H Q
def aU2 (xs:List PyData)(lo hi:Option Int):List PyData:=List.take (HT.sIx xs.length xs.length hi-HT.sIx xs.length 0 lo) (List.drop (HT.sIx xs.length 0 lo) xs)
theorem Reps.cut {H:Hp}{xs:List V}(r:Reps K H xs ds)(lo hi:Option Int):Reps K H (cA2 xs lo hi) (aU2 ds lo hi):=by
 unfold cA2 aU2;rw[r.length];exact(r.drop _).take _
theorem aC2 (lo hi:Option Int)(h:M1 ds=true):M1 (aU2 ds lo hi)=true:=by
 refine bA9 λd hd=>?_
 have:d∈ds:=List.mem_of_mem_drop (List.mem_of_mem_take hd)
 exact bM6 h d this
theorem cG5:O K bU9 ρ none:=λS B σ H o I Q q=>q H (L2.Same.rf _)
theorem aL1 {i:Int}(h:E K false t ρ (.int i)):O K (dA7 t) ρ (some i):=λS B σ H o I Q q=>h S B σ H o I _ λv H' s r=>by
 cases r
 exact⟨i,rfl,q H' s⟩
theorem cM6 {n:Nat}(h:n<=ds.length):aU2 ds (some (n:Int)) none=ds.drop n:=by
 unfold aU2 HT.sIx;simp only[];rw[if_neg (by omega),Ac7,Nat.min_eq_left h]
 exact List.take_of_length_le (by simp)
theorem cQ7 {n:Nat}(h:n<=ds.length):aU2 ds none (some (n:Int))=ds.take n:=by
 unfold aU2 HT.sIx;simp only[];rw[if_neg (by omega),Ac7,Nat.min_eq_left h]
 simp
theorem bY7 {tl th:TO}{lo hi:Option Int}(ha:E K false ta ρ (.list ds))(hl:O K tl ρ lo)(hh:O K th ρ hi)(him:M1 ds=true):EF K (tSl (dB5 K) ta tl th) ρ (aU2 ds lo hi):=λS B σ H o I Q q=>
 ha S B σ H o I _ λx H1 s1 rx=>hl S B σ H1 o (I.grow s1) _ λH2 s2=>hh S B σ H2 o ((I.grow s1).grow s2) _ λH3 s3=>by
  cases rx with
  | @lst a xs _ sa ra=>
  have s13:=L2.Same.tr s2 s3
  exact⟨a,xs,rfl,R5 s13 sa,λp hp=>q p _ _ (L2.Same.tr s1 (L2.Same.tr s13 (D3 hp))) (Q7 (L2.Same.tr s1 s13) hp) B7 (aB3 (I.grow (L2.Same.tr s1 s13)).lists hp ((ra.mono s13).cut lo hi) (aC2 lo hi him))⟩
end
end LV
namespace L2
open PySem
def dB2:Expr->Bool
 | .Starred ..=>false
 | _=>true
theorem aP5 {e:Expr}{es:List Expr}{env:Env}(h:dB2 e=true):starEach (e::es) env=(false,eval e env)::starEach es env:=by
 cases e <;> first | rfl | cases h
theorem A0 {X:Cx}{e:Expr}{es:List Expr}{te:TE}{t:TA}(ha:PE X e te)(hr:PA X es t)(h:dB2 e=true:=by rfl):PA X (e::es) (E9 te t):=cX7 ha hr (aP5 h)
theorem aR4 {X:Cx}(K:PySem.W.Frag){e:Expr}{te:TE}{p1 p2 pos1 pos2:Pos}(hc:X.calm=true)(hg1:Gl X "list")(hm1:X.mg "list" = none)(hg2:Gl X "reversed")(hm2:X.mg "reversed" = none)(he:PE X e te)(hK:X.K=K:=by rfl)(h:dB2 e=true:=by rfl) :
  PE X (.Call (.Name "list" p1) [.Call (.Name "reversed" p2) [e] [] pos2] [] pos1) (LV.bZ6 K te):=
 LV.bI9 K hc hg1 hm1 hg2 hm2 he hK (aP5 h) (aP5 rfl)
end L2
namespace TT
def lin:List Nat->Nat->Nat->Prop
 | c::d::l,a,b=>(a=c/\b=d)\/lin (d::l) a b
 | _,_,_=>False
theorem bU1 (a b:Nat):lin [] a b↔False:=Iff.rfl
theorem aO0 (c a b:Nat):lin [c] a b↔False:=Iff.rfl
theorem D4 (c d:Nat)(l:List Nat)(a b:Nat):lin (c::d::l) a b↔(a=c/\b=d)\/lin (d::l) a b:=Iff.rfl
theorem D9 (c:Nat)(w:List Nat)(a b:Nat):∀u:List Nat,lin (u++c::w) a b↔lin (u++[c]) a b\/lin (c::w) a b
 | []=>by simp[aO0]
 | [d]=>by simp[D4,aO0]
 | d::e::u=>by
  have ih:=D9 c w a b (e::u)
  simp only[Ab6,D4]at ih ⊢;rw[ih];grind
theorem V9 {a b c:Nat}:∀{u:List Nat},lin (u++[c]) a b->a∈u
 | [],h=>h.elim
 | [d],h=>by
  rcases (D4 ..).mp h with ⟨rfl,rfl⟩ | h
  ·simp
  ·exact h.elim
 | d::e::u,h=>by
  rcases (D4 ..).mp h with ⟨rfl,rfl⟩ | h
  ·simp
  ·exact Ad3 _ (V9 (u:=e::u) h)
theorem aD3 {a b c:Nat}{u:List Nat}(h:lin (c::u) a b):b∈u:=by
 induction u generalizing c with
 | nil=>exact h.elim
 | cons d u ih=>
  rcases (D4 ..).mp h with ⟨rfl,rfl⟩ | h
  ·simp
  ·exact Ad3 _ (ih h)
theorem aD1 {l:List Nat}{a b:Nat}(h:lin l a b):a∈l/\b∈l:=by
 induction l with
 | nil=>exact h.elim
 | cons c l ih=>
  refine⟨?_,Ad3 _ (aD3 h)⟩;cases l with
  | nil=>exact h.elim
  | cons d l=>
   rcases (D4 ..).mp h with ⟨rfl,rfl⟩ | h
   ·simp
   ·exact Ad3 _ (ih h).1
def adj (l:List Nat)(a b:Nat):Prop:=lin (l++l.take 1) a b
structure Edit (row row':Nat->List Nat)(v x y:Nat)(L C R:List Nat):Prop where
 nd:∀q,(row q).Nodup
 self:∀q,q∉row q
 tri:∀q a b,adj (row q) a b->adj (row a) b q
 v2:v≠2
 fresh:∀q,v∉row q
 two:row 2=L++x::(C++y::R)
 newv:row' v=x::(C++[y,2])
 oldv:row v=[]
 new2:row' 2=L++x::v::y::R
 rx:∃u z w,row x=u++z::2::w/\row' x=u++z::v::2::w
 ry:∃u w,row y=u++2::w/\row' y=u++2::v::w
 rc:∀c∈C,∃u z w,row c=u++z::2::w/\row' c=u++z::v::w
 rest:∀q,q≠2->q≠v->q≠x->q≠y->q∉C->row' q=row q
section
variable {row row':Nat->List Nat}{v x y:Nat}{L C R:List Nat}
def EE (x y:Nat)(C:List Nat)(a b:Nat):Prop:=lin (x::(C++[y])) a b
def W (x y:Nat)(C:List Nat)(q a b:Nat):Prop:=(q=2/\EE x y C a b)\/(b=2/\EE x y C q a)\/(a=2/\EE x y C b q)
def W' (v x y:Nat)(C:List Nat)(q a b:Nat):Prop:=(q=v/\EE x y C a b)\/(b=v/\EE x y C q a)\/(a=v/\EE x y C b q) \/
 (q=2/\a=x/\b=v)\/(q=x/\a=v/\b=2)\/(q=v/\a=2/\b=x)\/(q=2/\a=v/\b=y)\/(q=v/\a=y/\b=2)\/(q=y/\a=2/\b=v)
theorem aT2 {a b:Nat}(h:EE x y C a b):(a=x\/a∈C)/\(b∈C\/b=y):=by
 have h1:=V9 (u:=x::C) h
 have h2:=aD3 h
 exact⟨by simpa using h1,by simpa using h2⟩
theorem Edit.facts (E:Edit row row' v x y L C R):(x≠y/\x≠2/\y≠2/\x≠v/\y≠v)/\(∀c∈C,c≠x/\c≠y/\c≠2/\c≠v)/\(L++x::(C++y::R)).Nodup:=by
 have h:=E.nd 2
 have h2:=E.self 2
 have hv:=E.fresh 2
 rw[E.two]at h h2 hv;refine⟨?_,?_,h⟩
 ·grind
 ·intro c hc;grind
theorem dP1 (E:Edit row row' v x y L C R)(a b:Nat):adj (row' 2) a b↔(adj (row 2) a b/\¬W x y C 2 a b)\/W' v x y C 2 a b:=by
 obtain ⟨⟨f1,f2,f3,f4,f5⟩,fc,nd⟩:=E.facts;unfold adj;rw[E.two,E.new2];have t1:(L++x::(C++y::R)).take 1=(L++[x]).take 1:=by cases L <;> simp
 have t2:(L++x::v::y::R).take 1=(L++[x]).take 1:=by cases L <;> simp
 rw[t1,t2];generalize ht:(L++[x]).take 1=t;have htm:∀c∈t,c∈L++[x]:=λc hc=>by rw[<- ht]at hc;exact List.mem_of_mem_take hc
 have e1:L++x::(C++y::R)++t=L++x::(C++y::(R++t)):=by simp
 have e2:L++x::v::y::R++t=L++x::v::y::(R++t):=by simp
 have e3:x::(C++y::(R++t))=(x::C)++y::(R++t):=by simp
 rw[e1,e2,D9 x (v::y::(R++t)) a b L,D9 x (C++y::(R++t)) a b L,e3,D9 y _ a b (x::C),D4 x v,D4 v y];have e4:lin ((x::C)++[y]) a b↔EE x y C a b:=Iff.rfl;rw[e4];have hm := @aT2 x y C;have g1:lin (L++[x]) a b->¬EE x y C a b:=λh q=>by
  have:=(aD1 h).2
  have:=(hm q).2
  grind
 have g2:lin (y::(R++t)) a b->¬EE x y C a b:=λh q=>by
  have h2:=(hm q).1
  have h3:a∈y::R:=by
   match t,ht with
   | [],_=>
    rcases Ac4 R with e | ⟨R',z,e⟩
    ·subst e;exact h.elim
    ·subst e
     have:=V9 (u:=y::R') (by simpa using h)
     simp at this ⊢;try grind
   | [z],_=>exact V9 (u:=y::R) h
   | z::z'::t',e=>
    have:=congrArg List.length e
    simp at this
  grind
 have w2:W x y C 2 a b↔EE x y C a b:=by
  unfold W;constructor
  ·rintro (⟨_,h⟩ | ⟨_,h⟩ | ⟨_,h⟩)
   ·exact h
   ·have:=(hm h).1;grind
   ·have:=(hm h).2;grind
  ·exact λh=>.inl ⟨rfl,h⟩
 have w2':W' v x y C 2 a b↔(a=x/\b=v)\/(a=v/\b=y):=by
  unfold W';have hv:=E.v2;constructor
  ·rintro (⟨h,_⟩ | ⟨_,h⟩ | ⟨_,h⟩ | h | h | h | h | h | h)
   ·exact absurd h.symm hv
   ·have:=(hm h).1;grind
   ·have:=(hm h).2;grind
   all_goals grind
  ·grind
 rw[w2,w2'];grind
theorem tk1 {l:List Nat}(h:l≠[]):∃c,l.take 1=[c]/\c∈l:=by
 cases l with
 | nil=>exact absurd rfl h
 | cons c l=>exact⟨c,by simp,by simp⟩
theorem aZ7 (E:Edit row row' v x y L C R)(a b:Nat):∃t,(∀c∈t,c∈L++[x])/\t.length=1/\(adj (row 2) a b↔lin (L++[x]) a b\/EE x y C a b\/lin (y::(R++t)) a b):=by
 refine⟨(L++[x]).take 1,λc hc=>List.mem_of_mem_take hc,by simp,?_⟩
 unfold adj;rw[E.two];have t1:(L++x::(C++y::R)).take 1=(L++[x]).take 1:=by cases L <;> simp
 rw[t1];generalize (L++[x]).take 1=t;have e1:L++x::(C++y::R)++t=L++x::(C++y::(R++t)):=by simp
 have e3:x::(C++y::(R++t))=(x::C)++y::(R++t):=by simp
 rw[e1,D9 x (C++y::(R++t)) a b L,e3,D9 y _ a b (x::C)];exact Iff.rfl
theorem aO9 (E:Edit row row' v x y L C R){a b:Nat}(h:EE x y C a b):adj (row 2) a b:=by
 obtain ⟨t,_,_,e⟩:=aZ7 E a b;exact e.mpr (.inr (.inl h))
theorem bV1 (E:Edit row row' v x y L C R){a b:Nat}(h:adj (row 2) a b)(ha:a=x\/a∈C):EE x y C a b:=by
 obtain ⟨_,_,nd⟩:=E.facts;obtain ⟨t,ht,hl,e⟩:=aZ7 E a b;rcases e.mp h with h | h | h
 ·have:=V9 h;grind
 ·exact h
 ·obtain ⟨z,rfl⟩:∃z,t=[z]:=List.length_eq_one_iff.mp hl
  have:=V9 (u:=y::R) h
  grind
theorem bK4 (E:Edit row row' v x y L C R){a b:Nat}(h:adj (row 2) a b)(hb:b∈C\/b=y):EE x y C a b:=by
 obtain ⟨_,_,nd⟩:=E.facts;obtain ⟨t,ht,hl,e⟩:=aZ7 E a b;rcases e.mp h with h | h | h
 ·have:=(aD1 h).2;grind
 ·exact h
 ·have:=aD3 h
  grind
theorem dM4 (E:Edit row row' v x y L C R){a b:Nat}:adj (row 2) a b↔adj (row a) b 2:=⟨E.tri _ _ _,λh=>E.tri _ _ _ (E.tri _ _ _ h)⟩
theorem cS6 (E:Edit row row' v x y L C R){a b:Nat}:adj (row 2) a b↔adj (row b) 2 a:=⟨λh=>E.tri _ _ _ (E.tri _ _ _ h),λh=>E.tri _ _ _ h⟩
theorem dO9 (E:Edit row row' v x y L C R)(a b:Nat):adj (row' v) a b↔(adj (row v) a b/\¬W x y C v a b)\/W' v x y C v a b:=by
 obtain ⟨⟨f1,f2,f3,f4,f5⟩,fc,nd⟩:=E.facts;have hv:=E.v2;unfold adj;rw[E.newv,E.oldv];have e:x::(C++[y,2])++(x::(C++[y,2])).take 1=(x::C)++y::[2,x]:=by simp
 rw[e,D9 y [2,x] a b (x::C),D4,D4];have e4:lin ((x::C)++[y]) a b↔EE x y C a b:=Iff.rfl;rw[e4];have hm := @aT2 x y C;have h1:∀c,¬EE x y C v c:=λc h=>by have:=(hm h).1;grind
 have h2:∀c,¬EE x y C c v:=λc h=>by have:=(hm h).2;grind
 unfold W'
 simp[bU1,aO0,h1,h2]
 grind
theorem dN8 (E:Edit row row' v x y L C R)(a b:Nat):adj (row' x) a b↔(adj (row x) a b/\¬W x y C x a b)\/W' v x y C x a b:=by
 obtain ⟨⟨f1,f2,f3,f4,f5⟩,fc,nd⟩:=E.facts;have hv:=E.v2;obtain ⟨u,z,w,o,n⟩:=E.rx;have ndx:=E.nd x;have key:∀c,EE x y C x c↔adj (row x) c 2:=λc=>⟨λh=>E.tri _ _ _ (aO9 E h),λh=>bV1 E ((dM4 E).mpr h) (.inl rfl)⟩
 have hm := @aT2 x y C
 have h2:∀c,¬EE x y C c x:=λc h=>by have:=(hm h).2;grind
 have w1:W x y C x a b↔(b=2/\adj (row x) a 2):=by unfold W;simp[f2,h2,key]
 have w2:W' v x y C x a b↔(b=v/\adj (row x) a 2)\/(a=v/\b=2):=by unfold W';simp[f2,f4,f1,h2,key]
 rw[w1,w2];unfold adj;rw[o]at ndx;rw[o,n];have t1:(u++z::2::w).take 1=(u++[z]).take 1:=by cases u <;> simp
 have t2:(u++z::v::2::w).take 1=(u++[z]).take 1:=by cases u <;> simp
 rw[t1,t2];have ht:∀c∈(u++[z]).take 1,c∈u++[z]:=λc hc=>List.mem_of_mem_take hc
 generalize (u++[z]).take 1=t at ht;have e1:u++z::2::w++t=u++z::2::(w++t):=by simp
 have e2:u++z::v::2::w++t=u++z::v::2::(w++t):=by simp
 rw[e1,e2,D9 z (2::(w++t)) a b u,D9 z (v::2::(w++t)) a b u,D9 z (2::(w++t)) a 2 u,D4,D4,D4,D4];have n1:¬lin (u++[z]) a 2:=λh=>by have:=(aD1 h).2;grind
 have n2:¬lin (2::(w++t)) a 2:=λh=>by have:=aD3 h;grind
 have n3:lin (u++[z]) a b->b≠2:=λh e=>n1 (e▸h)
 have n4:lin (2::(w++t)) a b->b≠2:=λh e=>n2 (e▸h)
 grind
theorem dO6 (E:Edit row row' v x y L C R)(a b:Nat):adj (row' y) a b↔(adj (row y) a b/\¬W x y C y a b)\/W' v x y C y a b:=by
 obtain ⟨⟨f1,f2,f3,f4,f5⟩,fc,nd⟩:=E.facts;have hv:=E.v2;obtain ⟨u,w,o,n⟩:=E.ry;have ndy:=E.nd y;have key:∀c,EE x y C c y↔adj (row y) 2 c:=λc=>⟨λh=>(cS6 E).mp (aO9 E h),λh=>bK4 E ((cS6 E).mpr h) (.inr rfl)⟩
 have hm := @aT2 x y C
 have h2:∀c,¬EE x y C y c:=λc h=>by have:=(hm h).1;grind
 have w1:W x y C y a b↔(a=2/\adj (row y) 2 b):=by unfold W;simp[f3,h2,key]
 have w2:W' v x y C y a b↔(a=v/\adj (row y) 2 b)\/(a=2/\b=v):=by unfold W';simp[f3,f5,Ne.symm f1,h2,key]
 rw[w1,w2];unfold adj;rw[o]at ndy;rw[o,n];have t1:(u++2::w).take 1=(u++[2]).take 1:=by cases u <;> simp
 have t2:(u++2::v::w).take 1=(u++[2]).take 1:=by cases u <;> simp
 rw[t1,t2];obtain ⟨h,ht,hh⟩:=tk1 (l:=u++[2]) (by simp)
 rw[ht];have e1:u++2::w++[h]=u++2::(w++[h]):=by simp
 have e2:u++2::v::w++[h]=u++2::v::(w++[h]):=by simp
 rw[e1,e2];obtain ⟨z,w',ez⟩:∃z w',w++[h]=z::w':=by cases w with
  | nil=>exact⟨h,[],rfl⟩
  | cons c w=>exact⟨c,w++[h],rfl⟩
 have n2:∀b,¬lin (z::w') 2 b:=λb q=>by rw[<- ez]at q;have:=V9 q;grind
 have n1:∀b,¬lin (u++[2]) 2 b:=λb q=>by have:=V9 q;grind
 rw[ez,D9 2 (z::w') a b u,D9 2 (v::z::w') a b u,D9 2 (z::w') 2 b u,D4,D4,D4,D4];have n3:lin (u++[2]) a b->a≠2:=λh e=>n1 b (e▸h)
 have n4:lin (z::w') a b->a≠2:=λh e=>n2 b (e▸h)
 have:=n1 b
 have:=n2 b
 grind
theorem dO5 (E:Edit row row' v x y L C R){c:Nat}(hc:c∈C)(a b:Nat):adj (row' c) a b↔(adj (row c) a b/\¬W x y C c a b)\/W' v x y C c a b:=by
 obtain ⟨⟨f1,f2,f3,f4,f5⟩,fc,nd⟩:=E.facts;obtain ⟨g1,g2,g3,g4⟩:=fc c hc;have hv:=E.v2;obtain ⟨u,z,w,o,n⟩:=E.rc c hc;have ndc:=E.nd c;have key1:∀d,EE x y C c d↔adj (row c) d 2:=λd=>⟨λh=>E.tri _ _ _ (aO9 E h),λh=>bV1 E ((dM4 E).mpr h) (.inr hc)⟩
 have key2:∀d,EE x y C d c↔adj (row c) 2 d:=λd=>⟨λh=>(cS6 E).mp (aO9 E h),λh=>bK4 E ((cS6 E).mpr h) (.inl hc)⟩
 have w1:W x y C c a b↔(b=2/\adj (row c) a 2)\/(a=2/\adj (row c) 2 b):=by unfold W;simp[g3,key1,key2]
 have w2:W' v x y C c a b↔(b=v/\adj (row c) a 2)\/(a=v/\adj (row c) 2 b):=by unfold W';simp[g1,g2,g3,g4,key1,key2]
 rw[w1,w2];have fr:v∉row c:=E.fresh c;unfold adj;rw[o]at ndc fr;rw[o,n];have t1:(u++z::2::w).take 1=(u++[z]).take 1:=by cases u <;> simp
 have t2:(u++z::v::w).take 1=(u++[z]).take 1:=by cases u <;> simp
 rw[t1,t2];obtain ⟨h,ht,hh⟩:=tk1 (l:=u++[z]) (by simp)
 rw[ht];have e1:u++z::2::w++[h]=u++z::2::(w++[h]):=by simp
 have e2:u++z::v::w++[h]=u++z::v::(w++[h]):=by simp
 rw[e1,e2];obtain ⟨k,w',ez⟩:∃k w',w++[h]=k::w':=by cases w with
  | nil=>exact⟨h,[],rfl⟩
  | cons c w=>exact⟨c,w++[h],rfl⟩
 have no2:2∉w++[h]:=by grind
 rw[ez]at no2 ⊢;have n1:∀p q,lin (u++[z]) p q->p≠2/\q≠2:=λp q h=>by have:=aD1 h;grind
 have n2:∀p q,lin (k::w') p q->p≠2/\q≠2:=λp q h=>by have:=aD1 h;grind
 have fl:∀p q r,lin (u++z::r::k::w') p q↔lin (u++[z]) p q\/(p=z/\q=r)\/(p=r/\q=k)\/lin (k::w') p q:=λp q r=>by
  rw[D9 z (r::k::w') p q u,D4,D4]
 rw[fl,fl,fl,fl]
 have:=n1 a b
 have:=n2 a b
 have:=n1 a 2
 have:=n2 a 2
 have:=n1 2 b
 have:=n2 2 b
 grind
theorem dO2 (E:Edit row row' v x y L C R){q:Nat}(h2:q≠2)(hv:q≠v)(hx:q≠x)(hy:q≠y)(hc:q∉C)(a b:Nat):adj (row' q) a b↔(adj (row q) a b/\¬W x y C q a b)\/W' v x y C q a b:=by
 rw[E.rest q h2 hv hx hy hc];have hm := @aT2 x y C;have g1:∀c,¬EE x y C q c:=λc h=>by have:=(hm h).1;grind
 have g2:∀c,¬EE x y C c q:=λc h=>by have:=(hm h).2;grind
 unfold W W'
 simp[h2,hv,hx,hy,g1,g2]
theorem cJ8 (E:Edit row row' v x y L C R)(q a b:Nat):adj (row' q) a b↔(adj (row q) a b/\¬W x y C q a b)\/W' v x y C q a b:=by
 by_cases h2:q=2
 ·subst h2;exact dP1 E a b
 by_cases hv:q=v
 ·subst hv;exact dO9 E a b
 by_cases hx:q=x
 ·subst hx;exact dN8 E a b
 by_cases hy:q=y
 ·subst hy;exact dO6 E a b
 by_cases hc:q∈C
 ·exact dO5 E hc a b
 ·exact dO2 E h2 hv hx hy hc a b
theorem Edit.tri' (E:Edit row row' v x y L C R)(q a b:Nat)(h:adj (row' q) a b):adj (row' a) b q:=by
 rw[cJ8 E]at h ⊢;rcases h with ⟨h,n⟩ | h
 ·refine .inl ⟨E.tri _ _ _ h,?_⟩;unfold W at n ⊢;grind
 ·right
  unfold W' at h ⊢;rcases h with h | h | h | h | h | h | h | h | h
  all_goals obtain ⟨e,h⟩:=h
  all_goals simp[e,h]
theorem Edit.nd' (E:Edit row row' v x y L C R)(q:Nat):(row' q).Nodup:=by
 obtain ⟨⟨f1,f2,f3,f4,f5⟩,fc,nd⟩:=E.facts;have hv:=E.v2;by_cases h2:q=2
 ·subst h2;rw[E.new2]
  have:=E.fresh 2
  rw[E.two]at this;grind
 by_cases hq:q=v
 ·subst hq;rw[E.newv];grind
 by_cases hx:q=x
 ·subst hx;obtain ⟨u,z,w,o,n⟩:=E.rx;have h1:=E.nd q;have h3:=E.fresh q;rw[o]at h1 h3;rw[n];grind
 by_cases hy:q=y
 ·subst hy;obtain ⟨u,w,o,n⟩:=E.ry;have h1:=E.nd q;have h3:=E.fresh q;rw[o]at h1 h3;rw[n];grind
 by_cases hc:q∈C
 ·obtain ⟨u,z,w,o,n⟩:=E.rc q hc;have h1:=E.nd q;have h3:=E.fresh q;rw[o]at h1 h3;rw[n];grind
 ·rw[E.rest q h2 hq hx hy hc];exact E.nd q
theorem Edit.self' (E:Edit row row' v x y L C R)(q:Nat):q∉row' q:=by
 obtain ⟨⟨f1,f2,f3,f4,f5⟩,fc,nd⟩:=E.facts;have hv:=E.v2;have hs:=E.self q;by_cases h2:q=2
 ·subst h2;rw[E.two]at hs;rw[E.new2];grind
 by_cases hq:q=v
 ·subst hq;rw[E.newv];grind
 by_cases hx:q=x
 ·subst hx;obtain ⟨u,z,w,o,n⟩:=E.rx;rw[o]at hs;rw[n];grind
 by_cases hy:q=y
 ·subst hy;obtain ⟨u,w,o,n⟩:=E.ry;rw[o]at hs;rw[n];grind
 by_cases hc:q∈C
 ·obtain ⟨u,z,w,o,n⟩:=E.rc q hc;rw[o]at hs;rw[n];grind
 ·rw[E.rest q h2 hq hx hy hc];exact hs
end
end TT
namespace TT
structure S where
 k:Nat
 path:List Nat
 heap:List Nat
 i0:Nat->List Nat
 i1:Nat->List Nat
 i2:Nat->List Nat
 o0:Nat->Nat
 o1:Nat->Nat
 o2:Nat->Nat
def put {α:Type}(f:Nat->α)(a:Nat)(x:α):Nat->α:=λb=>if b=a then x else f b
theorem C7 {α:Type}{f:Nat->α}{a:Nat}{x:α}:put f a x a=x:=by simp[put]
theorem C0 {α:Type}{f:Nat->α}{a b:Nat}{x:α}(h:b≠a):put f a x b=f b:=by simp[put,h]
def S.row (s:S)(q:Nat):List Nat:=
 if q=0 then 1::(s.i0 0++[2]) else if q=1 then 2::((s.i1 1).reverse++[0]) else if q=2 then s.path.reverse++s.heap
 else if q<s.k+3 then s.o0 q::(s.i2 q++s.o1 q::(s.i0 q++s.o2 q::(s.i1 q).reverse)) else []
def S.first:S:={k:=0,path:=[0],heap:=[1],i0:=λ_=>[],i1:=λ_=>[],i2:=λ_=>[],o0:=λ_=>2,o1:=λ_=>2,o2:=λ_=>2}
def S.h1 (s:S)(a:Nat):List Nat:=(s.path.take a).reverse++s.heap
def S.step (s:S)(a b:Nat):S where
 k:=s.k+1
 path:=(s.k+3)::s.path.drop a
 heap:=(s.h1 a).drop b
 i0:=put s.i0 ((s.path.drop a).headD 0) (s.i0 ((s.path.drop a).headD 0)++[s.k+3])
 i1:=put s.i1 (((s.h1 a).drop b).headD 0) (s.i1 (((s.h1 a).drop b).headD 0)++[s.k+3])
 i2:=put s.i2 (s.k+3) ((s.h1 a).take b)
 o0:=put s.o0 (s.k+3) ((s.path.drop a).headD 0)
 o1:=put s.o1 (s.k+3) (((s.h1 a).drop b).headD 0)
 o2:=λq=>if q=s.k+3 then 2 else if q∈(s.h1 a).take b then s.k+3 else s.o2 q
structure bE9 (s:S):Prop where
 nd:∀q,(s.row q).Nodup
 self:∀q,q∉s.row q
 tri:∀q a b,adj (s.row q) a b->adj (s.row a) b q
 lt:∀q,∀p∈s.row q,p<s.k+3
 pe:∃p,s.path=p++[0]
 he:∃h,s.heap=h++[1]
 bd:∀q,(q∈s.path\/q∈s.heap)->q≠2/\(3<=q->s.o2 q=2)
 emp:∀q,s.k+3<=q->s.i0 q=[]/\s.i1 q=[]
theorem bA8 {s:S}{q:Nat}(h:s.k+3<=q):s.row q=[]:=by
 unfold S.row;rw[if_neg (by omega),if_neg (by omega),if_neg (by omega),if_neg (by omega)]
theorem R9 {s:S}{q:Nat}(h:3<=q)(h':q<s.k+3):s.row q=s.o0 q::(s.i2 q++s.o1 q::(s.i0 q++s.o2 q::(s.i1 q).reverse)):=by
 unfold S.row;rw[if_neg (by omega),if_neg (by omega),if_neg (by omega),if_pos h']
theorem aG0 {s:S}:s.row 2=s.path.reverse++s.heap:=by simp[S.row]
theorem aJ5 {s:S}:s.row 0=1::(s.i0 0++[2]):=by simp[S.row]
theorem aT1 {s:S}:s.row 1=2::((s.i1 1).reverse++[0]):=by simp[S.row]
theorem bR8:bE9 S.first where
 nd:=λq=>by
  unfold S.row S.first;dsimp only
  repeat' split
  all_goals simp
  omega
 self:=λq=>by
  unfold S.row S.first;dsimp only
  repeat' split
  all_goals simp
  all_goals omega
 tri:=λq a b h=>by
  have e:∀q a b,adj (S.first.row q) a b↔(q=0/\((a=1/\b=2)\/(a=2/\b=1)))\/(q=1/\((a=2/\b=0)\/(a=0/\b=2)))\/(q=2/\((a=0/\b=1)\/(a=1/\b=0))):=λq a b=>by
   unfold S.row S.first adj;dsimp only
   repeat' split
   all_goals (simp_all[lin])
   all_goals omega
  rw[e]at h ⊢;rcases h with ⟨rfl,⟨rfl,rfl⟩ | ⟨rfl,rfl⟩⟩ | ⟨rfl,⟨rfl,rfl⟩ | ⟨rfl,rfl⟩⟩ | ⟨rfl,⟨rfl,rfl⟩ | ⟨rfl,rfl⟩⟩ <;> decide
 lt:=λq p=>by
  unfold S.row S.first;dsimp only
  repeat' split
  all_goals (simp <;> omega)
 pe:=⟨[],rfl⟩
 he:=⟨[],rfl⟩
 bd:=λq h=>by
  simp only[S.first,Ad6]at h;omega
 emp:=λq _=>⟨rfl,rfl⟩
theorem bX4 {s:S}(I:bE9 s){a b:Nat}(ha:a<s.path.length)(hb:b<a+s.heap.length) :
  ∃x px y hy,s.path.drop a=x::px/\(s.h1 a).drop b=y::hy/\Edit s.row (s.step a b).row (s.k+3) x y px.reverse ((s.h1 a).take b) hy/\bE9 (s.step a b):=by
 obtain ⟨p0,hp0⟩:=I.pe;obtain ⟨h0,hh0⟩:=I.he;obtain ⟨x,px,ex⟩:∃x px,s.path.drop a=x::px:=by
  cases e:s.path.drop a with
  | nil=>have:=List.drop_eq_nil_iff.mp e;omega
  | cons x px=>exact⟨x,px,rfl⟩
 have hl:(s.h1 a).length=a+s.heap.length:=by
  unfold S.h1;simp;omega
 obtain ⟨y,hy,ey⟩:∃y hy,(s.h1 a).drop b=y::hy:=by
  cases e:(s.h1 a).drop b with
  | nil=>have:=List.drop_eq_nil_iff.mp e;omega
  | cons y hy=>exact⟨y,hy,rfl⟩
 have two:s.row 2=px.reverse++x::((s.h1 a).take b++y::hy):=by
  rw[aG0,<- ey,Ad2]
  have:s.path=s.path.take a++x::px:=by rw[<- ex,Ad2]
  conv=>lhs;rw[this]
  unfold S.h1
  simp
 have nd2:=I.nd 2
 have self2:=I.self 2
 have lt2:=I.lt 2
 rw[two]at nd2 self2 lt2;have pl:∃p1,x::px=p1++[0]:=by
  rw[<- ex,hp0];rw[hp0]at ha;simp at ha;rw[List.drop_append_of_le_length (by omega)]
  exact⟨_,rfl⟩
 have hyl:∃h1,y::hy=h1++[1]:=by
  rw[<- ey];unfold S.h1;rw[hh0,<- Ad5]
  have:(p0.length:Nat)+1=s.path.length:=by rw[hp0];simp
  have l1:((s.path.take a).reverse++h0).length=a+h0.length:=by simp;omega
  have l2:s.heap.length=h0.length+1:=by rw[hh0];simp
  rw[List.drop_append_of_le_length (by omega)]
  exact⟨_,rfl⟩
 have one_mem:1∈y::hy:=by obtain ⟨h1,e⟩:=hyl;rw[e];simp
 have zero_mem:0∈x::px:=by obtain ⟨h1,e⟩:=pl;rw[e];simp
 generalize hC:(s.h1 a).take b=C at *;have hCm:∀c∈C,c≠0/\c≠1/\c≠2/\c<s.k+3:=by
  intro c hc;refine⟨?_,?_,?_,lt2 c (by simp[hc])⟩
  ·rintro rfl;grind
  ·rintro rfl;grind
  ·rintro rfl;grind
 have hx:x≠1/\x≠2/\x<s.k+3:=⟨by rintro rfl;grind,by rintro rfl;grind,lt2 x (by simp)⟩
 have hyy:y≠0/\y≠2/\y<s.k+3:=⟨by rintro rfl;grind,by rintro rfl;grind,lt2 y (by simp)⟩
 have bd2:∀q,q∈s.row 2->3<=q->s.o2 q=2:=λq hq h3=>by
  rw[aG0]at hq;simp at hq;exact(I.bd q hq).2 h3
 have o2x:3<=x->s.o2 x=2:=bd2 x (by rw[two];simp)
 have o2y:3<=y->s.o2 y=2:=bd2 y (by rw[two];simp)
 have o2c:∀c∈C,s.o2 c=2:=λc hc=>by
  have:=hCm c hc
  exact bd2 c (by rw[two];simp[hc]) (by omega)
 have xy:x≠y:=by rintro rfl;grind
 have xC:x∉C:=by grind
 have yC:y∉C:=by grind
 have E:Edit s.row (s.step a b).row (s.k+3) x y px.reverse C hy:=by
  refine⟨I.nd,I.self,I.tri,by omega,λq hq=>?_,two,?_,bA8 (Aa7 _),?_,?_,?_,?_,?_⟩
  ·have:=I.lt q _ hq;omega
  ·rw[R9 (by omega) (by simp[S.step])]
   have e1:=I.emp (s.k+3) (Aa7 _)
   simp only[S.step,ex,ey,hC,List.headD_cons,C7,if_true];rw[C0 (by omega),C0 (by omega),e1.1,e1.2]
   simp
  ·rw[aG0];simp only[S.step,ex,ey]
   simp
  ·by_cases x0:x=0
   ·subst x0;rcases Ac4 (1::s.i0 0) with e | ⟨u,z,e⟩
    ·cases e
    ·refine⟨u,z,[],?_,?_⟩
     ·rw[aJ5,<- Ab6,e];simp
     ·rw[aJ5];simp only[S.step,ex,List.headD_cons,C7];rw[Ad5,<- Ab6,e];simp
   ·have x3:3<=x:=by omega
    rcases Ac4 (s.o0 x::(s.i2 x++s.o1 x::s.i0 x)) with e | ⟨u,z,e⟩
    ·cases e
    ·refine⟨u,z,(s.i1 x).reverse,?_,?_⟩
     ·rw[R9 x3 hx.2.2,o2x x3]
      have:s.o0 x::(s.i2 x++s.o1 x::(s.i0 x++2::(s.i1 x).reverse))=(s.o0 x::(s.i2 x++s.o1 x::s.i0 x))++2::(s.i1 x).reverse:=by simp
      rw[this,e];simp
     ·rw[R9 x3 (by simp[S.step];omega)]
      simp only[S.step,ex,ey,hC,List.headD_cons,C7];rw[C0 (by omega),C0 (by omega),C0 (by omega),C0 xy,if_neg (by omega),if_neg xC,o2x x3]
      have:s.o0 x::(s.i2 x++s.o1 x::(s.i0 x++[s.k+3]++2::(s.i1 x).reverse))=(s.o0 x::(s.i2 x++s.o1 x::s.i0 x))++(s.k+3)::2::(s.i1 x).reverse:=by simp
      rw[this,e];simp
  ·by_cases y1:y=1
   ·subst y1;refine⟨[],(s.i1 1).reverse++[0],?_,?_⟩
    ·rw[aT1];simp
    ·rw[aT1];simp only[S.step,ey,List.headD_cons,C7]
     simp
   ·have y3:3<=y:=by omega
    refine⟨s.o0 y::(s.i2 y++s.o1 y::s.i0 y),(s.i1 y).reverse,?_,?_⟩
    ·rw[R9 y3 hyy.2.2,o2y y3];simp
    ·rw[R9 y3 (by simp[S.step];omega)]
     simp only[S.step,ex,ey,hC,List.headD_cons,C7];rw[C0 (by omega),C0 (by omega),C0 (by omega),C0 (Ne.symm xy),if_neg (by omega),if_neg yC,o2y y3]
     simp
  ·intro c hc;obtain ⟨c0,c1,c2,ck⟩:=hCm c hc;have c3:3<=c:=by omega
   have cx:c≠x:=λe=>xC (e▸hc)
   have cy:c≠y:=λe=>yC (e▸hc)
   rcases Ac4 (s.o0 c::(s.i2 c++s.o1 c::s.i0 c)) with e | ⟨u,z,e⟩
   ·cases e
   ·refine⟨u,z,(s.i1 c).reverse,?_,?_⟩
    ·rw[R9 c3 ck,o2c c hc]
     have:s.o0 c::(s.i2 c++s.o1 c::(s.i0 c++2::(s.i1 c).reverse))=(s.o0 c::(s.i2 c++s.o1 c::s.i0 c))++2::(s.i1 c).reverse:=by simp
     rw[this,e];simp
    ·rw[R9 c3 (by simp[S.step];omega)]
     simp only[S.step,ex,ey,hC,List.headD_cons];rw[C0 (by omega),C0 (by omega),C0 (by omega),C0 cx,C0 cy,if_neg (by omega),if_pos hc]
     have:s.o0 c::(s.i2 c++s.o1 c::(s.i0 c++(s.k+3)::(s.i1 c).reverse))=(s.o0 c::(s.i2 c++s.o1 c::s.i0 c))++(s.k+3)::(s.i1 c).reverse:=by simp
     rw[this,e];simp
  ·intro q q2 qv qx qy qC;by_cases q0:q=0
   ·subst q0;rw[aJ5,aJ5];simp only[S.step,ex,List.headD_cons];rw[C0 qx]
   by_cases q1:q=1
   ·subst q1;rw[aT1,aT1];simp only[S.step,ey,List.headD_cons];rw[C0 qy]
   by_cases qk:q<s.k+3
   ·rw[R9 (by omega) qk,R9 (by omega) (by simp[S.step];omega)]
    simp only[S.step,ex,ey,hC,List.headD_cons];rw[C0 qv,C0 qv,C0 qv,C0 qx,C0 qy,if_neg qv,if_neg qC]
   ·rw[bA8 (s:=s.step a b) (by show s.k+1+3<=q;omega),bA8 (s:=s) (by omega)]
 refine⟨x,px,y,hy,ex,ey,E,⟨E.nd',E.self',E.tri',λq p hp=>?_,?_,?_,λq hq=>?_,λq hq=>?_⟩⟩
 ·show p<s.k+1+3
  by_cases h2:q=2
  ·subst h2;rw[E.new2]at hp
   have:=lt2 p
   grind
  by_cases hv:q=s.k+3
  ·subst hv;rw[E.newv]at hp
   have:=lt2 p
   grind
  by_cases qx:q=x
  ·subst qx;obtain ⟨u,z,w,o,n⟩:=E.rx
   have:=I.lt q p
   rw[o]at this;rw[n]at hp;grind
  by_cases qy:q=y
  ·subst qy;obtain ⟨u,w,o,n⟩:=E.ry
   have:=I.lt q p
   rw[o]at this;rw[n]at hp;grind
  by_cases qC:q∈C
  ·obtain ⟨u,z,w,o,n⟩:=E.rc q qC
   have:=I.lt q p
   rw[o]at this;rw[n]at hp;grind
  ·rw[E.rest q h2 hv qx qy qC]at hp
   have:=I.lt q p hp
   omega
 ·obtain ⟨p1,e⟩:=pl;exact⟨(s.k+3)::p1,by simp only[S.step,ex,e];simp⟩
 ·obtain ⟨h1,e⟩:=hyl;exact⟨h1,by simp only[S.step,ey,e]⟩
 ·have hq':q=s.k+3\/q∈x::px\/q∈y::hy:=by
   simp only[S.step,ex,ey]at hq;simp at hq ⊢;grind
  rcases hq' with rfl | hq'
  ·exact⟨by omega,λ_=>by simp[S.step]⟩
  ·have hm:q∈s.row 2:=by rw[two];grind
   have hnC:q∉C:=by grind
   refine⟨by rintro rfl;exact I.self 2 hm,λh3=>?_⟩
   simp only[S.step,hC];rw[if_neg (by have:=I.lt 2 q hm;omega),if_neg hnC]
   exact bd2 q hm h3
 ·have hq:s.k+1+3<=q:=hq
  have:=I.emp q (by omega)
  simp only[S.step,ex,ey,List.headD_cons];rw[C0 (by omega),C0 (by omega)]
  exact this
end TT
namespace TT
theorem bL9 {f:Nat->Nat}(l:List Nat)(x y:Nat):lin (l.map f) x y↔∃a b,x=f a/\y=f b/\lin l a b:=by
 induction l with
 | nil=>simp[bU1]
 | cons c l ih=>
  cases l with
  | nil=>simp[aO0]
  | cons d l=>
   simp only[Ac6,D4];simp only[Ac6]at ih;rw[ih];constructor
   ·rintro (⟨rfl,rfl⟩ | ⟨a,b,e1,e2,h⟩)
    ·exact⟨c,d,rfl,rfl,.inl ⟨rfl,rfl⟩⟩
    ·exact⟨a,b,e1,e2,.inr h⟩
   ·rintro ⟨a,b,rfl,rfl,⟨rfl,rfl⟩ | h⟩
    ·exact .inl ⟨rfl,rfl⟩
    ·exact .inr ⟨a,b,rfl,rfl,h⟩
theorem cV6 {f:Nat->Nat}(l:List Nat)(x y:Nat):adj (l.map f) x y↔∃a b,x=f a/\y=f b/\adj l a b:=by
 unfold adj;rw[<- bL9]
 simp
theorem cX5 (u w:List Nat)(x y:Nat):adj (w++u) x y↔adj (u++w) x y:=by
 cases u with
 | nil=>simp
 | cons a u=>
  cases w with
  | nil=>simp
  | cons b w=>
   unfold adj;have e1:b::w++a::u++(b::w++a::u).take 1=(b::w)++a::(u++[b]):=by simp
   have e2:a::u++b::w++(a::u++b::w).take 1=(a::u)++b::(w++[a]):=by simp
   rw[e1,e2,D9 a (u++[b]) x y (b::w),D9 b (w++[a]) x y (a::u)];simp only[Ab6];exact Or.comm
theorem W8 {l:List Nat}{a b:Nat}(h:adj l a b):a∈l/\b∈l:=by
 have:=aD1 h
 simp only[Aa0]at this;exact⟨this.1.elim id List.mem_of_mem_take,this.2.elim id List.mem_of_mem_take⟩
theorem bK3 {l:List Nat}{a:Nat}(h:a∈l):∃b,adj l a b:=by
 obtain ⟨u,w,rfl⟩:=List.append_of_mem h;obtain ⟨b,r,e⟩:∃b r,(w++(u++[a]).take 1)=b::r:=by
  cases w with
  | nil=>cases u with
   | nil=>exact⟨a,[],rfl⟩
   | cons c u=>exact⟨c,[],rfl⟩
  | cons c w=>exact⟨c,_,rfl⟩
 refine⟨b,?_⟩;unfold adj;have t:(u++a::w).take 1=(u++[a]).take 1:=by cases u <;> simp
 rw[t,Ad5,Ab6,e,D9,D4];exact .inr (.inl ⟨rfl,rfl⟩)
end TT
namespace TT
def mn (l:List Nat):Nat:=l.min?.getD 0
theorem bV9 {l:List Nat}(h:l≠[]):mn l∈l/\∀a∈l,mn l<=a:=by
 unfold mn;cases e:l.min? with
 | none=>exact absurd (List.min?_eq_none_iff.mp e) h
 | some m=>exact List.min?_eq_some_iff.mp e
def W5 (l:List Nat):List Nat:=l.drop (l.idxOf (mn l))++l.take (l.idxOf (mn l))
theorem aF4 (l:List Nat):(W5 l).Perm l:=by
 unfold W5;exact(List.perm_append_comm).trans (by rw[Ad2])
theorem cF0 (l:List Nat)(a b:Nat):adj (W5 l) a b↔adj l a b:=by
 unfold W5;rw[cX5,Ad2]
theorem bF6 (l:List Nat):(W5 l).length=l.length:=(aF4 l).length_eq
theorem cB1 {l:List Nat}{a:Nat}:a∈W5 l↔a∈l:=(aF4 l).mem_iff
theorem bM0 {l:List Nat}:(W5 l).Nodup↔l.Nodup:=(aF4 l).nodup_iff
structure Good (n:Nat)(r:Nat->List Nat):Prop where
 nd:∀q,(r q).Nodup
 self:∀q,q∉r q
 tri:∀q a b,adj (r q) a b->adj (r a) b q
 lt:∀q,∀p∈r q,p<n
 hi:∀q,n<=q->r q=[]
 two:∀q,q<n->2<=(r q).length
 out:adj (r 2) 1 0
 conn:∀R:Nat->Prop,R 0->(∀a b,R a->b∈r a->R b)->∀q,q<n->R q
 sum:((List.range n).map λq=>(r q).length).sum+12=6*n
 three:3<=n
theorem Good.sym {n:Nat}{r:Nat->List Nat}(G:Good n r){p q:Nat}(h:q∈r p):p∈r q:=by
 obtain ⟨b,hb⟩:=bK3 h;exact(W8 (G.tri _ _ _ hb)).2
structure bO2 (s:S):Prop where
 two:∀q,q<s.k+3->2<=(s.row q).length
 o0:∀q,3<=q->q<s.k+3->s.o0 q<q/\s.o0 q∈s.row q
 sum:((List.range (s.k+3)).map λq=>(s.row q).length).sum+12=6*(s.k+3)
theorem bR1:bO2 S.first where
 two:=λq h=>by
  have h:q<3:=h
  match q,h with
  | 0,_=>decide
  | 1,_=>decide
  | 2,_=>decide
 o0:=λq h h'=>by
  have h':q<3:=h'
  omega
 sum:=by decide
theorem bO8 {n:Nat}{f g:Nat->Nat}{l:List Nat}(nd:l.Nodup)(hl:∀q∈l,q<n)(h:∀q,q<n->q∉l->f q=g q) :
  ((List.range n).map f).sum+(l.map g).sum=((List.range n).map g).sum+(l.map f).sum:=by
 induction l generalizing f with
 | nil=>
  have:(List.range n).map f=(List.range n).map g:=List.map_congr_left λq hq=>h q (Ab5.mp hq) (by simp)
  simp[this]
 | cons c l ih=>
  have hc:=hl c (by simp)
  have nd':=Aa5.mp nd
  have key:∀(f:Nat->Nat) (x:Nat),((List.range n).map λq=>if q=c then x else f q).sum+f c=((List.range n).map f).sum+x:=by
   intro f x
   clear h ih hl nd nd'
   induction n with
   | zero=>omega
   | succ n ihn=>
    rw[List.range_succ,Ad1,Ad1,List.sum_append,List.sum_append];by_cases e:c=n
    ·subst e
     have:(List.range c).map (λq=>if q=c then x else f q)=(List.range c).map f:=List.map_congr_left λq hq=>by
      have:=Ab5.mp hq
      rw[if_neg (by omega)]
     rw[this]
     simp
     omega
    ·have:=ihn (by omega)
     simp only[Ac6,List.map_nil,List.sum_cons,List.sum_nil];rw[if_neg (Ne.symm e)];omega
  have k1:=key f (g c)
  have:=ih (f:=λq=>if q=c then g c else f q) nd'.2 (λq hq=>hl q (by simp[hq])) (λq hq hn=>by
   by_cases e:q=c
   ·subst e;simp
   ·simp only[if_neg e];exact h q hq (by simp[e,hn]))
  have e2:(l.map λq=>if q=c then g c else f q)=l.map f:=List.map_congr_left λq hq=>by
   rw[if_neg (by rintro rfl;exact nd'.1 hq)]
  rw[e2]at this;simp only[Ac6,List.sum_cons];omega
end TT
namespace TT
theorem cB0 {s:S}(I:bE9 s)(M:bO2 s){a b:Nat}(ha:a<s.path.length)(hb:b<a+s.heap.length):bO2 (s.step a b):=by
 obtain ⟨x,px,y,hy,ex,ey,E,I'⟩:=bX4 I ha hb;obtain ⟨⟨f1,f2,f3,f4,f5⟩,fc,nd⟩:=E.facts;have hx:x<s.k+3:=I.lt 2 x (by rw[E.two];simp)
 have hyl:y<s.k+3:=I.lt 2 y (by rw[E.two];simp)
 have lx:((s.step a b).row x).length=(s.row x).length+1:=by
  obtain ⟨u,z,w,o,n⟩:=E.rx;rw[o,n];simp;omega
 have ly:((s.step a b).row y).length=(s.row y).length+1:=by
  obtain ⟨u,w,o,n⟩:=E.ry;rw[o,n];simp;omega
 have lc:∀q,q≠2->q≠s.k+3->q≠x->q≠y->((s.step a b).row q).length=(s.row q).length:=λq h2 hv qx qy=>by
  by_cases hc:q∈(s.h1 a).take b
  ·obtain ⟨u,z,w,o,n⟩:=E.rc q hc;rw[o,n];simp
  ·rw[E.rest q h2 hv qx qy hc]
 have l2:((s.step a b).row 2).length=px.length+3+hy.length:=by rw[E.new2];simp;omega
 have g2:(s.row 2).length=px.length+2+((s.h1 a).take b).length+hy.length:=by rw[E.two];simp only[Ab7,List.length_cons,Ad9];omega
 have lv:((s.step a b).row (s.k+3)).length=((s.h1 a).take b).length+3:=by rw[E.newv];simp only[Ab7,List.length_cons,List.length_nil]
 have gv:(s.row (s.k+3)).length=0:=by rw[E.oldv];rfl
 refine⟨λq hq=>?_,λq h3 hq=>?_,?_⟩
 ·have hq:q<s.k+1+3:=hq
  by_cases h2:q=2
  ·rw[h2,l2];omega
  by_cases hv:q=s.k+3
  ·rw[hv,lv];omega
  have:=M.two q (by omega)
  by_cases qx:q=x
  ·rw[qx,lx];rw[qx]at this;omega
  by_cases qy:q=y
  ·rw[qy,ly];rw[qy]at this;omega
  rw[lc q h2 hv qx qy];exact this
 ·have hq':q<s.k+1+3:=hq
  refine⟨?_,by rw[R9 h3 hq];simp⟩
  by_cases hv:q=s.k+3
  ·subst hv;simp only[S.step,ex,List.headD_cons,C7];exact hx
  ·simp only[S.step];rw[C0 hv];exact(M.o0 q h3 (by omega)).1
 ·show((List.range (s.k+1+3)).map λq=>((s.step a b).row q).length).sum+12=6*(s.k+1+3)
  have sc:=bO8 (n:=s.k+1+3) (f:=λq=>((s.step a b).row q).length) (g:=λq=>(s.row q).length) (l:=[2,s.k+3,x,y]) (by
   have:=E.v2
   simp only[Aa5,Aa1,Ac2,or_false,not_or,List.nodup_nil,not_false_eq_true,and_true];exact⟨⟨by omega,Ne.symm f2,Ne.symm f3⟩,⟨Ne.symm f4,Ne.symm f5⟩,f1⟩) (by
   intro q hq;simp only[Aa1,Ac2,or_false]at hq;omega) (by
   intro q hq hn;simp only[Aa1,Ac2,or_false,not_or]at hn;exact lc q hn.1 hn.2.1 hn.2.2.1 hn.2.2.2)
  simp only[Ac6,List.map_nil,List.sum_cons,List.sum_nil]at sc;have e:((List.range (s.k+1+3)).map λq=>(s.row q).length).sum=((List.range (s.k+3)).map λq=>(s.row q).length).sum:=by
   rw[show s.k+1+3=(s.k+3)+1 by omega,List.range_succ,Ad1,List.sum_append]
   simp only[Ac6,List.map_nil,List.sum_cons,List.sum_nil,gv];omega
  have:=M.sum
  rw[l2,lv,lx,ly,g2,gv,e]at sc;omega
theorem cQ9 {s:S}(I:bE9 s)(M:bO2 s):Good (s.k+3) s.row where
 nd:=I.nd
 self:=I.self
 tri:=I.tri
 lt:=I.lt
 hi:=λq h=>bA8 h
 two:=M.two
 out:=by
  obtain ⟨p,ep⟩:=I.pe;obtain ⟨h,eh⟩:=I.he;rw[aG0,ep,eh];unfold adj
  have:(p++[0]).reverse++(h++[1])++((p++[0]).reverse++(h++[1])).take 1=(0::p.reverse++h)++1::[0]:=by simp
  rw[this,D9,D4];exact .inr (.inl ⟨rfl,rfl⟩)
 conn:=λR h0 hR q hq=>by
  have r0:∀b∈s.row 0,R b:=λb hb=>hR 0 b h0 hb
  have m1:(1:Nat)∈s.row 0:=by rw[aJ5];simp
  have m2:(2:Nat)∈s.row 0:=by rw[aJ5];simp
  have sym:∀p q,q∈s.row p->p∈s.row q:=λp q h=>by
   obtain ⟨b,hb⟩:=bK3 h;exact(W8 (I.tri _ _ _ hb)).2
  induction q using Nat.strongRecOn with
  | _ q ih=>
   by_cases h3:3<=q
   ·obtain ⟨h1,h2⟩:=M.o0 q h3 hq;exact hR _ _ (ih _ h1 (by omega)) (sym _ _ h2)
   ·have:q=0\/q=1\/q=2:=by omega
    rcases this with rfl | rfl | rfl
    ·exact h0
    ·exact r0 1 m1
    ·exact r0 2 m2
 sum:=M.sum
 three:=by omega
structure Nm (n:Nat)(f:Nat->Nat):Prop where
 lt:∀v,v<n->f v<n
 inj:∀v w,v<n->w<n->f v=f w->v=w
 c0:f 0=0
 c1:f 1=1
 c2:f 2=2
theorem aY2 {l:List Nat}(nd:l.Nodup):∀{m:List Nat},(∀x∈l,x∈m)->l.length<=m.length:=by
 induction l with
 | nil=>intro m _;simp
 | cons a l ih=>
  intro m h;have nd':=Aa5.mp nd;have hm:a∈m:=h a (by simp)
  have:=ih nd'.2 (m:=m.erase a) λx hx=>(List.mem_erase_of_ne (by rintro rfl;exact nd'.1 hx)).mpr (h x (by simp[hx]))
  have hl:=List.length_erase_of_mem hm
  have:=List.length_pos_of_mem hm
  simp only[List.length_cons];omega
theorem Nm.surj {n:Nat}{f:Nat->Nat}(h:Nm n f)(q:Nat)(hq:q<n):∃v,v<n/\f v=q:=by
 have nd:((List.range n).map f).Nodup:=by
  rw[Ac5,Ad8];refine List.Pairwise.imp_of_mem ?_ (Ac5.mp List.nodup_range);intro a b ha hb hne e;exact hne (h.inj a b (Ab5.mp ha) (Ab5.mp hb) e)
 have sub:(List.range n).map f ⊆ List.range n:=λx hx=>by
  obtain ⟨v,hv,rfl⟩:=Aa8.mp hx;exact Ab5.mpr (h.lt v (Ab5.mp hv))
 have:q∈(List.range n).map f:=Classical.byContradiction λhn=>by
  have hq':=Ab5.mpr hq
  have:=aY2 nd (m:=(List.range n).erase q) λx hx=>(List.mem_erase_of_ne (by rintro rfl;exact hn hx)).mpr (sub hx)
  have hl:=List.length_erase_of_mem hq'
  have:=List.length_pos_of_mem hq'
  simp only[Aa3,List.length_range]at *;omega
 obtain ⟨v,hv,e⟩:=Aa8.mp this;exact⟨v,Ab5.mp hv,e⟩
theorem Good.named {n:Nat}{r r':Nat->List Nat}{f:Nat->Nat}(G:Good n r)(F:Nm n f)(h:∀v,v<n->r' (f v)=W5 ((r v).map f))(hh:∀q,n<=q->r' q=[]):Good n r':=by
 have cJ8:∀v,v<n->∀x y,adj (r' (f v)) x y↔∃a b,x=f a/\y=f b/\adj (r v) a b:=λv hv x y=>by rw[h v hv,cF0,cV6]
 have mem':∀v,v<n->∀x,x∈r' (f v)↔∃a,a∈r v/\x=f a:=λv hv x=>by
  rw[h v hv,cB1,Aa8];exact⟨λ⟨a,h1,h2⟩=>⟨a,h1,h2.symm⟩,λ⟨a,h1,h2⟩=>⟨a,h1,h2.symm⟩⟩
 have up:∀q,n<=q\/∃v,v<n/\f v=q:=λq=>by
  by_cases hq:n<=q
  ·exact .inl hq
  ·exact .inr (F.surj q (by omega))
 have len:∀v,v<n->(r' (f v)).length=(r v).length:=λv hv=>by rw[h v hv,bF6,Aa3]
 refine⟨λq=>?_,λq=>?_,λq a b hab=>?_,λq p hp=>?_,hh,λq hq=>?_,?_,λR h0 hR q hq=>?_,?_,G.three⟩
 ·rcases up q with hq | ⟨v,hv,rfl⟩
  ·rw[hh q hq];simp
  ·rw[h v hv,bM0,Ac5,Ad8];refine List.Pairwise.imp_of_mem ?_ (Ac5.mp (G.nd v));intro a b ha hb hne e;exact hne (F.inj a b (G.lt v a ha) (G.lt v b hb) e)
 ·rcases up q with hq | ⟨v,hv,rfl⟩
  ·rw[hh q hq];simp
  ·intro hm;obtain ⟨a,ha,e⟩:=(mem' v hv _).mp hm;exact G.self v (F.inj v a hv (G.lt v a ha) e▸ha)
 ·rcases up q with hq | ⟨v,hv,rfl⟩
  ·rw[hh q hq]at hab;exact hab.elim
  ·obtain ⟨c,d,rfl,rfl,hcd⟩:=(cJ8 v hv _ _).mp hab;exact(cJ8 c (G.lt v c (W8 hcd).1) _ _).mpr ⟨d,v,rfl,rfl,G.tri _ _ _ hcd⟩
 ·rcases up q with hq | ⟨v,hv,rfl⟩
  ·rw[hh q hq]at hp;exact absurd hp (by simp)
  ·obtain ⟨a,ha,rfl⟩:=(mem' v hv _).mp hp;exact F.lt a (G.lt v a ha)
 ·obtain ⟨v,hv,rfl⟩:=F.surj q hq;rw[len v hv];exact G.two v hv
 ·have:=G.three
  have:=(cJ8 2 (by omega) 1 0).mpr ⟨1,0,F.c1.symm,F.c0.symm,G.out⟩
  rwa [F.c2]at this
 ·obtain ⟨v,hv,rfl⟩:=F.surj q hq
  have:=G.three
  refine G.conn (λv=>v<n->R (f v)) (λ_=>by rw[F.c0];exact h0) (λa b ha hb hbn=>?_) v hv hv
  by_cases han:a<n
  ·exact hR _ _ (ha han) ((mem' a han _).mpr ⟨b,hb,rfl⟩)
  ·rw[G.hi a (by omega)]at hb;exact absurd hb (by simp)
 ·have p:((List.range n).map f).Perm (List.range n):=by
   refine(List.perm_ext_iff_of_nodup ?_ List.nodup_range).mpr λq=>?_
   ·rw[Ac5,Ad8];refine List.Pairwise.imp_of_mem ?_ (Ac5.mp List.nodup_range);intro a b ha hb hne e;exact hne (F.inj a b (Ab5.mp ha) (Ab5.mp hb) e)
   ·constructor
    ·intro hq;obtain ⟨v,hv,rfl⟩:=Aa8.mp hq;exact Ab5.mpr (F.lt v (Ab5.mp hv))
    ·intro hq;obtain ⟨v,hv,rfl⟩:=F.surj q (Ab5.mp hq);exact Aa8.mpr ⟨v,Ab5.mpr hv,rfl⟩
  have e1:=(p.map λq=>(r' q).length).sum_nat
  have e2:((List.range n).map f).map (λq=>(r' q).length)=(List.range n).map λv=>(r v).length:=by
   rw[Ae0];exact List.map_congr_left λv hv=>len v (Ab5.mp hv)
  rw[e2]at e1;rw[<- e1];exact G.sum
end TT
namespace TT
def pv (F:Nat->Nat):Nat->Nat
 | 0=>0
 | i+1=>F i
def gst (F G:Nat->Nat):Nat->S
 | 0=>S.first
 | i+1=>(gst F G i).step (F i-pv F i) (G i-pv G i)
structure Rws (F G:Nat->Nat)(m:Nat):Prop where
 f1:∀i,i<m->pv F i<=F i
 f2:∀i,i<m->F i<=i
 g1:∀i,i<m->pv G i<=G i
 g2:∀i,i<m->G i<=F i
structure dN7 (F G:Nat->Nat)(i:Nat):Prop where
 inv:bE9 (gst F G i)
 more:bO2 (gst F G i)
 k:(gst F G i).k=i
 p:(gst F G i).path.length+pv F i=1+i
 h:(gst F G i).heap.length+pv G i=1+pv F i
 le:pv F i<=i
 le2:pv G i<=pv F i
theorem V7 {F G:Nat->Nat}{m:Nat}(R:Rws F G m):∀i,i<=m->dN7 F G i
 | 0,_=>⟨bR8,bR1,rfl,rfl,rfl,Aa7 _,Aa7 _⟩
 | i+1,hi=>by
  have I:=V7 R i (by omega)
  have f1:=R.f1 i (by omega)
  have f2:=R.f2 i (by omega)
  have g1:=R.g1 i (by omega)
  have g2:=R.g2 i (by omega)
  have h1:=I.p
  have h2:=I.h
  have ha:F i-pv F i<(gst F G i).path.length:=by omega
  have hb:G i-pv G i<(F i-pv F i)+(gst F G i).heap.length:=by omega
  obtain ⟨x,px,y,hy,ex,ey,E,I'⟩:=bX4 I.inv ha hb;refine⟨I',cB0 I.inv I.more ha hb,?_,?_,?_,?_,g2⟩
  ·show(gst F G i).k+1=i+1
   rw[I.k]
  ·show(((gst F G i).k+3)::(gst F G i).path.drop (F i-pv F i)).length+F i=1+(i+1)
   rw[List.length_cons,List.length_drop];omega
  ·show(((gst F G i).h1 (F i-pv F i)).drop (G i-pv G i)).length+G i=1+F i
   rw[List.length_drop];unfold S.h1;rw[Ab7,Ad9,Ad0];omega
  ·show F i<=i+1
   omega
theorem cQ0 {F G:Nat->Nat}{m:Nat}(R:Rws F G m):Good (m+3) (gst F G m).row:=by
 have I:=V7 R m (Aa7 _)
 have:=cQ9 I.inv I.more
 rwa [I.k]at this
end TT
namespace TT
theorem dA5 (F G:Nat->Nat):∀i,(gst F G i).k=i
 | 0=>rfl
 | i+1=>by show(gst F G i).k+1=i+1;rw[dA5 F G i]
def pa (F G:Nat->Nat)(v:Nat):List Nat:=(gst F G (v-2)).path.tail
def hp (F G:Nat->Nat)(v:Nat):List Nat:=(gst F G (v-2)).heap
theorem aC8 (F G:Nat->Nat)(i:Nat):(gst F G (i+1)).path=(i+3)::pa F G (i+3):=by
 show((gst F G i).k+3)::(gst F G i).path.drop (F i-pv F i)=_
 rw[dA5];rfl
section
variable {F G:Nat->Nat}{m:Nat}
structure At (F G:Nat->Nat)(i:Nat):Prop where
 pe:∃p,pa F G (i+3)=p++[0]
 he:∃h,hp F G (i+3)=h++[1]
 nd:((i+3)::(pa F G (i+3)++hp F G (i+3))).Nodup
 lt:∀x,x∈pa F G (i+3)\/x∈hp F G (i+3)->x<i+3/\x≠2
theorem dL7 (R:Rws F G m){i:Nat}(hi:i<m):At F G i:=by
 have I:=V7 R (i+1) (by omega)
 have nd:=I.inv.nd 2
 rw[aG0,aC8]at nd;have lt:=I.inv.lt 2;rw[aG0,aC8,I.k]at lt;have bd:=I.inv.bd;obtain ⟨p,hp'⟩:=I.inv.pe;obtain ⟨h,hh⟩:=I.inv.he;rw[aC8]at hp';have nd':((i+3)::(pa F G (i+3)++hp F G (i+3))).Nodup:=by
  have hpm:(((i+3)::pa F G (i+3)).reverse++(gst F G (i+1)).heap).Perm ((i+3)::(pa F G (i+3)++hp F G (i+3))):=by
   show(((i+3)::pa F G (i+3)).reverse++(gst F G (i+1)).heap).Perm (((i+3)::pa F G (i+3))++(gst F G (i+1)).heap)
   exact(List.reverse_perm _).append_right _
  exact hpm.nodup_iff.mp nd
 refine⟨?_,⟨h,hh⟩,nd',λx hx=>?_⟩
 ·cases p with
  | nil=>simp at hp'
  | cons y p=>simp only[Ab6,List.cons.injEq]at hp';exact⟨p,hp'.2⟩
 ·have h1:=lt x (by
   rcases hx with hx | hx
   ·simp[hx]
   ·exact Ac1 _ hx)
  have h2:=(bd x (by
   rcases hx with hx | hx
   ·left;rw[aC8];simp[hx]
   ·right;exact hx)).1
  have h3:x≠i+3:=by
   rintro rfl
   have:=(Aa5.mp nd').1
   exact this (Aa0.mpr hx)
  omega
end
end TT
namespace TT
structure Bt (F G:Nat->Nat)(m:Nat)(f:Nat->Nat)(d t:List (List Nat)):Prop where
 R:Rws F G m
 N:Nm (m+3) f
 dl:d.length=m+3
 dr:∀v,v<m+3->d[f v]? = some (W5 (((gst F G m).row v).map f))
 tl:t.length=m
 tr:∀v,3<=v->v<m+3->t[f v-3]? = some [f ((gst F G m).o0 v),f ((gst F G m).o1 v),f ((gst F G m).o2 v)]
theorem Nm.lo {n:Nat}{f:Nat->Nat}(N:Nm n f)(h:3<=n){q:Nat}(hq:q<n):f q<3↔q<3:=by
 constructor
 ·intro hl;have a0:=N.c0;have a1:=N.c1;have a2:=N.c2;rcases (show f q=0\/f q=1\/f q=2 by omega) with e | e | e
  ·have:=N.inj q 0 hq (by omega) (by omega);omega
  ·have:=N.inj q 1 hq (by omega) (by omega);omega
  ·have:=N.inj q 2 hq (by omega) (by omega);omega
 ·intro hl;have a0:=N.c0;have a1:=N.c1;have a2:=N.c2;rcases (show q=0\/q=1\/q=2 by omega) with e | e | e <;> subst e <;> omega
end TT
namespace TT
section
variable {F G:Nat->Nat}{m:Nat}{f:Nat->Nat}{d t:List (List Nat)}
def trn (d:List (List Nat))(q:Nat):List Nat:=d[q]?.getD []
theorem Bt.good (B:Bt F G m f d t):Good (m+3) (trn d):=by
 refine Good.named (cQ0 B.R) B.N (λv hv=>?_) λq hq=>?_
 ·unfold trn;rw[B.dr v hv];rfl
 ·unfold trn;rw[Ad4 (by rw[B.dl];exact hq)];rfl
end
end TT
namespace TT
end TT
namespace TT
variable {F G:Nat->Nat}{m:Nat}
theorem U8 {a b:List Nat}(h:(a++b).Nodup):∀x,x∈a->x∈b->False:=λx h1 h2=>(Aa4.mp h).2.2 x h1 x h2 rfl
structure dK7 (F G:Nat->Nat)(i:Nat):Prop where
 k:(gst F G i).k=i
 a:F i-pv F i<(gst F G i).path.length
 b:G i-pv G i<((gst F G i).h1 (F i-pv F i)).length
 pl:(gst F G i).path.length<=i+1
 hl:((gst F G i).h1 (F i-pv F i)).length<=i+2
 lo:∀x∈((gst F G i).h1 (F i-pv F i)).take (G i-pv G i),3<=x/\x<i+3
 px:∃x r,(gst F G i).path.drop (F i-pv F i)=x::r/\x<i+3/\((gst F G i).i0 x).length<=i+3
 hy:∃y r,((gst F G i).h1 (F i-pv F i)).drop (G i-pv G i)=y::r/\y<i+3/\((gst F G i).i1 y).length<=i+3
 e0:(gst F G i).i0 (i+3)=[]
 e1:(gst F G i).i1 (i+3)=[]
theorem cK4 {l:List Nat}{n:Nat}(nd:l.Nodup)(h:∀x∈l,x<n):l.length<=n:=by
 have:=aY2 nd (m:=List.range n) λx hx=>Ab5.mpr (h x hx)
 simpa using this
theorem aO8 {s:S}(I:bE9 s)(q:Nat):(s.row q).length<=s.k+3:=cK4 (I.nd q) (I.lt q)
theorem dB7 {s:S}(I:bE9 s){q:Nat}(h:q<s.k+3)(h2:q≠2)(h1:q≠1):(s.i0 q).length<=s.k+3:=by
 have:=aO8 I q
 by_cases h0:q=0
 ·subst h0;rw[aJ5]at this;simp at this;omega
 ·rw[R9 (by omega) h]at this;simp at this;omega
theorem dD4 {s:S}(I:bE9 s){q:Nat}(h:q<s.k+3)(h2:q≠2)(h0:q≠0):(s.i1 q).length<=s.k+3:=by
 have:=aO8 I q
 by_cases h1:q=1
 ·subst h1;rw[aT1]at this;simp at this;omega
 ·rw[R9 (by omega) h]at this;simp at this;omega
theorem dF0 (R:Rws F G m){i:Nat}(hi:i<m):dK7 F G i:=by
 have I:=V7 R i (by omega)
 have A:=dL7 R hi
 have f1:=R.f1 i hi
 have f2:=R.f2 i hi
 have g1:=R.g1 i hi
 have g2:=R.g2 i hi
 have h1:=I.p
 have h2:=I.h
 have nd:=I.inv.nd 2
 have lt:=I.inv.lt 2
 rw[aG0]at nd lt;rw[I.k]at lt;have hx1:((gst F G i).h1 (F i-pv F i)).length=(F i-pv F i)+(gst F G i).heap.length:=by
  unfold S.h1;rw[Ab7,Ad9,Ad0];omega
 obtain ⟨p,hp⟩:=A.pe;obtain ⟨h,hh⟩:=A.he;have e1:(gst F G i).path.drop (F i-pv F i)=p++[0]:=by rw[<- hp];rfl
 have e2:((gst F G i).h1 (F i-pv F i)).drop (G i-pv G i)=h++[1]:=by rw[<- hh];rfl
 have memp:∀x,x∈(gst F G i).path\/x∈(gst F G i).heap->x<i+3/\x≠2:=λx hx=>⟨lt x (by rcases hx with hx | hx <;> simp[hx]),(I.inv.bd x hx).1⟩
 have memh:∀x∈(gst F G i).h1 (F i-pv F i),x∈(gst F G i).path.take (F i-pv F i)\/x∈(gst F G i).heap:=λx hx=>by
  unfold S.h1 at hx;simpa using hx
 have memh':∀x∈(gst F G i).h1 (F i-pv F i),x∈(gst F G i).path\/x∈(gst F G i).heap:=λx hx=>(memh x hx).imp List.mem_of_mem_take id
 have ndp:((gst F G i).path.take (F i-pv F i)++(gst F G i).path.drop (F i-pv F i)).Nodup:=by
  rw[Ad2]
  have:=(Aa4.mp nd).1
  exact(List.reverse_perm _).nodup_iff.mp this
 have ndh:((gst F G i).h1 (F i-pv F i)).Nodup:=by
  unfold S.h1;refine Aa4.mpr ⟨?_,(Aa4.mp nd).2.1,λx hx y hy e=>?_⟩
  ·exact(List.reverse_perm _).nodup_iff.mpr (Aa4.mp ndp).1
  ·subst e;exact U8 nd x (by simpa using List.mem_of_mem_take (List.mem_reverse.mp hx)) hy
 refine⟨I.k,by omega,by omega,by omega,by omega,λx hx=>?_,?_,?_,?_,?_⟩
 ·have hxm:=List.mem_of_mem_take hx
  obtain ⟨l1,l2⟩:=memp x (memh' x hxm);refine⟨?_,l1⟩;have n1:x≠1:=λe=>by
   subst e;have nd':=ndh;rw[<- Ad2 (G i-pv G i) ((gst F G i).h1 (F i-pv F i))]at nd';exact U8 nd' 1 hx (by rw[e2];simp)
  have n0:x≠0:=λe=>by
   subst e;have z:0∈(gst F G i).path.drop (F i-pv F i):=by rw[e1];simp
   rcases memh 0 hxm with w | w
   ·exact U8 ndp 0 w z
   ·exact U8 nd 0 (by simpa using List.mem_of_mem_drop z) w
  omega
 ·cases hd:(gst F G i).path.drop (F i-pv F i) with
  | nil=>rw[e1]at hd;simp at hd
  | cons x r=>
   have hm:x∈(gst F G i).path:=List.mem_of_mem_drop (by rw[hd];simp:x∈(gst F G i).path.drop (F i-pv F i))
   obtain ⟨l1,l2⟩:=memp x (.inl hm);refine⟨x,r,rfl,l1,?_⟩;have n1:x≠1:=λe=>by
    subst e;obtain ⟨h',hh'⟩:=I.inv.he;exact U8 nd 1 (by simpa using hm) (by rw[hh'];simp)
   have:=dB7 I.inv (q:=x) (by rw[I.k];exact l1) l2 n1
   rwa [I.k]at this
 ·cases hd:((gst F G i).h1 (F i-pv F i)).drop (G i-pv G i) with
  | nil=>rw[e2]at hd;simp at hd
  | cons y r=>
   have hm:y∈(gst F G i).h1 (F i-pv F i):=List.mem_of_mem_drop (by rw[hd];simp:y∈((gst F G i).h1 (F i-pv F i)).drop (G i-pv G i))
   obtain ⟨l1,l2⟩:=memp y (memh' y hm);refine⟨y,r,rfl,l1,?_⟩;have n0:y≠0:=λe=>by
    subst e;have z:0∈(gst F G i).path.drop (F i-pv F i):=by rw[e1];simp
    rcases memh 0 hm with w | w
    ·exact U8 ndp 0 w z
    ·exact U8 nd 0 (by simpa using List.mem_of_mem_drop z) w
   have:=dD4 I.inv (q:=y) (by rw[I.k];exact l1) l2 n0
   rwa [I.k]at this
 ·exact(I.inv.emp (i+3) (by rw[I.k];omega)).1
 ·exact(I.inv.emp (i+3) (by rw[I.k];omega)).2
theorem cL8 (R:Rws F G m):∀i,i<=m->(gst F G i).i2 2=[]
 | 0,_=>rfl
 | i+1,h=>by
  show put (gst F G i).i2 ((gst F G i).k+3) (((gst F G i).h1 (F i-pv F i)).take (G i-pv G i)) 2=[]
  rw[C0 (by omega)]
  exact cL8 R i (by omega)
end TT
namespace LV
open PySem L2
theorem cY1 {K:PySem.W.Frag}{ρ:List Sl}(ρJ:List Sl){c:TT}{t u:TS}{b:Bool}{R:AE}(h:T K c ρ b)(h1:b=true->W K t ρ {R with nx:=λr=>r=ρJ})(h2:b=false->W K u ρ {R with nx:=λr=>r=ρJ})(hn:R.nx ρJ):W K (cS8 c t u) ρ R:=
 aE6 h (λe=>(h1 e).weak (λr z=>by rw[z];exact hn) (λ_ z=>z) (λ_ z=>z) (λ_ z=>z) (λ_ z=>z)) (λe=>(h2 e).weak (λr z=>by rw[z];exact hn) (λ_ z=>z) (λ_ z=>z) (λ_ z=>z) (λ_ z=>z))
def Sl.nb:Sl->Bool
 | .bor _=>false
 | _=>true
theorem Z1 {x:Sl}{r:List Sl}:S6 (x::r)=(x.nb&&S6 r):=by cases x <;> rfl
theorem S2 {n i:Nat}{d:PyData}(h:(X7 0 n)[i]? = some d):d=.int (i:Int)/\i<n:=by
 unfold X7 at h;have hn:=(Ab0.mp h).1;have hn:i<n:=by simpa using hn
 rw[Aa9,List.getElem?_range hn]at h;refine⟨?_,hn⟩
 have:=(Ab4 h).symm
 simpa using this
theorem O2 {n:Nat}{lo:Int}:(X7 lo n).length=n:=by simp[X7]
def nI (l:List Nat):List PyData:=l.map λ(x:Nat)=>PyData.int (x:Int)
def lN (l:List Nat):PyData:=.list (nI l)
def oN (l:List Nat):OT:=.lst (l.map λ(x:Nat)=>OT.leaf (.int (x:Int)))
def fl (F:Nat->Nat)(m:Nat):List Int:=(List.range m).map λi=>(F i:Int)
def M9 (k:Nat)(o0 o1 o2:Nat->Nat):OT:=.lst ((List.range k).map λj=>oN [o0 (j+3),o1 (j+3),o2 (j+3)])
def E8 (n:Nat)(i0 i1 i2:Nat->List Nat):OT:=.lst ((List.range n).map λq=>.tup [oN (i0 q),oN (i1 q),oN (i2 q)])
theorem M0 (l:List Nat):(nI l).length=l.length:=by simp[nI]
theorem O5 (l:List Nat):M1 (nI l)=true:=aC0 (λ_=>rfl) l
theorem aK8 (l l':List Nat):nI (l++l')=nI l++nI l':=by simp[nI]
theorem dA9 (l:List Nat):nI l.reverse=(nI l).reverse:=by simp[nI]
theorem bV8 (l:List Nat):(oN l).data=lN l:=by
 unfold oN lN nI;simp only[OT.data];rw[aD9 (g:=λx:Nat=>PyData.int (x:Int)) (λ_=>rfl)]
theorem cA5 (k:Nat)(o0 o1 o2:Nat->Nat):(M9 k o0 o1 o2).data=.list ((List.range k).map λj=>lN [o0 (j+3),o1 (j+3),o2 (j+3)]):=by
 unfold M9;simp only[OT.data];rw[aD9 (λj=>bV8 _)]
theorem cE9 (n:Nat)(i0 i1 i2:Nat->List Nat):(E8 n i0 i1 i2).data=.list ((List.range n).map λq=>.tuple [lN (i0 q),lN (i1 q),lN (i2 q)]):=by
 unfold E8;simp only[OT.data];rw[aD9 (g:=λq=>PyData.tuple [lN (i0 q),lN (i1 q),lN (i2 q)]) (λq=>by simp only[OT.data,OT.datas,bV8])]
theorem bU6 {F:Nat->Nat}{m i:Nat}(h:i<m):atI ((fl F m).map PyData.int) (i:Int)=some (.int (F i:Int)):=aA3 i rfl (by simp[fl,h])
theorem T1 {α:Type}{n q:Nat}{f:Nat->α}(h:q<n):((List.range n).map f)[q]? = some (f q):=by simp[h]
theorem d4 {α:Type}{n q:Nat}{f g:Nat->α}{h:α->α}(hq:q<n)(h1:h (f q)=g q)(h2:∀j,j≠q->f j=g j):((List.range n).map f).modify q h=(List.range n).map g:=by
 rw[S8 (T1 hq),h1];refine List.ext_getElem? λj=>?_
 rw[List.getElem?_set];by_cases e:q=j
 ·subst e;simp[hq]
 ·rw[if_neg e];by_cases hj:j<n
  ·rw[T1 hj,T1 hj,h2 j (λz=>e z.symm)]
  ·rw[Ad4 (by simp;omega),Ad4 (by simp;omega)]
section
variable {n q k j:Nat}{i0 i1 i2:Nat->List Nat}{o0 o1 o2:Nat->Nat}
theorem aF5 (h:q<n):(E8 n i0 i1 i2).at [q]=some (.tup [oN (i0 q),oN (i1 q),oN (i2 q)]):=by
 show((E8 n i0 i1 i2).kids[q]?).bind _=_
 unfold E8;simp only[OT.kids];rw[T1 h];rfl
theorem cU6 (h:q<n):(E8 n i0 i1 i2).at ([q]++[0])=some (oN (i0 q)):=by rw[aJ6 (aF5 h)];rfl
theorem cT9 (h:q<n):(E8 n i0 i1 i2).at ([q]++[1])=some (oN (i1 q)):=by rw[aJ6 (aF5 h)];rfl
theorem bZ3 (h:q<n):(E8 n i0 i1 i2).at ([q]++[2])=some (oN (i2 q)):=by rw[aJ6 (aF5 h)];rfl
theorem dG5 (h:j<k):(M9 k o0 o1 o2).at [j]=some (oN [o0 (j+3),o1 (j+3),o2 (j+3)]):=by
 show((M9 k o0 o1 o2).kids[j]?).bind _=_
 unfold M9;simp only[OT.kids];rw[T1 h];rfl
theorem cM8 (h:q<n)(l:List Nat):(E8 n i0 i1 i2).put ([q]++[0]) (oN l)=E8 n (TT.put i0 q l) i1 i2:=by
 unfold E8;rw[List.singleton_append,OT.put_lst]
 congr 1
 refine d4 h ?_ λj hj=>by simp only[TT.C0 hj]
 rw[OT.put_tup,TT.C7];rfl
theorem cN1 (h:q<n)(l:List Nat):(E8 n i0 i1 i2).put ([q]++[1]) (oN l)=E8 n i0 (TT.put i1 q l) i2:=by
 unfold E8;rw[List.singleton_append,OT.put_lst]
 congr 1
 refine d4 h ?_ λj hj=>by simp only[TT.C0 hj]
 rw[OT.put_tup,TT.C7];rfl
theorem cO3 (h:q<n)(l:List Nat):(E8 n i0 i1 i2).put ([q]++[2]) (oN l)=E8 n i0 i1 (TT.put i2 q l):=by
 unfold E8;rw[List.singleton_append,OT.put_lst]
 congr 1
 refine d4 h ?_ λj hj=>by simp only[TT.C0 hj]
 rw[OT.put_tup,TT.C7];rfl
theorem cU4 (h:j<k)(c:Nat):(M9 k o0 o1 o2).put [j] (oN [o0 (j+3),o1 (j+3),c])=M9 k o0 o1 (TT.put o2 (j+3) c):=by
 unfold M9;rw[OT.put_lst]
 congr 1
 refine d4 h ?_ λi hi=>by simp only[TT.C0 (show i+3≠j+3 by omega)]
 rw[OT.put_nil,TT.C7]
theorem bC1 (l:List Nat)(x:Nat):OT.lst ((l.map λ(x:Nat)=>OT.leaf (.int (x:Int)))++[.leaf (.int (x:Int))])=oN (l++[x]):=by simp[oN]
theorem cQ5 (h:q<n)(x:Nat):(E8 n i0 i1 i2).put ([]++[q]++[0]) (.lst (((i0 q).map λ(x:Nat)=>OT.leaf (.int (x:Int)))++[.leaf (.int (x:Int))]))=E8 n (TT.put i0 q (i0 q++[x])) i1 i2:=by
 rw[bC1];exact cM8 h _
theorem cR7 (h:q<n)(x:Nat):(E8 n i0 i1 i2).put ([]++[q]++[1]) (.lst (((i1 q).map λ(x:Nat)=>OT.leaf (.int (x:Int)))++[.leaf (.int (x:Int))]))=E8 n i0 (TT.put i1 q (i1 q++[x])) i2:=by
 rw[bC1];exact cN1 h _
theorem bL3 (h:q<n)(x:Nat):(E8 n i0 i1 i2).put ([]++[q]++[2]) (.lst (((i2 q).map λ(x:Nat)=>OT.leaf (.int (x:Int)))++[.leaf (.int (x:Int))]))=E8 n i0 i1 (TT.put i2 q (i2 q++[x])):=by
 rw[bC1];exact cO3 h _
theorem bZ9 {α:Type}{f:Nat->α}{q:Nat}{a b:α}:TT.put (TT.put f q a) q b=TT.put f q b:=by
 funext x;by_cases e:x=q
 ·rw[e,TT.C7,TT.C7]
 ·rw[TT.C0 e,TT.C0 e,TT.C0 e]
theorem cV0:OT.lst (((List.range n).map λq=>OT.tup [oN (i0 q),oN (i1 q),oN (i2 q)])++[.tup [.lst [],.lst [],.lst []]])=E8 (n+1) (TT.put i0 n []) (TT.put i1 n []) (TT.put i2 n []):=by
 unfold E8;rw[List.range_succ,Ad1]
 congr 2
 ·refine List.map_congr_left λa ha=>?_
  have:=Ab5.mp ha
  rw[TT.C0 (by omega),TT.C0 (by omega),TT.C0 (by omega)]
 ·simp[TT.C7,oN]
theorem cT4 (a b c:Nat):OT.lst (((List.range k).map λj=>oN [o0 (j+3),o1 (j+3),o2 (j+3)])++[.lst [.leaf (.int (a:Int)),.leaf (.int (b:Int)),.leaf (.int (c:Int))]])=M9 (k+1) (TT.put o0 (k+3) a) (TT.put o1 (k+3) b) (TT.put o2 (k+3) c):=by
 unfold M9;rw[List.range_succ,Ad1]
 congr 2
 ·refine List.map_congr_left λx ha=>?_
  have:=Ab5.mp ha
  rw[TT.C0 (by omega),TT.C0 (by omega),TT.C0 (by omega)]
 ·simp[TT.C7,oN]
end
theorem aG4 {n q:Nat}{f:Nat->PyData}(h:q<n):atI ((List.range n).map f) (q:Int)=some (f q):=aA3 q rfl (T1 h)
theorem cW7 {p h:List Nat}{s:TT.S}(e1:s.path=p++[0])(e2:s.heap=h++[1]):s.row 2=0::(p.reverse++h)++[1]:=by
 rw[TT.aG0,e1,e2];simp
section
variable {K:PySem.W.Frag}{ρ:List Sl}{m:Bool}{t ta tb:TE}{l l':List Nat}{ds es:List PyData}
theorem T9 (ha:E K false ta ρ (lN l))(hb:E K false tb ρ (lN l'))(hl:l.length+l'.length<=100000):EF K (tOp (cM7 K) ta tb) ρ (nI (l++l')):=by
 rw[aK8];exact bR4 ha hb (O5 l) (O5 l') (by rw[M0,M0];unfold PySem.sizeLine;omega)
theorem bX2 (ha:E K false ta ρ (lN l)):EF K (bZ6 K ta) ρ (nI l.reverse):=by
 rw[dA9];exact dD0 ha (O5 l)
theorem EF.toN {t:TE}(h:EF K t ρ (nI l))(e:l=l'):E K m t ρ (lN l'):=by subst e;exact EF.e' h
end
end LV
namespace LV
open PySem PySem.Spec PyProof.Rows L2
theorem aU6 (l:Addr)(items:Array Value)(n:Nat)(dd:Option Addr)(sl:Array (Option Value))(x:Value)(e:Value->Bool)(j:Nat)(hj:j<items.size)(he:e items[j]=true)
  (hb:∀(m:Nat) (hm:m<items.size),m<j->e items[m]=false) :
  Meets (Builtin.«tuple.index» {pos:=[.ref l,x]}) λA R s=>
   s.heap.get? l=some {cls:=.type "tuple",dict:=dd,data:=.seq items n,slots:=sl}/\(∀y∈items,SeqAt.EqAt A.in1 s y x (e y)) /\
    R (.ok (.ret (.int (j:Int) s.toks))) {s with toks:=s.toks+1}:=by
 intro prog w A R s ⟨ho,hq,hr⟩;unfold Builtin.«tuple.index»;have e0:selfAndSome "tuple.index" "index" 1 3 {pos:=[.ref l,x]}=pure (.ref l,[x]):=by rfl
 rw[e0];refine wpAny_bind (wpAny_pure ?_);have ht:s.heap.get? l=some {cls:=.type "tuple",dict:=dd,data:=.seq items n,slots:=sl}:=ho;show wpAny _ _ (Builtin.Tuple.tupleItemsOf (.ref l) >>= _) _ _ s;refine wpAny_bind (wpAny_tupleItemsOf ht rfl ?_);refine wpAny_bind (wpAny_pure ?_);refine wpAny_bind (wpAny_pure ?_);refine wpAny_bind ?_;rw[Std.Legacy.Range.forIn_eq_forIn_range'];have hs:([0:min items.size items.size]:Std.Legacy.Range).size=items.size:=by simp[Std.Legacy.Range.size]
 rw[hs];refine wpAny_forIn_list _ (λrest b s'=>(∃i,i<=j/\rest=List.range' i (items.size-i) 1)/\b=(none,())/\s'=s) _ ?_ ?_ _ _ ⟨⟨0,Nat.zero_le _,rfl⟩,rfl,rfl⟩
 ·rintro i rest b s' ⟨⟨i',hi,hrest⟩,rfl,rfl⟩;have hlt:i'<items.size:=by omega
  obtain ⟨k,hk⟩:∃k,items.size-i'=k+1:=⟨items.size-i'-1,by omega⟩
  rw[hk,List.range'_succ,List.cons.injEq]at hrest;obtain ⟨rfl,rfl⟩:=hrest;dsimp only;rw[Array.getElem?_eq_getElem hlt];dsimp only;refine wpAny_bind (hq _ (Array.getElem_mem hlt) _ _ _ _ ?_);by_cases hij:i=j
  ·subst hij;rw[if_pos he];refine wpAny_bind ?_;unfold retInt;refine wpAny_bind (wpAny_mkInt ?_);exact wpAny_pure (wpAny_pure (wpAny_pure hr))
  ·rw[hb i hlt (by omega),if_neg (by decide)]
   exact wpAny_pure ⟨⟨i+1,by omega,by rw[show items.size-(i+1)=k by omega]⟩,rfl,rfl⟩
 ·rintro b s' ⟨⟨i,hi,hr'⟩,rfl,rfl⟩
  exfalso
  have:=congrArg List.length hr'
  simp at this
  omega
section
variable {X:Cx}
theorem aY0 (K:PySem.W.Frag)(h:X.K=K:=by rfl):MtR X "tuple.index" (λx xs H Q=>∃(p:Addr) (l:List Int) (k:Int),x=.ref p/\xs=[.int k]/\SqT K H p (l.map V.int)/\k∈l/\Q (.int (l.idxOf k)) H):=by
 subst h;intro pins s σ H x xs v us Q I rx rv ⟨p,l,k,e1,e2,hq,hk,q⟩;subst e1;subst e2;cases rx;obtain ⟨u,rfl,t,rfl⟩:=aB1 rv;obtain ⟨its,r,hT,hz⟩:=I.tuple hq;obtain ⟨⟨oc,od,odata,osl⟩,e,c,n,d⟩:=hT;dsimp only at c d;subst c;subst d;have hl:=r.length;rw[Aa3]at hl;have hj:l.idxOf k<l.length:=List.idxOf_lt_length_iff.mpr hk;have at_:∀(j:Nat) (hj:j<its.toArray.size),∃t,its.toArray[j]=Value.int (l[j]'(by simpa[hl]using hj)) t:=λj hj=>by
  have hj':j<l.length:=by simpa[hl]using hj
  obtain ⟨u,h1,t,rfl⟩:=r.get (i:=j) (x:=.int l[j]) (by rw[Aa9,Aa2 hj'];rfl)
  have:=(Ab0.mp h1).2
  exact⟨t,by simpa using this⟩
 refine call_meets F.slot_tuple_index ⟨_,e,rfl⟩ F.entry_tuple_index (F.args_tuple_index_2 _ _) (aU6 p its.toArray n od osl (.int k t) (λy=>match y with | .int i _=>i==k | _=>false) (l.idxOf k) (by simpa[<- hl]using hj) ?_ ?_) ⟨e,λy hy=>?_,?_⟩
 ·obtain ⟨t',e'⟩:=at_ (l.idxOf k) (by simpa[<- hl]using hj)
  rw[e'];simp
 ·intro m hm hlt;obtain ⟨t',e'⟩:=at_ m hm;rw[e']
  have:l[m]'(by simpa[hl]using hm)≠k:=λz=>by
   have h1:m<l.length:=by simpa[hl]using hm
   exact bQ5 h1 hlt z
  simpa using this
 ·obtain ⟨j,hj,rfl⟩:=Array.mem_iff_getElem.mp hy;obtain ⟨t',e'⟩:=at_ j hj;rw[e'];exact SeqAt.EqAt.int_int _ _ _ _
 ·exact⟨.int _,H,I.tok _,⟨_,rfl⟩,q⟩
end
section
variable {K:PySem.W.Frag}{ρ:List Sl}{m:Bool}{t ta tb:TE}{d:PyData}{ds es:List PyData}
theorem bW0 {H:Hp}{p:V}{l:List Int}(r:Rep K H p (tI l)):∃a,p=.ref a/\SqT K H a (l.map V.int):=by
 cases r with
 | @tup a xs _ s r=>exact⟨a,rfl,by rw[<- r.ints];exact s⟩
theorem bL2 {l:List Int}{k:Int}(ha:E K false ta ρ (tI l))(hb:E K false tb ρ (.int k))(hk:k∈l) :
  E K m (tBM K "tuple" (λx xs H Q=>∃(p:Addr) (l:List Int) (k:Int),x=.ref p/\xs=[.int k]/\SqT K H p (l.map V.int)/\k∈l/\Q (.int (l.idxOf k)) H) ta (E9 tb W1)) ρ (.int (l.idxOf k)):=E.bor (E.imm (m:=false) λS B σ H o I Q q=>ha S B σ H o I _ λv H1 s1 r=>by
 obtain ⟨p,rfl,s⟩:=bW0 r;refine⟨.inr (.inl ⟨rfl,_,s⟩),?_⟩;refine hb S B σ H1 o (I.grow s1) _ λu H2 s2 r2=>?_
 cases r2
 exact⟨p,l,k,rfl,rfl,C4 s2 s,hk,q _ H2 (L2.Same.tr s1 s2) (.int _)⟩)
theorem cE6 {i:Nat}{R:AE}(hi:ρ[i]? = some (.own ds))(h:EF K t ρ es)(hl:ds.length+es.length<=sizeLine)(hn:R.nx (ρ.set i (.own (ds++es))))(nb:S6 ρ=true:=by rfl) :
  W K (aN0 (tBM K "list" bZ4 (L5 i) (E9 t W1))) ρ R:=λS B D σ H o I s=>by
 obtain ⟨p,hp,a,xs,b,c⟩:=I.own i ds hi;refine⟨_,a,.inl ⟨rfl,xs,SqL.of b⟩,?_⟩;refine h S B σ H o I _ λq ys H' s' n e r=>?_
 refine⟨_,_,xs,ys,rfl,rfl,s' _ _ b,e,by rw[c.length,r.length];exact hl,?_⟩
 exact s.nx _ σ _ _ ((I.grow s').upd hi hp ((c.mono (K6 s')).append (r.mono (C6 (L2.Same.rf _) λb z _=>.inl z))) (K8 nb)) hn
end
section
variable {X:Cx}
theorem cB7 {vs:List Value}{ns:List Int}(h:IntsAre vs ns):Vals (ns.map V.int) vs:=by
 induction h with
 | nil=>exact .nil
 | cons n t _ ih=>exact .cons ⟨t,rfl⟩ ih
end
section
variable {K:PySem.W.Frag}{ρ:List Sl}{m:Bool}{t ta tb:TE}{d:PyData}{ds es:List PyData}
theorem cD6 {l l':List Int}(h:l'.Perm l)(h1:l'.Pairwise (· <= ·))(h2:l.Pairwise (· <= ·)):l'=l:=h.eq_of_pairwise (λa b _ _=>Int.le_antisymm) h1 h2
end
end LV
namespace L2
open PySem PySem.Spec PyProof.Rows
section
variable {X:Cx}{pins:List (Addr×Obj)}{σ:St}{H:Hp}{s:Shared}{h':Heap}
theorem Inv.turnedL {t':Nat}{fp:List Addr}(I:Inv X pins σ H s)(k:∀b o,b∉fp->s.heap.get? b=some o->h'.get? b=some o)(hf:∀b∈fp,aR5 X pins H b):Inv X pins σ H {s with heap:=h',toks:=t'}:=by
 have nit:∀b u,H b=some u->b∉fp:=λb u e z=>by rw[(hf b z).1]at e;cases e
 refine I.step (g':=s.gens) (d':=s.drawn) (ch:=fp) (λb hb=>?_) (λb o _ _ hc e _=>k b o hc e) (λb o _ _ hc e _=>⟨o.slots,k b o hc e⟩) (λ_ _ _ _ n=>n)
  (λb o hc e=>⟨o,k b o hc e⟩) (λ_ _ e=>e) (λ_ _ _ e=>e) (λb ps e=>⟨#[],by rw[e];simp⟩) (λm hm=>?_) (λb u e=>?_) I.bare
 ·obtain ⟨_,f1,_,f3,f4,f5⟩:=hf b hb;exact⟨f3,f1,f4,f5⟩
 ·obtain ⟨o,es,ep,ho,r⟩:=hm;exact⟨o,es,ep,k _ o (λz=>(hf _ z).2.1 rfl) ho,r⟩
 ·refine(I.hok b u e).stay (λc v hc q=>k c v ?_ q) (λ_ q=>q) λ_ _ q=>q
  rcases hc with z | z
  ·rw[z];exact nit b u e
  ·exact nit c _ z
theorem Inv.turnedLaid {t':Nat}{fp:List Addr}{T:Addr}{ob:HO}(I:Inv X pins σ H s)(k:∀b o,b∉fp->s.heap.get? b=some o->h'.get? b=some o)(hf:∀b∈fp,aR5 X pins H b)(hT:s.heap.objs.size<=T)
  (new:ObjOk X.prog X.w (upd H T ob) h' T ob):Inv X pins σ (upd H T ob) {s with heap:=h',toks:=t'}:=by
 have nit:∀b u,H b=some u->b∉fp:=λb u e z=>by rw[(hf b z).1]at e;cases e
 have HT:H T=none:=I.hok.fresh hT
 have nT:∀b o,s.heap.get? b=some o->b≠T:=λb o e z=>by have h1:b<s.heap.objs.size:=Ab3 e;rw[z]at h1;exact absurd (Ab8 h1 hT) (Ad7 _)
 have nH:∀b u,H b=some u->b≠T:=λb u e z=>by rw[z,HT]at e;cases e
 refine I.step (g':=s.gens) (d':=s.drawn) (ch:=fp) (λb hb=>?_) (λb o _ _ hc e _=>k b o hc e) (λb o _ _ hc e _=>⟨o.slots,k b o hc e⟩) (λb o _ e n=>by rw[B2 (nT b o e)];exact n)
  (λb o hc e=>⟨o,k b o hc e⟩) (λb _ e=>by rw[B2 (nH b _ e)];exact e) (λb _ _ e=>by rw[B2 (nH b _ e)];exact e) (λb ps e=>⟨#[],by rw[B2 (nH b _ e),e];simp⟩) (λm hm=>?_) (λb u e=>?_) I.bare
 ·obtain ⟨_,f1,_,f3,f4,f5⟩:=hf b hb;exact⟨f3,f1,f4,f5⟩
 ·obtain ⟨o,es,ep,ho,r⟩:=hm;exact⟨o,es,ep,k _ o (λz=>(hf _ z).2.1 rfl) ho,r⟩
 ·by_cases hb:b=T
  ·subst hb;rw[B7]at e;cases e;exact new
  rw[B2 hb]at e;refine(I.hok b u e).stay (λc v hc q=>k c v ?_ q) (λc q=>by rw[B2 (nH c _ q)];exact q) λc _ q=>by rw[B2 (nH c _ q)];exact q
  rcases hc with z | z
  ·rw[z];exact nit b u e
  ·exact nit c _ z
end
end L2
namespace LV
open PySem PySem.Spec PyProof.Rows L2
section
variable {K:PySem.W.Frag}{ρ:List Sl}{m:Bool}{t ta tb:TE}{d d':PyData}{ds es:List PyData}
def enD (ds:List PyData):List PyData:=ds.mapIdx λi d=>.tuple [.int (i:Int),d]
theorem bZ8:(enD ds).length=ds.length:=by simp[enD]
theorem bO6 {i:Nat}{d:PyData}(h:(enD ds)[i]? = some d):∃y,ds[i]? = some y/\d=.tuple [.int (i:Int),y]:=by
 unfold enD at h;rw[List.getElem?_mapIdx]at h;obtain ⟨y,h1,h2⟩:=Option.map_eq_some_iff.mp h;exact⟨y,h1,h2.symm⟩
end
end LV
namespace L2
open PySem PySem.Spec PyProof.Rows
section
variable {prog:Program}{w:World}{A:Around}{E:Value->Shared->Prop}{s:Shared}
theorem aW6 {a:Addr}{o:Obj}{items:Array Value}{n:Nat}{M:Model}{Q:Option (Array Value)->Shared->Prop}(e:s.heap.get? a=some o)(d:o.data=.seq items n)(h:Q (some items) s):wpAny M A (seqItems? (.ref a)) Q E s:=by
 unfold seqItems?;refine wpAny_bind (wpAny_load e ?_);rw[d];exact wpAny_pure h
theorem O4 {it t:Addr}{i:Nat}{items:Array Value}{x:Value}{Q:Value->Shared->Prop}(st:s.heap.IsTupleIter it t i)(ht:s.heap.IsTuple t items)(hx:items[i]? = some x)
  (h:∀h':Heap,h'.IsTupleIter it t (i+1)->Heap.SameBut it s.heap h'->Q x {s with heap:=h'}):wpAny (model prog w) A (Builtin.SmallTypes.nextOf (.ref it)) Q E s:=by
 unfold Builtin.SmallTypes.nextOf;refine wpAny_bind (wpAny_callSpecial?_slot st.typeIs slot_tupleiter_next (wpAny_call_entry slot_tupleiter_next st.typeIs entry_tupleiter_next ?_ (args_tupleiter_next _)));obtain ⟨o,e,c,d⟩:=id st;obtain ⟨ot,et,ct,n,dt⟩:=ht;have e0:slotArgs "__next__" 0 {pos:=[.ref it]}=pure (.ref it,[]):=rfl;refine wpAny_bind (m:=slotArgs "__next__" 0 {pos:=[.ref it]}) ?_;rw[e0];refine wpAny_pure ?_;refine wpAny_bind (m:=field (.ref it) 0) (wpAny_field e d rfl ?_);refine wpAny_bind (m:=field (.ref it) 1) (wpAny_field e d rfl ?_);refine wpAny_bind (m:=seqItems? (.ref t)) (aW6 et dt ?_);show wpAny _ _ (match items[(i:Int).toNat]? with | some x=>_ | none=>_) _ _ _
 rw[Ac7,hx];refine wpAny_bind (m:=setField (.ref it) 1 (rawInt ((i:Int)+1))) (wpAny_setField e d (by simp) ?_)
 obtain ⟨oc,od,odata,osl⟩:=o;dsimp only at c d;subst c;subst d;exact wpAny_pure ⟨x,rfl,wpAny_pure (h _ ⟨_,Heap.get?_update_self _ e rfl,rfl,rfl⟩ (Heap.SameBut.update _ _ _))⟩
theorem dJ5 {α:Type}{M:Model}{Q:α->Shared->Prop}(hh:A.handled=none)(h:∀(h':Heap) (e:Addr),(∀b o,s.heap.get? b=some o->h'.get? b=some o)->(∃o,h'.get? e=some o/\o.cls=.type "StopIteration")->E (.ref e) {s with heap:=h'}) :
  wpAny M A (Builtin.SmallTypes.stopIteration (α := α)) Q E s:=by
 unfold Builtin.SmallTypes.stopIteration newExc;refine wpAny_bind ?_;refine wpAny_bind (wpAny_newTuple ?_ (by show 0<=sizeLine;exact Nat.zero_le _))
 have e1:firstArgMember (.type "StopIteration") []=pure .none:=by
  unfold firstArgMember;show(pure _ >>= λhas=>pure (if has=true then _ else _))=_
  cases (Manifest.find? "StopIteration").elim false λt=>t.mro.contains "StopIteration" || t.mro.contains "SystemExit" <;> rfl
 rw[e1];refine wpAny_bind (wpAny_pure ?_);refine wpAny_newObj_type ?_ (by show(6:Nat)<=sizeLine+2;decide)
 refine wpAny_raiseNew_none hh (h _ _ (λb o q=>Aa6 _ (Aa6 _ q)) ⟨_,Ac3 _ rfl,rfl⟩)
theorem V4 {it t:Addr}{i:Nat}{items:Array Value}{Q:Value->Shared->Prop}(hh:A.handled=none)(st:s.heap.IsTupleIter it t i)(ht:s.heap.IsTuple t items)(hx:items[i]? = none)
  (h:∀(h':Heap) (e:Addr),Heap.ExtBut it s.heap h'->(∃o,h'.get? e=some o/\o.cls=.type "StopIteration")->E (.ref e) {s with heap:=h'}):wpAny (model prog w) A (Builtin.SmallTypes.nextOf (.ref it)) Q E s:=by
 unfold Builtin.SmallTypes.nextOf;refine wpAny_bind (wpAny_callSpecial?_slot st.typeIs slot_tupleiter_next (wpAny_call_entry slot_tupleiter_next st.typeIs entry_tupleiter_next ?_ (args_tupleiter_next _)));obtain ⟨o,e,c,d⟩:=id st;obtain ⟨ot,et,ct,n,dt⟩:=ht;have e0:slotArgs "__next__" 0 {pos:=[.ref it]}=pure (.ref it,[]):=rfl;refine wpAny_bind (m:=slotArgs "__next__" 0 {pos:=[.ref it]}) ?_;rw[e0];refine wpAny_pure ?_;refine wpAny_bind (m:=field (.ref it) 0) (wpAny_field e d rfl ?_);refine wpAny_bind (m:=field (.ref it) 1) (wpAny_field e d rfl ?_);refine wpAny_bind (m:=seqItems? (.ref t)) (aW6 et dt ?_);show wpAny _ _ (match items[(i:Int).toNat]? with | some x=>_ | none=>_) _ _ _
 rw[Ac7,hx];refine wpAny_bind (wpAny_rule ?_);refine wpAny_bind (m:=setField (.ref it) 0 .none) (wpAny_setField e d (by simp) ?_)
 exact dJ5 hh λh' ex kp N=>h h' ex (λb o hb q=>kp b o (by rw[Heap.get?_update_ne _ _ _ _ hb];exact q)) N
theorem bJ0 (hh:A.handled=none)(it t:Addr)(hne:t≠it)(items:Array Value):Draws prog w A it [it,t] items.size (λi v=>items[i]? = some v) λi h=>h.IsTupleIter it t i/\h.IsTuple t items where
 live:=λi h st=>⟨_,st.1.choose_spec.1⟩
 frame:=λi h h' st k=>⟨st.1.at λo e=>k it (by simp) o e,by
  obtain ⟨o,e,r⟩:=st.2;exact⟨o,k t (by simp) o e,r⟩⟩
 item:=λi s Q E hi st h=>by
  have hx:items[i]? = some items[i]:=Array.getElem?_eq_getElem hi
  refine O4 st.1 st.2 hx λh' st' sb=>h _ h' s.toks hx ⟨st',?_⟩ sb
  obtain ⟨o,e,r⟩:=st.2;exact⟨o,by rw[sb.2 t hne];exact e,r⟩
 done:=λs Q E st h=>V4 hh st.1 st.2 (by simp) h
theorem aM4 (t:Addr)(items:Array Value):Meets (Builtin.«enumerate.__new__» {pos:=[.type "enumerate",.ref t]}) λx R s=>
  s.heap.IsTuple t items/\R (.ok (.ret (.ref (s.heap.push {cls:=.type "tuple_iterator",data:=.fields #[.ref t,.int 0 0]}).objs.size)))
   {s with heap:=(s.heap.push {cls:=.type "tuple_iterator",data:=.fields #[.ref t,.int 0 0]}).push {cls:=.type "enumerate",data:=.fields #[.none,.bool false,.ref s.heap.objs.size,rawInt 0,.none,.none]}}:=by
 intro prog w A R s ⟨ht,hr⟩;unfold Builtin.«enumerate.__new__»;have e0:Builtin.SmallTypes.newClass "enumerate" {pos:=[.type "enumerate",.ref t]}=pure (.type "enumerate",[.ref t]):=by
  unfold Builtin.SmallTypes.newClass;show(pure true >>= _)=_;rw[pure_bind];show(isSubtype (.type "enumerate") (.type "enumerate") >>= _)=_;rw[F.called_enumerate.sub];rfl
 rw[e0];refine wpAny_bind (wpAny_pure ?_);dsimp only;rw[if_pos (by decide)]
 refine wpAny_bind ?_;unfold Builtin.SmallTypes.calledThroughType;refine wpAny_bind (wpAny_stack λst _ _ _=>wpAny_pure ?_)
 have fin:wpAny (model prog w) A.in1 (do
   let it <- pyIter (.ref t)
   let r <- Builtin.SmallTypes.newRecord (.type "enumerate") (Builtin.SmallTypes.ownedTupleFields++[it,rawInt 0,.none,.none])
   ret r) (λfin s'=>match fin with | .done f=>R (.ok f) s' | .again c'=>c'.quiet=true/\codeAny (model prog w) A c' R s') (λe s'=>R (.error e) s') s:=by
  refine wpAny_bind (wpAny_pyIter_tuple ht ?_);refine wpAny_bind (m:=Builtin.SmallTypes.newRecord _ _) ?_;unfold Builtin.SmallTypes.newRecord;exact wpAny_newObj_type (wpAny_pure hr) (by show(6:Nat)<=sizeLine+2;decide)
 have key:∀(short:Bool) (C N:Sem PySem.Fin),wpAny (model prog w) A.in1 C (λfin s'=>match fin with | .done f=>R (.ok f) s' | .again c'=>c'.quiet=true/\codeAny (model prog w) A c' R s') (λe s'=>R (.error e) s') s->wpAny (model prog w) A.in1 N (λfin s'=>match fin with | .done f=>R (.ok f) s' | .again c'=>c'.quiet=true/\codeAny (model prog w) A c' R s') (λe s'=>R (.error e) s') s->wpAny (model prog w) A.in1 (if short=true then C else N) (λfin s'=>match fin with | .done f=>R (.ok f) s' | .again c'=>c'.quiet=true/\codeAny (model prog w) A c' R s') (λe s'=>R (.error e) s') s:=λshort C N h1 h2=>by
  cases short
  ·rw[if_neg (by decide)];exact h2
  ·rw[if_pos rfl];exact h1
 refine key _ _ _ ?_ ?_
 ·exact wpAny_bind (m:=pure (Value.ref t,none)) (wpAny_pure fin)
 ·exact wpAny_bind (m:=pure (Value.ref t,none)) (wpAny_pure fin)
theorem aC5 {t:Addr}{items:Array Value}{Q:Value->Shared->Prop}(ht:s.heap.IsTuple t items)
  (h:∀h':Heap,IsEnum h' (s.heap.objs.size+1) s.heap.objs.size 0 .none->h'.IsTupleIter s.heap.objs.size t 0->(∀b o,s.heap.get? b=some o->h'.get? b=some o)->Q (.ref (s.heap.objs.size+1)) {s with heap:=h'}) :
  wpAny (model prog w) A (call (.type "enumerate") [.ref t]) Q E s:=by
 have e1:(s.heap.push {cls:=.type "tuple_iterator",data:=.fields #[.ref t,.int 0 0]}).objs.size=s.heap.objs.size+1:=by simp[Heap.push]
 refine callType_new F.called_enumerate (by decide) (F.typeCall_enumerate_1 _) (F.newCall_enumerate_1 _) (λobj=>F.args_object_init_2 _ _) F.entry_enumerate_new (aM4 t items) ⟨ht,?_⟩
 show _/\_
 rw[e1];have g2:((s.heap.push {cls:=.type "tuple_iterator",data:=.fields #[.ref t,.int 0 0]}).push {cls:=.type "enumerate",data:=.fields #[.none,.bool false,.ref s.heap.objs.size,rawInt 0,.none,.none]}).get? (s.heap.objs.size+1)=some {cls:=.type "enumerate",data:=.fields #[.none,.bool false,.ref s.heap.objs.size,rawInt 0,.none,.none]}:=by
  have:=Ac3 (h:=s.heap.push {cls:=.type "tuple_iterator",data:=.fields #[.ref t,.int 0 0]}) (o:={cls:=.type "enumerate",data:=.fields #[.none,.bool false,.ref s.heap.objs.size,rawInt 0,.none,.none]}) rfl
  rw[e1]at this;exact this
 exact⟨⟨_,g2,rfl⟩,h _ g2 ⟨_,Aa6 _ (Ac3 _ rfl),rfl,rfl⟩ λb o q=>Aa6 _ (Aa6 _ q)⟩
end
def Iet (K:PySem.W.Frag)(a:Addr):It:=
 ⟨λi H=>∃xs x,SqT K H a xs/\xs[i]? = some x,λi H x H'=>∃T y,x=.ref T/\H T=none/\H'=upd H T (.tup [.int (i:Int),y])/\∀xs,SqT K H a xs->xs[i]? = some y,λi H=>∃xs,SqT K H a xs/\xs.length<=i⟩
theorem tuple_inj {X:Cx}{pins:List (Addr×Obj)}{σ:St}{H:Hp}{s:Shared}{a:Addr}{xs ys:List V}(I:Inv X pins σ H s)(h:SqT X.K H a xs)(h':SqT X.K H a ys):xs=ys:=by
 obtain ⟨its,r,⟨o,e,_,n,d⟩,_⟩:=I.tuple h;obtain ⟨its',r',⟨o',e',_,n',d'⟩,_⟩:=I.tuple h';rw[e]at e';cases e';rw[d]at d'
 injection d' with d1 _
 have:its=its':=by simpa using congrArg Array.toList d1
 subst this;exact r.inj r'
theorem bT2 {P:Program}{w:World}{K:PySem.W.Frag}{elts:List Expr}{k:_}{pos:Pos}(a e it:Addr)(hne:e≠it):bO0 P w K (.Tuple elts k pos) (Iet K a) [e,it] e (λi h=>(∃old,IsEnum h e it (i:Int) old)/\h.IsTupleIter it a i) where
 mem:=by simp
 obj:=λi h st b hb=>by
  obtain ⟨⟨old,he⟩,o,e1,c,d⟩:=st;rcases Aa1.mp hb with rfl | hb
  ·exact⟨_,he,λv z=>by cases z⟩
  ·have eb:b=it:=by simpa using hb
   subst eb;exact⟨o,e1,λv z=>by rw[d]at z;cases z⟩
 keep:=λi h h' st k=>⟨⟨st.1.choose,k e (by simp) _ st.1.choose_spec⟩,st.2.at λo q=>k it (by simp) o q⟩
 item:=by
  intro X hP hw hK hc i pins s σ H E I hf st hg;subst hP hw hK;obtain ⟨⟨old,he⟩,hi⟩:=st;obtain ⟨xs,x,hq,hx⟩:=hg;obtain ⟨its,rv,p,hz⟩:=I.tuple hq;obtain ⟨u,hu,ru⟩:=rv.get hx;have ea:a≠e:=λz=>by
   obtain ⟨o,q,c,_⟩:=p;rw[z]at q;rw[show s.heap.get? e=_ from he]at q
   cases q
   injection c with c
   exact absurd c (by decide)
  have eit:a≠it:=λz=>by
   obtain ⟨o,q,c,_⟩:=p;obtain ⟨o',q',c',_⟩:=hi;rw[z,q']at q;cases q;rw[c']at c
   injection c with c
   exact absurd c (by decide)
  have hlt:i<its.toArray.size:=by have:=(Ab0.mp hu).1;simpa using this
  refine wpAny_pyNext_enum_itemD (bJ0 (A:=X.A.in1) (I.ok.hd hc) it a eit its.toArray) he ⟨hi,p⟩ hlt hne (by simp[hne,Ne.symm ea]) λy h' tk hy ho hst hT hs kp=>?_
  have ey:y=u:=by
   have h1:its.toArray[i]? = some u:=by simpa using hu
   rw[h1]at hy;exact(Ab4 hy).symm
  subst ey;obtain ⟨hi',p'⟩:=hst;refine⟨_,rfl,?_⟩;have Te:s.heap.objs.size≠e:=λz=>by have h1:=Ab3 he;rw[z]at h1;exact Ad7 _ h1
  have Ti:s.heap.objs.size≠it:=λz=>by
   obtain ⟨o',q',_⟩:=hi;have h1:=Ab3 q';rw[z]at h1;exact Ad7 _ h1
  unfold letOwnedTupleGo;refine wpAny_bind (wpAny_load ho ?_);dsimp only;rw[if_pos (by simp[rawInt])]
  refine wpAny_bind (wpAny_rule ?_);unfold updateField;refine wpAny_bind (wpAny_load ho ?_);dsimp only;rw[if_pos (by simp)]
  refine wpAny_update ho ?_;have he2:(h'.update e (Obj.mapFields λx=>x.setIfInBounds 0 .none)).get? e=some {cls:=.type "enumerate",data:=.fields #[.none,.bool false,.ref it,rawInt ((i:Int)+1),.none,y]}:=Heap.get?_update_self (h:=h') (o:={cls:=.type "enumerate",data:=.fields #[rawInt (s.heap.objs.size:Int),.bool false,.ref it,rawInt ((i:Int)+1),.none,y]}) (λo=>Obj.mapFields (λx=>x.setIfInBounds 0 .none) o) ho rfl
  have kp2:∀b o,b≠e->h'.get? b=some o->(h'.update e (Obj.mapFields λx=>x.setIfInBounds 0 .none)).get? b=some o:=λb o hb q=>by rw[Heap.get?_update_ne _ _ _ _ hb];exact q
  have hT2:=kp2 s.heap.objs.size _ Te hT
  refine⟨.ref s.heap.objs.size,upd H s.heap.objs.size (.tup [.int (i:Int),x]),?_,rfl,⟨_,x,rfl,I.hok.fresh (Aa7 _),rfl,λys hy=>by rw[tuple_inj I hy hq];exact hx⟩,⟨⟨y,by rw[show((i+1:Nat):Int)=(i:Int)+1 by omega];exact he2⟩,hi'.at λo q=>kp2 it o (Ne.symm hne) q⟩,λb hb=>?_⟩
  ·refine I.turnedLaid (t':=tk+1) (fp:=[e,it]) (λb o hb q=>kp2 b o (λz=>hb (by simp[z])) (kp b o (λz=>hb (by simp[z])) (λz=>hb (by simp[z])) q)) hf (Aa7 _) ?_
   exact⟨by show 2<=sizeLine;decide,[.int (i:Int) tk,y],.cons ⟨_,rfl⟩ (.cons ru .nil),⟨_,hT2,rfl,⟨_,rfl⟩,rfl⟩⟩
  ·rw[B2]
   ·exact(hf b hb).1
   ·rcases Aa1.mp hb with rfl | hb
    ·exact Ne.symm Te
    ·have eb:b=it:=by simpa using hb
     subst eb;exact Ne.symm Ti
 done:=by
  intro X hP hw hK hc i pins s σ H E I hf st hg;subst hP hw hK;obtain ⟨⟨old,he⟩,hi⟩:=st;obtain ⟨xs,hq,hx⟩:=hg;obtain ⟨its,rv,p,hz⟩:=I.tuple hq;have hl:=rv.length;have hD:Draws X.prog X.w X.A.in1 it [it,a] i (λ_ _=>False) (λj h=>j=i/\h.IsTupleIter it a i/\h.IsTuple a its.toArray):=⟨λj h st=>⟨_,st.2.1.choose_spec.1⟩,λj h h' st k=>⟨st.1,st.2.1.at λo e=>k it (by simp) o e,by
   obtain ⟨o,e,r⟩:=st.2.2;exact⟨o,k a (by simp) o e,r⟩⟩,λj s Q E hj st _=>absurd st.1 (Ab9 hj),λs Q E st h=>V4 (I.ok.hd hc) st.2.1 st.2.2 (by simp;omega) h⟩
  exact wpAny_pyNext_enum_endD hD he ⟨rfl,hi,p⟩ λh' eb=>⟨rfl,I.turnedL (t':=s.toks) (λb o hb q=>eb b o (λz=>hb (by simp[z])) q) hf⟩
 self:=λ_ _ _ _ _ st h=>wpAny_pyIter_enum st.1.choose_spec h
section
variable {X:Cx}{elts:List Expr}{k:Nat}{ps:Pos}
def cP1 (K:PySem.W.Frag)(ta:TA):TI:=λσ H R=>ta σ H λvs H1=>∃a xs,vs=[.ref a]/\SqT K H1 a xs/\R (Iet K a) H1
theorem cN2 {l:Expr}{ta:TA}{p pos:Pos}(K:PySem.W.Frag)(hg:Gl X "enumerate")(hm:X.mg "enumerate" = none)(ha:PA X [l] ta)(hK:X.K=K:=by rfl)(hs:starEach [l] X.env=[(false,eval l X.env)]:=by rfl):PI X (.Tuple elts k ps) (.Call (.Name "enumerate" p) [l] [] pos) (cP1 K ta):=by
 subst hK;refine⟨?_⟩;intro pins s σ H R I h;refine Call_ (i8 I hg hm boot_enumerate (PyProof.Rows.callWith_type1 (thn (ha pos pins s σ H _ I h) λus s1 ⟨vs,H1,I1,r1,q1⟩=>?_) hs rfl))
 obtain ⟨a,xs,e,hq,q⟩:=q1;subst e;obtain ⟨u,rfl,rx⟩:=aB1 r1;cases rx;obtain ⟨its,rv,pl,hz⟩:=I1.tuple hq;refine aC5 pl λh' he hi kp=>?_
 refine wpAny_pyIter_enum he ?_;refine⟨s1.heap.objs.size+1,[s1.heap.objs.size+1,s1.heap.objs.size],_,_,H1,rfl,I1.kept (t':=s1.toks) kp,bT2 a _ _ (by simp),⟨⟨_,he⟩,hi⟩,λb hb=>?_,q⟩
 rcases Aa1.mp hb with rfl | hb
 ·exact I1.fpOk (Nat.le_succ _) (I1.hok.fresh (Nat.le_succ _))
 ·have e:b=s1.heap.objs.size:=by simpa using hb
  subst e;exact I1.fpOk (Aa7 _) (I1.hok.fresh (Aa7 _))
end
end L2
namespace LV
open PySem PySem.Spec PyProof.Rows L2
section
variable {K:PySem.W.Frag}{ρ:List Sl}{m:Bool}{t ta tb:TE}{d d':PyData}{ds es:List PyData}
theorem cS1 {Z:Hp}{a:Addr}{xs:List V}(s:SqT K Z a xs)(r:Reps K Z xs ds):Wk K Z (Iet K a) (enD ds) where
 stop:=λi H h l=>⟨xs,C4 h s,by rw[r.length,<- bZ8];exact l⟩
 go:=λi H d h e=>by
  obtain ⟨y,e,_⟩:=bO6 e;obtain ⟨v,h1,_⟩:=r.get' e;exact⟨xs,v,C4 h s,h1⟩
 yld:=λi H d x H' h e y=>by
  obtain ⟨z,e',rfl⟩:=bO6 e;obtain ⟨T,v,rfl,hT,rfl,y⟩:=y
  have:=y xs (C4 h s)
  obtain ⟨d',h1,h2⟩:=r.get this;rw[e']at h1;cases h1;have g:=D3 (o:=.tup [.int (i:Int),v]) hT;refine⟨g,λS hS=>?_⟩
  have hm:Same Z (hid S (upd H T (.tup [.int (i:Int),v]))):=λb o q=>hid_some.mpr ⟨(λz=>by rw[(hS b z).1]at q;cases q),g b o (h b o q)⟩
  exact .tup (SqT.of (hid_some.mpr ⟨λz=>(hS T z).2 hT,B7⟩)) (.cons (.int _) (.cons (h2.mono hm) .nil))
theorem cT3 {t:TA}(h:A K m t ρ [.tuple ds]):I K m (cP1 K t) ρ (enD ds):=λS B σ H o J R q=>h S B σ H o J _ λvs H1 s1 r=>by
 cases r with
 | cons a b=>
  cases b
  cases a with
  | tup s r=>exact⟨_,_,rfl,C4 aB9 s,q _ H1 s1 (cS1 s r)⟩
end
end LV
namespace L2
open PySem PySem.Spec PyProof.Rows
open PySem.Builtin PySem.Builtin.Str
end L2
namespace LV
open PySem PySem.Spec PyProof.Rows L2
end LV
namespace L2
open PySem PySem.Spec PyProof.Rows
def Fly (h0:Heap)(H:Hp)(x:Addr)(cls:Value)(h:Heap):Prop:=
 ∃a0 oe vs T oT ts,h0.get? x=none/\h0.get? T=none/\H x=none/\H T=none/\h.get? x=some oe/\(oe.cls=cls/\vs[0]? = some a0)/\oe.data=.fields vs/\vs[1]? = some (.ref T)/\T≠x/\h.get? T=some oT/\oT.data=.fields ts/\ts[3]? = some .none
def CXe (P:Program)(w:World):CXT:=λouter H s E e s'=>
 ∃x cls H',e=.ref x/\s'.os=s.os/\AllBare s'.gens/\Un (frs outer) [] H H' s.heap s'.heap/\HOk P w H' s'.heap/\Fly s.heap H' x cls s'.heap/\E cls none H'
section
variable {P:Program}{w:World}{H H':Hp}{h h1 h2:Heap}{fs B:List Addr}
theorem cL6 (u:Un fs [] H H' h h1)(hB:∀b∈B,h.get? b=none)(k:∀b o,h1.get? b=some o->b∉fs->b∉B->h2.get? b=some o)(ks:∀b o,h1.get? b=some o->b∈fs->∃sl,h2.get? b=some {o with slots:=sl}):Un fs [] H H' h h2 where
 keep:=λb o e n hb hx=>k b o (u.keep b o e n hb hx) hb λz=>by rw[hB b z]at e;cases e
 slot:=λb o e n hb hx=>by
  obtain ⟨sl,e1⟩:=u.slot b o e n hb hx;obtain ⟨sl',e2⟩:=ks b _ e1 hb;exact⟨sl',e2⟩
 free:=u.free
 there:=λb o e hx=>by
  obtain ⟨o',e1⟩:=u.there b o e hx;by_cases hb:b∈fs
  ·obtain ⟨sl,e2⟩:=ks b o' e1 hb;exact⟨_,e2⟩
  ·exact⟨o',k b o' e1 hb λz=>by rw[hB b z]at e;cases e⟩
 tups:=u.tups
 frzs:=u.frzs
 tbls:=u.tbls
theorem bR7 (hok:HOk P w H h1)(hfs:∀b∈fs,H b=none)(hB:∀b∈B,H b=none)(k:∀b o,h1.get? b=some o->b∉fs->b∉B->h2.get? b=some o):HOk P w H h2:=λa o e=>
 (hok a o e).stay (λb u hb q=>by
  have ht:∃y,H b=some y:=by
   rcases hb with rfl | hb
   ·exact⟨_,e⟩
   ·exact⟨_,hb⟩
  obtain ⟨y,hy⟩:=ht;refine k b u q (λz=>?_) λz=>?_
  ·rw[hfs b z]at hy;cases hy
  ·rw[hB b z]at hy;cases hy) (λ_ q=>q) λ_ _ q=>q
theorem Z5 {a:Addr}{o:HO}(x:ObjOk P w H h a o):∃ob,h.get? a=some ob:=by
 cases o with
 | lst xs=>obtain ⟨_,_,_,_,e⟩:=x;exact⟨_,e⟩
 | tup xs=>obtain ⟨_,_,_,o,e,_⟩:=x;exact⟨_,e⟩
 | dK kvs=>obtain ⟨_,_,_,_,o,_,_,e,_⟩:=x;exact⟨_,e⟩
 | dT kvs=>obtain ⟨_,_,_,_,o,_,_,e,_⟩:=x;exact⟨_,e⟩
 | set S n=>obtain ⟨o,_,_,_,e,_⟩:=x;exact⟨_,e⟩
 | ins C dx fs=>obtain ⟨_,_,_,e,_⟩:=x;exact⟨_,e⟩
 | own y=>obtain ⟨_,e⟩:=x;exact⟨_,e⟩
 | xd fs=>obtain ⟨_,⟨_,_,_,e,_⟩,_⟩:=x;exact⟨_,e⟩
 | rng lo hi=>obtain ⟨_,_,_,e⟩:=x;exact⟨_,e⟩
 | frz ob u=>obtain ⟨e,_⟩:=x;exact⟨_,e⟩
 | tbl ps=>exact⟨_,show h.get? a=some _ from x⟩
 | met f y=>exact⟨_,show h.get? a=some _ from x⟩
 | ext φ=>obtain ⟨_,e,_⟩:=x;exact e
theorem aA4 {base:Heap}{D:List Addr}:∀{l:List Env},h.FunFrames base l->(∀b∈frs l,b∈D)->h.FunFrames (PySem.W.hideAll h1 D) l
 | [],_,_=>trivial
 | env::rest,⟨hk,⟨L,o,hf,hn,ho,hd⟩,hr⟩,hD=>by
  have hL:L∈frs (env::rest):=by unfold frs;rw[List.filterMap_cons,hf];exact List.mem_cons_self ..
  refine⟨hk,⟨L,o,hf,PySem.W.hideAll_none _ (hD L hL),ho,hd⟩,aA4 hr λb hb=>hD b ?_⟩
  unfold frs at hb ⊢;rw[List.filterMap_cons,hf];exact Ad3 _ hb
end
section
variable {P:Program}{w:World}{M:Model}{A:Around}{E:Value->Shared->Prop}{s:Shared}{H0 H:Hp}{h0 base:Heap}{env:Env}{outer:List Env}{L x:Addr}{cls:Value}{Q:Unit->Shared->Prop}
theorem cG9 {h:Heap}{args:List Value}(hfr:A.frames=some (env::outer))(hf:env.frame=some L)(hl:h.FunFrames base (env::outer))(hx:Heap.MadeExcOf h s.heap x cls args)(hth:∀b o,h0.get? b=some o->∃o',h.get? b=some o')(hok:HOk P w H h)
  (hQ:∀(h2:Heap),(∀b o,h.get? b=some o->b∉frs (env::outer)->h2.get? b=some o)->(∀b o,h.get? b=some o->b∈frs (env::outer)->∃sl,h2.get? b=some {o with slots:=sl})->Fly h0 H x cls h2->Q () {s with heap:=h2}) :
  wpAny M A (leaving env (.ref x)) Q E s:=by
 have hfields:∀b∈frs (env::outer),∃o,h.get? b=some o/\∀vs,o.data≠.fields vs:=λb hb=>(hl.mem hb).2
 have new0:∀b,h.get? b=none->h0.get? b=none/\H b=none:=λb e=>by
  constructor
  ·cases q:h0.get? b with
   | none=>rfl
   | some o=>obtain ⟨o',q'⟩:=hth b o q;rw[e]at q';cases q'
  ·cases q:H b with
   | none=>rfl
   | some u=>obtain ⟨o',q'⟩:=Z5 (hok b u q);rw[e]at q';cases q'
 refine wpAny_leaves_madeW (base:=PySem.W.hideAll h (frs (env::outer))) hfr hf (λb o e=>PySem.W.of_hideAll _ e) (aA4 hl λb hb=>hb) hx λh2 t hfl _ _ hup=>?_
 obtain ⟨k1,_,_,oe',vs',T',oT',ts',e1,e2,e3,e4,e5,e6,e7,e8,e9⟩:=hfl;have ks:∀b o,h.get? b=some o->b∈frs (env::outer)->∃sl,h2.get? b=some {o with slots:=sl}:=λb o e hb=>by
  obtain ⟨o',e',hnf⟩:=hfields b hb;rw[e]at e';cases e';exact hup b o (hx.keeps b o e) hnf
 have hT:h.get? T'=none:=by
  cases q:h.get? T' with
  | none=>rfl
  | some o=>
   by_cases hb:T'∈frs (env::outer)
   ·obtain ⟨o',e',hnf⟩:=hfields T' hb;obtain ⟨sl,q⟩:=ks T' o' e' hb;rw[e7]at q;have q:=Ab4 q;subst q;exact absurd e8 (hnf ts')
   ·rw[PySem.W.hideAll_get _ q hb]at e5;cases e5
 exact hQ h2 (λb o e hb=>k1 b o (PySem.W.hideAll_get _ e hb)) ks ⟨_,oe',vs',T',oT',ts',(new0 x hx.new).1,(new0 T' hT).1,(new0 x hx.new).2,(new0 T' hT).2,e1,e2,e3,e4,e6,e7,e8,e9⟩
end
section
variable {P:Program}{w:World}{K:PySem.W.Frag}{mg:Str->Option Value}{base:Heap}{N:List Str}{qual:Str}{scope:Scope}{f:Addr}{cd:Value}{A:Around}{outer:List Env}{s:Shared}{H:Hp}{E:XK}
theorem cL0 {env:Env}{L:Addr}(h:env.frame=some L):frs (env::outer)=L::frs outer:=by unfold frs;rw[List.filterMap_cons,h]
theorem dB6 {pins:List (Addr×Obj)}{σ:St}{H1:Hp}{s1:Shared}{h2:Heap}{g:Array GenState}{dr:Drawn}{tk:Nat}{B:List Addr}{x:Addr}{cls:Value}(I:Inv (aQ9 (CXe P w) P w K mg base N qual scope f cd A outer s H E) pins σ H1 s1)(hB:∀b∈B,s.heap.get? b=none/\H1 b=none)
  (k:∀b o,s1.heap.get? b=some o->b∉frs (envOfC qual scope s.heap.objs.size f cd::outer)->b∉B->h2.get? b=some o) (ks:∀b o,s1.heap.get? b=some o->b∈frs (envOfC qual scope s.heap.objs.size f cd::outer)->∃sl,h2.get? b=some {o with slots:=sl})
  (F:Fly s.heap H1 x cls h2) (q:E cls none H1) (hg:AllBare g):CXe P w outer H s E (.ref x) {s1 with heap:=h2,gens:=g,drawn:=dr,toks:=tk}:=by
 have ef:frs (envOfC qual scope s.heap.objs.size f cd::outer)=s.heap.objs.size::frs outer:=cL0 rfl
 have hL:s.heap.get? s.heap.objs.size=none:=Heap.get?_none_of_le (Aa7 _)
 have hb:Un (frs outer) [] H H1 s.heap s1.heap:=I.base
 rw[ef]at k ks;refine⟨x,cls,H1,rfl,I.os,hg,cL6 (B:=s.heap.objs.size::B) hb (λb hm=>?_) (λb o e h1 h2=>?_) (λb o e h1=>ks b o e (Ad3 _ h1)),bR7 (fs:=s.heap.objs.size::frs outer) (B:=B) I.hok (λb hm=>?_) (λb hm=>(hB b hm).2) k,F,q⟩
 ·rcases Aa1.mp hm with rfl | hm
  ·exact hL
  ·exact(hB b hm).1
 ·refine k b o e (λz=>?_) λz=>h2 (Ad3 _ z)
  rcases Aa1.mp z with rfl | z
  ·exact h2 (List.mem_cons_self ..)
  ·exact h1 z
 ·exact I.stkFree b (by show b∈frs (envOfC qual scope s.heap.objs.size f cd::outer);rw[ef];exact hm)
end
abbrev bmV:List Value:=[.type "ValueError",.type "Exception",.type "BaseException",.type "object"]
theorem aK6 {K:PySem.W.Frag}{h:Heap}{C:Addr}{bmB:List Value}{newId:String}(X:K.In h)(q:PySem.W.excIn K C bmB newId=true) :
  ∃bm N nm qn bs hdct sn sub ab col dd k0 k1 k2 k3 k5 mN,h.get? C=some (excClassObj nm qn C N bs bm hdct sn sub ab col dd k0 k1 k2 k3 k5 newId)/\h.Ns N mN/\mN "__init__" = none/\OwnTail h bmB bm:=by
 unfold PySem.W.excIn at q;split at q
 ·rename_i dd cd sl ho;split at q
  ·rename_i C' bm k0 k1 k2 k3 n k5 hm hs;simp only[Bool.and_eq_true,beq_iff_eq,Bool.not_eq_true']at q;obtain ⟨⟨⟨⟨⟨rfl,rfl⟩,hdel⟩,ht⟩,hok⟩,hni⟩:=q;obtain ⟨nm,bs,mro,ns,qn,hd,sn,sub,ab,col,del⟩:=cd;dsimp only at hm hdel hok hni;subst hm hdel;have hsl:sl = #[k0,k1,k2,k3,some (.builtin n),k5]:=by
    obtain ⟨l⟩:=sl;simp only at hs;rw[hs]
   subst hsl;exact⟨bm,ns,nm,qn,bs,hd,sn,sub,ab,col,dd,k0,k1,k2,k3,k5,_,X _ _ ho,.of_isNs (PySem.W.isNs_of_in X hok),PySem.W.nsMap_none_of_in X hok hni,PySem.W.tail_of_in X ht⟩
  ·cases q
 ·cases q
section
variable {X:Cx}
def cR9 (EX:Hp->Prop)(t:TA):TS:=λ_ σ H=>t σ H λvs H1=>vs.length<=1000/\EX H1
theorem bM2 {x:Str}{C:Addr}{e0:Expr}{rest:List Expr}{t:TA}{EX:Hp->Prop}{np cpos pos:Pos}(hg:Gl X x)(hm:X.mg x=some (.ref C))(hC:PySem.W.excIn X.K C bmV "ValueError.__new__" = true)(hc:X.calm=true)(ha:PA X (e0::rest) t)
  (hX:∀(pins:List (Addr×Obj)) (σ:St) (H:Hp) (s:Shared) (h':Heap) (y:Addr) (vs:List Value),Inv X pins σ H s->Heap.MadeExcOf s.heap h' y (.ref C) vs->EX H->X.xe (.ref y) {s with heap:=h'}) (hdb:(x==("__debug__" : Str))=false:=by decide)
  (he:starEach (e0::rest) X.env=(false,eval e0 X.env)::starEach rest X.env:=by rfl) (hpl:(backTo cpos (starEach rest X.env)).any (·.1)=false:=by rfl):PS X (.Raise (some (.Call (.Name x np) (e0::rest) [] cpos)) none pos) (cR9 EX t):=by
 refine⟨?_⟩;intro pins s σ H D I h;obtain ⟨bm,N,nm,qn,bs,hdct,sn,sub,ab,col,dd,k0,k1,k2,k3,k5,mN,o1,o2,o3,o4⟩:=aK6 I.ok.mod.kin hC;refine wpAny_Raise_call_subU (C:=C) (nm:=nm) (q:=qn) (N:=N) (bs:=bs) (bm:=bm) (hdct:=hdct) (sn:=sn) (sub:=sub) (ab:=ab) (col:=col) (dd:=dd) (k0:=k0) (k1:=k1) (k2:=k2) (k3:=k3) (k5:=k5) (newId := "ValueError.__new__") F.excBase_ValueError (by decide) F.excBase_ValueError (mN:=mN) (o4.hasType F.excBase_ValueError.hasBase) (I.ok.hd hc) (by rw[he];show(false||(backTo cpos (starEach rest X.env)).any (·.1))=false;rw[hpl];rfl) o3 (aD2 I hg hm ⟨rfl,?_⟩ hdb)
 have hh:=ha cpos pins s σ H _ I h
 rw[he]at hh ⊢;refine Calls.evalArgs_plain (wpAny_mono hh (λvs s2 h2=>?_) λ_ _ y=>y)
 obtain ⟨us,H1,I1,r1,hl,q⟩:=h2;refine⟨rfl,?_,I1.bk _ _ o1,o2.keeps I1.bk,o4.keeps I1.bk,λh' e hm=>hX pins σ H1 s2 h' e vs I1 hm q⟩
 have:=r1.length
 show vs.length<=sizeLine
 unfold sizeLine;omega
end
section
variable {P:Program}{w:World}{K:PySem.W.Frag}{mg:Str->Option Value}{base:Heap}{N:List Str}{qual:Str}{scope:Scope}{f:Addr}{cd:Value}{A:Around}{outer:List Env}{s:Shared}{H:Hp}{E:XK}
theorem cJ3 {cls:Value}:∀(pins:List (Addr×Obj)) (σ:St) (H1:Hp) (s1:Shared) (h':Heap) (y:Addr) (vs:List Value),Inv (aQ9 (CXe P w) P w K mg base N qual scope f cd A outer s H E) pins σ H1 s1->Heap.MadeExcOf s1.heap h' y cls vs->E cls none H1->(aQ9 (CXe P w) P w K mg base N qual scope f cd A outer s H E).xe (.ref y) {s1 with heap:=h'}:=by
 intro pins σ H1 s1 h' y vs I hm q;have hth:∀b o,s.heap.get? b=some o->∃o',s1.heap.get? b=some o':=λb o e=>I.base.there b o e (by exact λz=>absurd (show b∈([]:List Addr) from z) (by simp))
 exact cG9 (P:=P) (w:=w) (H:=H1) (h0:=s.heap) (base:=base) (h:=s1.heap) (s:={s1 with heap:=h'}) I.ok.frames rfl I.stack hm hth I.hok λh2 k ks F2=>dB6 (B:=[]) (s1:=s1) I (λb hb=>absurd hb (by simp)) (λb o e hb _=>k b o e hb) ks F2 q I.bare
theorem Fun.okX {x qual:Str}{st:Stmt}{f:Addr}{fd:FuncData}{N ps:List Str}{k:Nat}{sp:Sp}(F:Fun K x qual st f fd)(S:D6 N ps (A6 st))(len:∀vs H Q E,sp vs H Q E->vs.length=ps.length)
  (hbody:∀(cdv:Value) (A:Around) (outer:List Env) (s:Shared) (H:Hp) (vs:List V) (Q:VK) (E:XK),Room k (A.deeper (envOfC qual (A6 st) s.heap.objs.size f cdv))->sp vs H Q E ->
   ∃t,PSs (aQ9 (CXe P w) P w K mg base N qual (A6 st) f cdv A outer s H E) (C8 st) t/\t {nx:=λ_ H'=>Q .non H',rt:=Q} (U1 N vs) H):E3 P w K mg base (CXe P w) (k+1) f fd ps sp:=by
 obtain ⟨oc,od,kV,doc,pm,an,cdv,ct,osl,rfl,lk,hcd⟩:=F.ex;exact dA0 lk hcd S len λA outer s H vs Q E hr hsp=>hbody cdv A outer s H vs Q E hr hsp
end
structure Mv (fs B:List Addr)(h h':Heap):Prop where
 k:∀b o,h.get? b=some o->b∉fs->b∉B->h'.get? b=some o
 s:∀b o,h.get? b=some o->b∈fs->∃sl,h'.get? b=some {o with slots:=sl}
section
variable {P:Program}{w:World}{H:Hp}{h h0 h2 base:Heap}{l:List Env}{x T:Addr}{cls a0:Value}
theorem bL1 (hl:h.FunFrames base l)(hth:∀b o,h0.get? b=some o->∃o',h.get? b=some o')(hok:HOk P w H h)(n1:h0.get? x=none)(n2:h0.get? T=none)(n3:H x=none)(n4:H T=none)
  (k1:(PySem.W.hideAll h (x::T::frs l)).StaysIn h2) (tr:h2.TracedW (PySem.W.hideAll h (x::T::frs l)) x cls a0) (hup:h.UpToSlots h2):Mv (frs l) [x,T] h h2/\Fly h0 H x cls h2:=by
 obtain ⟨oe',vs',T',oT',ts',e1,e2,e3,e4,e5,e6,e7,e8,e9⟩:=tr;have hfields:∀b∈frs l,∃o,h.get? b=some o/\∀vs,o.data≠.fields vs:=λb hb=>(hl.mem hb).2
 have ks:∀b o,h.get? b=some o->b∈frs l->∃sl,h2.get? b=some {o with slots:=sl}:=λb o e hb=>by
  obtain ⟨o',e',hnf⟩:=hfields b hb;rw[e]at e';cases e';exact hup b o e hnf
 refine⟨⟨λb o e hb hB=>k1 b o (PySem.W.hideAll_get _ e ?_),ks⟩,a0,oe',vs',T',oT',ts',n1,?_,n3,?_,e1,e2,e3,e4,e6,e7,e8,e9⟩
 ·intro z;rcases Aa1.mp z with z | z
  ·exact hB (z▸List.mem_cons_self ..)
  ·rcases Aa1.mp z with z | z
   ·exact hB (z▸Ad3 _ (List.mem_cons_self ..))
   ·exact hb z
 all_goals
  by_cases hb:T'∈x::T::frs l
  ·rcases Aa1.mp hb with z | z
   ·exact absurd z e6
   ·rcases Aa1.mp z with z | z
    ·first | exact z▸n2 | exact z▸n4
    ·exfalso
     obtain ⟨o',e',hnf⟩:=hfields T' z;obtain ⟨sl,q⟩:=ks T' o' e' z;rw[e7]at q;have q:=Ab4 q;subst q;exact hnf ts' e8
  ·first
    | (cases q:h0.get? T' with
     | none=>rfl
     | some o=>
      obtain ⟨o',q'⟩:=hth T' o q;rw[PySem.W.hideAll_get _ q' hb]at e5;cases e5)
    | (cases q:H T' with
     | none=>rfl
     | some u=>
      obtain ⟨o',q'⟩:=Z5 (hok T' u q);rw[PySem.W.hideAll_get _ q' hb]at e5;cases e5)
end
section
variable {P:Program}{w:World}{M:Model}{A A':Around}{E E':Value->Shared->Prop}{s:Shared}{H:Hp}{h0 base:Heap}{env:Env}{outer:List Env}{L x:Addr}{cls:Value}{Q:Unit->Shared->Prop}
theorem cA9 (hfr:A.frames=some (env::outer))(hf:env.frame=some L)(hl:s.heap.FunFrames base (env::outer))(F:Fly h0 H x cls s.heap)(hth:∀b o,h0.get? b=some o->∃o',s.heap.get? b=some o')(hok:HOk P w H s.heap)
  (hQ:∀(h2:Heap) (B:List Addr),(∀b∈B,h0.get? b=none/\H b=none)->Mv (frs (env::outer)) B s.heap h2->Fly h0 H x cls h2->Q () {s with heap:=h2}) :
  wpAny M A (noteFrame (.ref x) env) (λ_ s2=>wpAny M A (setFlight (.ref x) none) Q E s2) E s:=by
 obtain ⟨a0,oe,vs,T,oT,ts,n1,n2,n3,n4,hx,hc,hd,h1,hTx,hT,hdT,h3⟩:=F;refine wpAny_looks_onW (base:=PySem.W.hideAll s.heap (x::T::frs (env::outer))) (cls:=cls) (a0:=a0) hfr hf ⟨λb o e=>PySem.W.of_hideAll _ e,PySem.W.hideAll_none _ (List.mem_cons_self ..),aA4 hl λb hb=>Ad3 _ (Ad3 _ hb),oe,vs,T,oT,ts,hx,hc,hd,h1,PySem.W.hideAll_none _ (Ad3 _ (List.mem_cons_self ..)),hTx,hT,hdT,h3⟩ λh4 hh hup4=>?_
 refine wpAny_landsW hh λh5 hfl hup5=>?_
 obtain ⟨mv,F2⟩:=bL1 (P:=P) (w:=w) hl hth hok n1 n2 n3 n4 hfl.1 hfl.2.2.2 (hup4.trans hup5);refine hQ h5 [x,T] (λb hb=>?_) mv F2
 rcases Aa1.mp hb with rfl | hb
 ·exact⟨n1,n3⟩
 ·rw[Ad6.mp hb];exact⟨n2,n4⟩
theorem cF1 (hl:s.heap.FunFrames base (env::outer))(F:Fly h0 H x cls s.heap)(hth:∀b o,h0.get? b=some o->∃o',s.heap.get? b=some o')(hok:HOk P w H s.heap)
  (hQ:∀(h2:Heap) (B:List Addr),(∀b∈B,h0.get? b=none/\H b=none)->Mv (frs (env::outer)) B s.heap h2->Fly h0 H x cls h2->Q () {s with heap:=h2}) :
  wpAny M A (setFlight (.ref x) none) Q E s:=by
 obtain ⟨a0,oe,vs,T,oT,ts,n1,n2,n3,n4,hx,hc,hd,h1,hTx,hT,hdT,h3⟩:=F;refine lands_againW (base:=PySem.W.hideAll s.heap (x::T::frs (env::outer))) (l:=env::outer) (cls:=cls) (a0:=a0) ⟨λb o e=>PySem.W.of_hideAll _ e,PySem.W.hideAll_none _ (List.mem_cons_self ..),aA4 hl λb hb=>Ad3 _ (Ad3 _ hb),oe,vs,T,oT,ts,hx,hc,hd,h1,PySem.W.hideAll_none _ (Ad3 _ (List.mem_cons_self ..)),hTx,hT,hdT,h3⟩ λh5 hfl hup=>?_
 obtain ⟨mv,F2⟩:=bL1 (P:=P) (w:=w) hl hth hok n1 n2 n3 n4 hfl.1 hfl.2.2.2 hup;refine hQ h5 [x,T] (λb hb=>?_) mv F2
 rcases Aa1.mp hb with rfl | hb
 ·exact⟨n1,n3⟩
 ·rw[Ad6.mp hb];exact⟨n2,n4⟩
end
theorem cT6 {P:Program}{w:World}{H:Hp}{h:Heap}{x C:Addr}{o:Obj}{vs:Array Value}(e:h.get? x=some o)(hc:o.cls=.ref C)(hd:o.data=.fields vs):ObjOk P w H h x (excO x C):=
 ⟨⟨o,vs,e,hc,hd⟩,⟨o,e⟩,λh1 h2 ⟨o',vs',e1,e2,e3⟩ k=>⟨o',vs',k _ e1,e2,e3⟩⟩
abbrev Cx.markd (X:Cx)(e:Value):Cx:={X with A:=X.A.mark (some e),calm:=false,xe:=λ_ _=>False}
theorem Inv.markd {X:Cx}{pins:List (Addr×Obj)}{σ:St}{H:Hp}{s:Shared}(I:Inv X pins σ H s)(e:Value):Inv (X.markd e) pins σ H s:=
 ⟨⟨I.ok.mod,I.ok.kind,I.ok.glob,I.ok.blt,I.ok.above,I.ok.inj,I.ok.has,I.ok.cab,(λz=>nomatch z),I.ok.frames,I.ok.stk,I.ok.exf,I.ok.bs,I.ok.bsz,I.ok.noex,I.ok.exfs,I.ok.funs,I.ok.frf⟩,I.os,I.bare,I.base,I.loc,I.cell,I.free,I.freeC,I.pin,I.hok,I.len⟩
theorem Inv.unmark {X:Cx}{pins:List (Addr×Obj)}{σ:St}{H:Hp}{s:Shared}{e:Value}(ok:X.Ok)(I:Inv (X.markd e) pins σ H s):Inv X pins σ H s:=
 ⟨ok,I.os,I.bare,I.base,I.loc,I.cell,I.free,I.freeC,I.pin,I.hok,I.len⟩
def cZ9 (X:Cx)(pins:List (Addr×Obj))(σ:St)(EX:XK)(e:Value)(s':Shared):Prop:=∃s0 H0,Inv X pins σ H0 s0/\CXe X.prog X.w X.stack H0 s0 EX e s'
structure PB (X:Cx)(body:List Stmt)(t:XK->TS):Prop where
 run:∀(pins:List (Addr×Obj)) (s:Shared) (σ:St) (H:Hp) (D:aN2) (EX:XK),Inv X pins σ H s->t EX D σ H->wpAny (model X.prog X.w) X.A (execs body X.env) (SP X pins D) (cZ9 X pins σ EX) s
def aQ7 (sp:Sp)(dvs:List V)(t:TA)(EX:XK):TE:=λσ H Q=>t σ H λvs H1=>sp (vs++dvs) H1 Q EX
section
variable {X:Cx}{k:Nat}{f:Addr}{fd:FuncData}{ps:List Str}{sp:Sp}{dvs:List V}{ds:List Value}{x:Str}{p pos:Pos}{e:Expr}{es:List Expr}{t:TA}
theorem cG4 (F:E3 X.prog X.w X.K X.mg X.base (CXe X.prog X.w) k f fd ps sp)(hr:Room k X.A)(hg:Gl X x)(hm:X.mg x=some (.ref f))(hk:PySem.W.keepIn X.K (.ref f)=true)(hb:Binds X.K fd ps ds)(hd:Vals dvs ds)
  (ha:PA X.nox (e::es) t) (hdb:(x==("__debug__" : Str))=false:=by decide) (he:starEach (e::es) X.env=(false,eval e X.env)::starEach es X.env:=by rfl) (hpl:(backTo pos (starEach es X.env)).any (·.1)=false:=by rfl)
  {pins:List (Addr×Obj)} {s:Shared} {σ:St} {H:Hp} {Q:VK} {EX:XK} (I:Inv X pins σ H s) (h:aQ7 sp dvs t EX σ H Q):wpAny (model X.prog X.w) X.A (eval (.Call (.Name x p) (e::es) [] pos) X.env) (EP X pins σ Q) (cZ9 X pins σ EX) s:=by
 refine wpAny_Call_Name_kw (aD2 I hg hm ?_ hdb);refine PySem.W.callWith_K (h₀:=X.base) I.ok.mod.kin hk (wpAny_mono (ha pos pins s σ H _ (I.wish _) h) (λus s1 ⟨vs,H1,I1,r,q⟩=>⟨I1.kIn,?_⟩) λ_ _ z=>False.elim z) he hpl
 have I1:=I1.unwish
 have r2:Vals (vs++dvs) (us++ds):=r.append hd
 have hl:(us++ds).length=ps.length:=by rw[<- r2.length];exact F.len _ _ _ _ q
 refine wpAny_call (codeAny_mono (F.run X.A X.stack s1 H1 ⟨us,[]⟩ (us++ds) (vs++dvs) Q EX hr I1.env0 (hb s1 us I1.kIn hl) r2 q) λr s' hq=>?_)
 cases r with
 | error e=>exact⟨s1,H1,I1,hq⟩
 | ok fl=>
  cases fl with
  | ret u=>exact I1.after hq
  | next=>exact False.elim hq
  | brk=>exact False.elim hq
  | cont=>exact False.elim hq
theorem cU3 {apos:Pos}(F:E3 X.prog X.w X.K X.mg X.base (CXe X.prog X.w) k f fd ps sp)(hr:Room k X.A)(hg:Gl X x)(hm:X.mg x=some (.ref f))(hk:PySem.W.keepIn X.K (.ref f)=true)(hb:Binds X.K fd ps ds)(hd:Vals dvs ds)
  (ha:PA X.nox (e::es) t) (hdb:(x==("__debug__" : Str))=false:=by decide) (he:starEach (e::es) X.env=(false,eval e X.env)::starEach es X.env:=by rfl) (hpl:(backTo pos (starEach es X.env)).any (·.1)=false:=by rfl)
  (hs:swapsWith (.Call (.Name x p) (e::es) [] pos) none apos.line X.env=pure false:=by rfl) :
  PB X [.Expr (.Call (.Name x p) (e::es) [] pos) apos] λEX=>aN0 (aQ7 sp dvs t EX):=by
 refine⟨λpins s σ H D EX I h=>?_⟩
 refine wpAny_execs_cons (wpAny_mono (wpAny_Expr_any (Q:=λfl s'=>fl=.next/\SP X pins D .next s') (wpAny_mono (cG4 F hr hg hm hk hb hd ha hdb he hpl I h) (λv s1 ⟨z,H1,I1,r1,q1⟩=>⟨rfl,σ,H1,I1,q1⟩) λ_ _ z=>z) I.quiet hs) (λfl s1 q=>?_) λ_ _ z=>z)
 obtain ⟨rfl,q⟩:=q;exact wpAny_execs_nil q
end
section
variable {X:Cx}{pins:List (Addr×Obj)}{σ:St}{H:Hp}{s:Shared}{h':Heap}
theorem Inv.unbind {j:Nat}{y:Str}{m:Str->Option Value}{v:Option Value}(I:Inv X pins σ H s)(hN:X.N.Nodup)(hj:X.N[j]? = some y)(hn:s.heap.Ns X.env.locals m)(hl:∀(i:Nat) (x:Str) (v:V),X.N[i]? = some x->σ[i]? = some (some v)->Vis X.env.scope x->∃u,RelV v u/\dM3 X.env s.heap m x u)
  (hn':h'.Ns X.env.locals λx=>if x=y then v else m x) (hs:Heap.SameBut X.env.locals s.heap h') {t':Nat}:Inv X pins (σ.set j none) H {s with heap:=h',toks:=t'}:=by
 have cne:=I.cne
 obtain ⟨oL,_,_,hoL,_⟩:=id hn;have tracked:HOk X.prog X.w H h':=λb ob e=>by
  refine(I.hok b ob e).stay (λc w' hc q=>(hs.2 c ?_).trans q) (λ_ q=>q) λ_ _ q=>q
  rintro rfl;rcases hc with rfl | hc
  ·rw[I.free]at e;cases e
  ·rw[I.free]at hc;cases hc
 refine⟨I.ok,I.os,I.bare,⟨λb o e n hb hx=>?_,λb o e n hb hx=>?_,I.base.free,λb o e hx=>?_,I.base.tups,I.base.frzs,I.base.tbls⟩,⟨_,hn',λi x v' e1 e2 e3=>?_⟩,λy c e=>?_,I.free,I.freeC,λp hp=>?_,tracked,by simpa using I.len⟩
 ·exact(hs.2 b (Ab9 (Ab8 (Ab3 e) I.ok.above))).trans (I.base.keep b o e n hb hx)
 ·obtain ⟨sl,e1⟩:=I.base.slot b o e n hb hx;exact⟨sl,(hs.2 b (Ab9 (Ab8 (Ab3 e) I.ok.above))).trans e1⟩
 ·obtain ⟨o',e1⟩:=I.base.there b o e hx;exact⟨o',(hs.2 b (Ab9 (Ab8 (Ab3 e) I.ok.above))).trans e1⟩
 ·have hij:i≠j:=λz=>by
   subst z;by_cases hi:i<σ.length
   ·rw[List.getElem?_set_self hi]at e2;cases e2
   ·rw[Ad4 (by simpa using hi)]at e2;cases e2
  rw[Ac9 (Ne.symm hij)]at e2;obtain ⟨u',r',q⟩:=hl i x v' e1 e2 e3;refine⟨u',r',?_⟩;rcases q with ⟨k,e⟩ | ⟨k,c,e,z⟩
  ·refine .inl ⟨k,?_⟩
   have:x≠y:=λz=>hij (by
    subst z;exact(List.getElem?_inj (Ab0.mp e1).1 hN).mp (e1.trans hj.symm))
   show(if x=y then v else m x)=some u'
   rw[if_neg this];exact e
  ·refine .inr ⟨k,c,e,?_⟩;obtain ⟨o,ho,hd⟩:=z;exact⟨o,(hs.2 c (cne x c e)).trans ho,hd⟩
 ·obtain ⟨v,o,ho,hd⟩:=I.cell y c e;exact⟨v,o,(hs.2 c (cne y c e)).trans ho,hd⟩
 ·obtain ⟨q1,q2,q3,q4⟩:=I.pin p hp;exact⟨(hs.2 p.1 q3).trans q1,q2,q3,q4⟩
end
def subIn (K:PySem.W.Frag)(C:Addr)(v:Value):Bool:=match K.lookup C with
 | some ⟨_,_,.cls cd,_⟩=>cd.mro.contains v
 | _=>false
section
variable {M:Model}{A:Around}{E:Value->Shared->Prop}
variable {nm q nm' q':Str}{C N T N':Addr}{bs bm bs' bm':List Value}{hdct hdct':Bool}{sn sn':List Str}{sub sub':List Value}{ab ab':Bool}{col col':Option Bool}{dd dd':Option Addr}{k0 k1 k2 k3 k5 j0 j1 j2 j3 j5:Option Value}{newId newId':String}
theorem aN8 {h:Heap}{g:Array GenState}{d:Drawn}{t:Nat}{os:OsState}{e:Addr}{oe:Obj}{Q:Bool->Shared->Prop}
  (hC:h.get? C=some (excClassObj nm q C N bs bm hdct sn sub ab col dd k0 k1 k2 k3 k5 newId)) (hT:h.get? T=some (excClassObj nm' q' T N' bs' bm' hdct' sn' sub' ab' col' dd' j0 j1 j2 j3 j5 newId')) (he:h.get? e=some oe) (hcls:oe.cls=.ref C) (hbase:bm'.contains (.type "BaseException")=true)
  (hin:(Value.ref C::bm).contains (.ref T)=true) (hq:Q true ⟨h,g,d,t,os⟩):wpAny M A (excMatches (.ref e) (.ref T)) Q E ⟨h,g,d,t,os⟩:=by
 have hcB:(Value.ref T::bm').contains (.type "BaseException")=true:=by rw[List.contains_cons,hbase,Bool.or_true]
 have f:=tc_notTuple
 unfold excMatches
 repeat (first | (with_reducible refine wpAny_loadPart_at he ?_;rw[hcls]) | with_reducible refine wpAny_loadPart_at hT ?_ | (with_reducible refine wpAny_isSubtype_exc hT ?_;rw[hcB]) | (with_reducible refine wpAny_isSubtype_exc hC ?_;rw[hin]) | wp_step)
 exact hq
end
theorem cB9 {K:PySem.W.Frag}{h:Heap}{C:Addr}{v:Value}{bm:List Value}{nm qn:Str}{N:Addr}{bs:List Value}{hdct:Bool}{sn:List Str}{sub:List Value}{ab:Bool}{col:Option Bool}{dd:Option Addr}{k0 k1 k2 k3 k5:Option Value}{newId:String}(X:K.In h)(e:h.get? C=some (excClassObj nm qn C N bs bm hdct sn sub ab col dd k0 k1 k2 k3 k5 newId))(q:subIn K C v=true):(Value.ref C::bm).contains v=true:=by
 unfold subIn at q;split at q
 ·rename_i ho
  have:=X _ _ ho
  rw[e]at this;cases this;exact q
 ·cases q
def dK4 (K:PySem.W.Frag)(TE:Addr)(tb:XK->TS)(j:Nat)(th:TS):TS:=λD σ H=>
 tb (λcls _ H1=>∃C,cls=.ref C/\PySem.W.excIn K C bmV "ValueError.__new__" = true/\subIn K C (.ref TE)=true/\∀x,H1 x=none->th {nx:=λσ' H'=>D.nx (σ'.set j none) H',rt:=λ_ _=>False} (σ.set j (some (.ref x))) (upd H1 x (excO x C))) D σ H
section
variable {X:Cx}
theorem dB4 {body:List Stmt}{tb:XK->TS}{cn en:Str}{TE:Addr}{b0:Stmt}{suite:List Stmt}{j:Nat}{th:TS}{np hpos pos:Pos}(hb:PB X body tb)(hg:Gl X cn)(hm:X.mg cn=some (.ref TE))(hTE:PySem.W.excIn X.K TE bmV "ValueError.__new__" = true)
  (hN:X.N.Nodup) (hj:X.N[j]? = some en) (hen:X.env.scope.names.lookup en=some .local) (hst:X.stack=X.env::X.outer) (hfr:X.env.frame=some X.env.locals) (hh:∀e,PSs (X.markd e) (b0::suite) th) (hdb:(cn==("__debug__" : Str))=false:=by decide) :
  PS X (.Try body [.ExceptHandler (some (.Name cn np)) (some en) (b0::suite) hpos] [] [] pos) (dK4 X.K TE tb j th):=by
 refine⟨?_⟩;intro pins s σ H D I h;refine wpAny_Try_except (wpAny_mono (hb.run pins s σ H D _ I h) (λf s1 q=>?_) (λe s1 hx=>?_))
 ·cases f with
  | next=>exact wpAny_execs_nil q
  | ret v=>exact q
  | brk=>exact q
  | cont=>exact q
 obtain ⟨s0,H0,I0,x,cls,H1,rfl,os,bare,un,hok,F,C,rfl,hC,hsub,hth⟩:=hx;have ex:H1 x=none:=by obtain ⟨_,_,_,_,_,_,_,_,n3,_⟩:=F;exact n3
 have n0:s0.heap.get? x=none:=by obtain ⟨_,_,_,_,_,_,n1,_⟩:=F;exact n1
 have J1:Inv X pins σ H1 s1:=I0.call' os un hok bare (λb z=>absurd z (by simp))
 have fr:X.A.frames=some (X.env::X.outer):=by rw[<- hst];exact I0.ok.frames
 have stk:∀{s':Shared} {σ':St} {H':Hp},Inv X pins σ' H' s'->s'.heap.FunFrames X.base (X.env::X.outer):=λJ=>by rw[<- hst];exact J.stack
 rw[hst]at un;have fsn:∀b∈frs (X.env::X.outer),H1 b=none:=λb hb=>J1.stkFree b (by rw[hst];exact hb)
 refine cA9 (P:=X.prog) (w:=X.w) fr hfr (stk J1) F (λb o e=>un.there b o e (by simp)) hok λh2 B hB mv F2=>?_
 have un2:=cL6 un (λb hb=>(hB b hb).1) mv.k mv.s
 have hok2:=bR7 hok fsn (λb hb=>(hB b hb).2) mv.k
 have J2:Inv X pins σ H1 {s1 with heap:=h2}:=I0.call' (s':={s1 with heap:=h2}) os (by rw[hst];exact un2) hok2 bare (λb z=>absurd z (by simp))
 refine wpAny_handleBy_cons (codeAny_handlers_test (aD2 (X:=X.markd (.ref x)) (J2.markd (.ref x)) hg hm ?_ hdb)) (by intro q;cases q)
 obtain ⟨bm,N,nm,qn,bs,hdct,sn,sub,ab,col,dd,k0,k1,k2,k3,k5,mN,o1,o2,o3,o4⟩:=aK6 J2.kIn hC;obtain ⟨bm',N',nm',qn',bs',hdct',sn',sub',ab',col',dd',j0,j1,j2,j3,j5,mN',o1',o2',o3',o4'⟩:=aK6 J2.kIn hTE;have hox:∃oe vs,h2.get? x=some oe/\oe.cls=.ref C/\oe.data=.fields vs:=by
  obtain ⟨_,oe,vs,_,_,_,_,_,_,_,e1,e2,e3,_⟩:=F2;exact⟨oe,vs,e1,e2.1,e3⟩
 obtain ⟨oe,vse,eo,eoc,eod⟩:=hox;refine aN8 o1 o1' eo eoc (o4'.hasType PySem.F.excBase_ValueError.hasBase) (cB9 J2.kIn o1 hsub) ?_;refine codeAny_handlers_suite_as ?_;refine cF1 (P:=X.prog) (w:=X.w) (stk J2) F2 (λb o e=>un2.there b o e (by simp)) hok2 λh3 B3 hB3 mv3 F3=>?_
 have un3:=cL6 un2 (λb hb=>(hB3 b hb).1) mv3.k mv3.s
 have hok3:=bR7 hok2 fsn (λb hb=>(hB3 b hb).2) mv3.k
 obtain ⟨oe',vse',eo',eoc',eod'⟩:∃oe vs,h3.get? x=some oe/\oe.cls=.ref C/\oe.data=.fields vs:=by
  obtain ⟨_,oe,vs,_,_,_,_,_,_,_,e1,e2,e3,_⟩:=F3;exact⟨oe,vs,e1,e2.1,e3⟩
 have un4:Un (frs (X.env::X.outer)) [] H0 (upd H1 x (excO x C)) s0.heap h3:=⟨un3.keep,un3.slot,λb o e n hx=>by
  rw[B2 (λz=>by rw[z,n0]at e;cases e)];exact un3.free b o e n hx,un3.there,λb xs e=>by
  rw[B2 (λz=>by have:=un3.tups b xs e;rw[z,ex]at this;cases this)];exact un3.tups b xs e,λb o u e=>by
  rw[B2 (λz=>by have:=un3.frzs b o u e;rw[z,ex]at this;cases this)];exact un3.frzs b o u e,λb ps e=>by
  obtain ⟨more,q⟩:=un3.tbls b ps e;exact⟨more,by rw[B2 (λz=>by rw[z,ex]at q;cases q)];exact q⟩⟩
 have hok4:HOk X.prog X.w (upd H1 x (excO x C)) h3:=λb u e=>by
  by_cases hb:b=x
  ·subst hb;rw[B7]at e;cases e;exact cT6 eo' eoc' eod'
  ·rw[B2 hb]at e;exact(hok3 b u e).stay (λ_ _ _ q=>q) (λc q=>by rw[B2 (D0 q ex)];exact q) λc xs q=>by rw[B2 (D0 q ex)];exact q
 have J4:Inv X pins σ (upd H1 x (excO x C)) {s1 with heap:=h3}:=I0.call' (s':={s1 with heap:=h3}) os (by rw[hst];exact un4) hok4 bare (λb z=>absurd z (by simp))
 refine aS6 (X:=X.markd (.ref x)) (v:=.ref x) (J4.markd (.ref x)) hN hj (.inl hen) rfl (λs4 J5=>?_) (.inr hen)
 refine wpAny_mono (hh (.ref x) pins s4 _ _ _ J5 (hth x ex)) (λf s5 q=>?_) λ_ _ z=>False.elim z
 cases f with
 | ret v=>obtain ⟨_,_,_,_,_,z⟩:=q;exact False.elim z
 | brk=>obtain ⟨_,_,_,z⟩:=q;exact False.elim z
 | cont=>obtain ⟨_,_,_,z⟩:=q;exact False.elim z
 | next=>
  obtain ⟨σ',H',J6,q⟩:=q;have J7:Inv X pins σ' H' s5:=J6.unmark I.ok;obtain ⟨m,hn,hl⟩:=id J7.loc;exact wpAny_nameGoes_keeps hen hn (by rw[I.ok.kind];rfl) λh' v hns hsb=>⟨_,H',J7.unbind hN hj hn hl hns hsb,q⟩
end
structure RoomU (k:Nat)(A:Around):Prop where
 dp:A.depth+3*k+5<recursionLimit
 un:A.units+16*k+200<cLine
theorem Room.u {k:Nat}{A:Around}(r:Room k A):RoomU k A:=⟨r.dp,r.un⟩
theorem RoomU.mark {k:Nat}{A:Around}{e:Option Value}(r:RoomU k A):RoomU k (A.mark e):=⟨r.dp,r.un⟩
theorem RoomU.mono {j k:Nat}{A:Around}(r:RoomU k A)(h:j<=k):RoomU j A:=⟨by have:=r.dp;omega,by have:=r.un;omega⟩
theorem RoomU.deeper {k:Nat}{A:Around}(r:RoomU (k+1) A)(env:Env):RoomU k (A.deeper env):=
 ⟨by have:=r.dp;show A.depth+1+3*k+5<_;omega,by have:=r.un;show A.units+3+16*k+200<_;omega⟩
structure bY8 (P:Program)(w:World)(K:PySem.W.Frag)(mg:Str->Option Value)(base:Heap)(k:Nat)(f:Addr)(fd:FuncData)(ps:List Str)(sp:Sp):Prop where
 len:∀vs H Q E,sp vs H Q E->vs.length=ps.length
 run:∀(A:Around) (outer:List Env) (s:Shared) (H:Hp) (args:Args) (us:List Value) (vs:List V) (Q:VK) (E:XK),RoomU k A->cB8 P w K mg base A outer s H->BindsTo s fd args (ps.zip us)->Vals vs us->sp vs H Q E ->
  codeAny (model P w) A (.call (.ref f) args) (CR CX0 outer P w H s Q E) s
abbrev cxU (P:Program)(w:World)(K:PySem.W.Frag)(mg:Str->Option Value)(base:Heap)(N:List Str)(qual:Str)(scope:Scope)(f:Addr)(cd:Value)(A:Around)(outer:List Env)(s:Shared)(H:Hp)(E:XK):Cx:=
 {aQ9 CX0 P w K mg base N qual scope f cd A outer s H E with calm:=false,xe:=λ_ _=>False}
section
variable {P:Program}{w:World}{K:PySem.W.Frag}{mg:Str->Option Value}{base:Heap}
theorem Fun.okU {x qual:Str}{st:Stmt}{f:Addr}{fd:FuncData}{N ps:List Str}{k:Nat}{sp:Sp}(F:Fun K x qual st f fd)(S:D6 N ps (A6 st))(len:∀vs H Q E,sp vs H Q E->vs.length=ps.length)
  (hbody:∀(cdv:Value) (A:Around) (outer:List Env) (s:Shared) (H:Hp) (vs:List V) (Q:VK) (E:XK),RoomU k (A.deeper (envOfC qual (A6 st) s.heap.objs.size f cdv))->sp vs H Q E ->
   ∃t,PSs (cxU P w K mg base N qual (A6 st) f cdv A outer s H E) (C8 st) t/\t {nx:=λ_ H'=>Q .non H',rt:=Q} (U1 N vs) H):bY8 P w K mg base (k+1) f fd ps sp:=by
 obtain ⟨oc,od,kV,doc,pm,an,cdv,ct,osl,rfl,lk,hcd⟩:=F.ex;refine⟨len,λA outer s H args us vs Q E hr e0 hb r hsp=>?_⟩
 have hl:=len _ _ _ _ hsp
 have KX:K.In s.heap:=e0.mod.kin.keeps λb o e=>(e0.bs b o e).1
 have lim:s.heap.NoLimit:=e0.mod.nolimit.keeps λb o e=>(e0.bs b o e).1
 have hkind:∀y∈ps.zip us,(A6 st).names.lookup y.1=some .local\/((A6 st).names.lookup y.1=some .cell/\((cellsFrom (s.heap.objs.size+1) (A6 st).names []).lookup y.1).isSome=true):=λ⟨n,v⟩ hy=>by
  rcases S.par n (List.of_mem_zip hy).1 with q | q
  ·exact .inl q
  ·exact .inr ⟨q,PySem.W.cellsFrom_some _ _ _ (.inl q)⟩
 refine codeAny_call_function (by have:=hr.dp;omega) (KX _ _ lk) rfl S.co S.gen rfl (PySem.W.codeRec_of KX hcd) (hb _ _ _ _ ?_)
 refine wpAny_newFunctionEnv_cells S.kind hkind λenv he s1 x=>?_
 subst he;refine⟨lim.keeps x.toInCall.keep,codeAny_func ?_⟩;obtain ⟨t,ht,hq⟩:=hbody cdv A outer s H vs Q E (hr.deeper _) hsp;have I0:=aY6 (CX:=CX0) (A:={A with handled:=none}) (qual:=qual) (f:=f) (cd:=cdv) (E:=E) S rfl (⟨e0.frames,e0.mod,e0.bs,e0.bsz,e0.funs,e0.frf,e0.hok,e0.bare⟩:cB8 P w K mg base {A with handled:=none} outer s H) hl r x
 have I:Inv (cxU P w K mg base N qual (A6 st) f cdv A outer s H E) [] (U1 N vs) H s1:=
  ⟨⟨I0.ok.mod,I0.ok.kind,I0.ok.glob,I0.ok.blt,I0.ok.above,I0.ok.inj,I0.ok.has,I0.ok.cab,(λz=>nomatch z),Around.frames_deeper e0.frames,I0.ok.stk,I0.ok.exf,I0.ok.bs,I0.ok.bsz,I0.ok.noex,I0.ok.exfs,I0.ok.funs,I0.ok.frf⟩,I0.os,I0.bare,I0.base,I0.loc,I0.cell,I0.free,I0.freeC,I0.pin,I0.hok,I0.len⟩
 refine wpAny_mono (ht [] s1 (U1 N vs) H _ I hq) (λfl s' hs=>?_) λe s' hs=>False.elim hs
 have fin:∀{σ':St} {H':Hp} {v:V} {u:Value},Inv (cxU P w K mg base N qual (A6 st) f cdv A outer s H E) [] σ' H' s'->RelV v u->Q v H'->CE outer P w H s Q u s':=
  λ{σ' H' v u} J rv q=>⟨v,H',J.os,J.bare,J.base,J.hok,rv,q⟩
 cases fl with
 | ret u=>
  obtain ⟨v,σ',H',J,rv,q⟩:=hs;exact fin J rv q
 | next=>
  obtain ⟨σ',H',J,q⟩:=hs;exact fin (v:=V.non) (u:=Value.none) J rfl q
 | brk=>
  obtain ⟨_,_,_,q⟩:=hs;exact False.elim q
 | cont=>
  obtain ⟨_,_,_,q⟩:=hs;exact False.elim q
end
section
variable {X:Cx}{k:Nat}{f:Addr}{fd:FuncData}{ps:List Str}{sp:Sp}{dvs:List V}{ds:List Value}{x:Str}{p pos:Pos}{e:Expr}{es:List Expr}{t:TA}
theorem cI6 (F:bY8 X.prog X.w X.K X.mg X.base k f fd ps sp)(hr:RoomU k X.A)(hg:Gl X x)(hm:X.mg x=some (.ref f))(hk:PySem.W.keepIn X.K (.ref f)=true)(hb:Binds X.K fd ps ds)(hd:Vals dvs ds)
  (ha:PA X (e::es) t) (hdb:(x==("__debug__" : Str))=false:=by decide) (he:starEach (e::es) X.env=(false,eval e X.env)::starEach es X.env:=by rfl) (hpl:(backTo pos (starEach es X.env)).any (·.1)=false:=by rfl) :
  PE X (.Call (.Name x p) (e::es) [] pos) (aT5 sp dvs E0 t):=by
 refine⟨?_⟩;intro pins s σ H Q I h;refine wpAny_Call_Name_kw (aD2 I hg hm ?_ hdb);refine PySem.W.callWith_K (h₀:=X.base) I.ok.mod.kin hk (thn (ha pos pins s σ H _ I h) λus s1 ⟨vs,H1,I1,r,q⟩=>⟨I1.kIn,?_⟩) he hpl
 have r2:Vals (vs++dvs) (us++ds):=r.append hd
 have hl:(us++ds).length=ps.length:=by rw[<- r2.length];exact F.len _ _ _ _ q
 refine wpAny_call (codeAny_mono (F.run X.A X.stack s1 H1 ⟨us,[]⟩ (us++ds) (vs++dvs) Q E0 hr I1.env0 (hb s1 us I1.kIn hl) r2 q) λr s' hq=>?_)
 cases r with
 | error e=>exact False.elim hq
 | ok fl=>
  cases fl with
  | ret u=>exact I1.after hq
  | next=>exact False.elim hq
  | brk=>exact False.elim hq
  | cont=>exact False.elim hq
end
section
variable {prog:Program}{w:World}{A:Around}{E:Value->Shared->Prop}{h:Heap}{g:Array GenState}{d:Drawn}{t:Nat}{os:OsState}{a C:Addr}{o:Obj}{K:PySem.W.Frag}
theorem bT1 {R:Result->Shared->Prop}(X:K.In h)(hx:h.get? a=some o)(hc:o.cls=.ref C)(hob:PySem.W.subIn K (.ref C) (.type "object")=some true)(hq:R (.ok (.ret (.ref C))) ⟨h,g,d,t,os⟩) :
  codeAny (model prog w) A (.call (.builtin "getset_descriptor.__get__") ⟨[.builtin "object.__class__",.ref a,.ref C],[]⟩) R ⟨h,g,d,t,os⟩:=by
 have hT5:(⟨h,g,d,t,os⟩:Shared).TypeIs (.builtin "object.__class__") "getset_descriptor" := F.typeOf_object_class
 have Ls:PySem.W.Looks (model prog w) h (isSubtype (.ref C) (.type (".".intercalate ("object.__class__".cutAt '.').dropLast))) true:=by
  rw[F.owner_object_class];exact PySem.W.looks_subIn X hob
 refine codeAny_call_builtin F.slot_gs_get.plain F.entry_gs_get (F.slot_gs_get.check _ _ _ _ _ _ _ _ hT5 (F.args_gs_get _ _ _) ?_)
 repeat (any_goals (first | assumption | (with_reducible refine wpAny_loadPart_at hx ?_;rw[hc]) | with_reducible refine Ls.at ?_ | wp_step))
 refine⟨Code.quiet_builtin _ (by decide +kernel),codeAny_builtin F.entry_object_class ?_⟩
 repeat (any_goals (first | assumption | (with_reducible refine wpAny_loadPart_at hx ?_;rw[hc]) | wp_step))
structure XAt (K:PySem.W.Frag)(C:Addr):Prop where
 ob:PySem.W.subIn K (.ref C) (.type "object")=some true
 be:PySem.W.subIn K (.ref C) (.type "BaseException")=some true
 ga:PySem.W.findIn K (.ref C) "__getattribute__" = some (some (.builtin "BaseException.__getattribute__"))
 gt:PySem.W.findIn K (.ref C) "__getattr__" = some none
 cl:PySem.W.findIn K (.ref C) "__class__" = some (some (.builtin "object.__class__"))
theorem bB5 {tk:Tok}{Q:Fin->Shared->Prop}(X:K.In h)(XA:XAt K C)(hx:h.get? a=some o)(hc:o.cls=.ref C)(hq:Q (.done (.ret (.ref C))) ⟨h,g,d,t,os⟩) :
  wpAny (model prog w) A (Builtin.«object.__getattribute__» ⟨[.ref a,.str "__class__" tk],[]⟩) Q E ⟨h,g,d,t,os⟩:=by
 have hT5:(⟨h,g,d,t,os⟩:Shared).TypeIs (.builtin "object.__class__") "getset_descriptor" := F.typeOf_object_class
 have f5:=F.typeOf_object_class
 have f6:=F.slot_gs_get.lookup
 have f7:=F.slot_gs_set.lookup
 have L1:=PySem.W.looks_findIn (M:=model prog w) X XA.cl
 repeat (any_goals (first | assumption | (with_reducible refine wpAny_loadPart_at hx ?_;rw[hc]) | with_reducible refine L1.at ?_ | wp_step))
 refine bT1 X hx hc XA.ob ?_
 repeat (any_goals (first | assumption | wp_step))
theorem cA4 {M:Model}{nameV:Value}{Q:Unit->Shared->Prop}(X:K.In h)(XA:XAt K C)(hx:h.get? a=some o)(hc:o.cls=.ref C)(hq:Q () ⟨h,g,d,t,os⟩):wpAny M A (checkBuiltinCall "BaseException.__getattribute__" ⟨[.ref a,nameV],[]⟩) Q E ⟨h,g,d,t,os⟩:=by
 have hk:builtinKind "BaseException.__getattribute__" = some .slot:=by decide +kernel
 have hsplit:splitId "BaseException.__getattribute__" = some ("BaseException", "__getattribute__"):=by decide +kernel
 have Ls:=PySem.W.looks_subIn (M:=M) X XA.be
 have ha:=F.args_bexc_ga (.ref a) nameV
 simp only[checkBuiltinCall,hk,hsplit];refine wpAny_bind ?_
 ·unfold isInstance
  repeat (first | (with_reducible refine wpAny_loadPart_at hx ?_;rw[hc]) | with_reducible refine Ls.at ?_ | wp_step)
  exact hq
theorem cA8 {tk:Tok}{fill expr:Bool}{Q:Value->Shared->Prop}(X:K.In h)(XA:XAt K C)(hx:h.get? a=some o)(hc:o.cls=.ref C)(hq:Q (.ref C) ⟨h,g,d,t,os⟩) :
  wpAny (model prog w) A (getAttrBy (.ref a) (.str "__class__" tk) fill expr) Q E ⟨h,g,d,t,os⟩:=by
 have f3:=F.excAttr_ValueError.ga.bind (.ref a)
 have hx0:(expr&&onTheHeap (Value.builtin "BaseException.__getattribute__"))=false:=by cases expr <;> rfl
 have hx2:(Value.builtin "BaseException.__getattribute__" == Value.builtin "object.__getattribute__")=false:=by decide +kernel
 have hx1:(onTheHeap (Value.ref C)&&Value.builtin "BaseException.__getattribute__" == Value.builtin "object.__getattribute__")=false:=by rw[hx2];rfl
 have L1:=PySem.W.looks_findIn (M:=model prog w) X XA.ga
 have L2:=PySem.W.looks_findIn (M:=model prog w) X XA.gt
 repeat (any_goals (first | assumption | (with_reducible refine wpAny_loadPart_at hx ?_;rw[hc]) | with_reducible refine L1.at ?_ | with_reducible refine L2.at ?_ | wp_step))
 refine codeAny_call_builtin F.excAttr_ValueError.ga.plain F.entry_bexc_ga (cA4 X XA hx hc (bB5 X XA hx hc ?_))
 repeat (any_goals (first | assumption | wp_step))
theorem bH5 {Q:Option Value->Shared->Prop}(X:K.In h)(XA:XAt K C)(hx:h.get? a=some o)(hc:o.cls=.ref C)(hq:Q (some (.ref C)) ⟨h,g,d,t+1,os⟩):wpAny (model prog w) A (getAttr? (.ref a) "__class__") Q E ⟨h,g,d,t,os⟩:=by
 unfold getAttr? getAttrBy?
 repeat (any_goals (first | assumption | with_reducible apply cA8 X XA hx hc | wp_step))
end
section
variable {prog:Program}{w:World}{A:Around}{E:Value->Shared->Prop}{h:Heap}{g:Array GenState}{d:Drawn}{t:Nat}{os:OsState}{a C:Addr}{o:Obj}{K:PySem.W.Frag}
theorem aM7 {c:Value}{b:Bool}{dep:Int}{tk:Tok}{Q:Fin->Shared->Prop}(X:K.In h)(XA:XAt K C)(hx:h.get? a=some o)(hc:o.cls=.ref C)(hty:PySem.W.Looks (model prog w) h (typeOf c) (.type "type"))(his:PySem.W.Looks (model prog w) h (isType c) true)(hisC:PySem.W.Looks (model prog w) h (isType (.ref C)) true)
  (hsub:PySem.W.Looks (model prog w) h (isSubtype (.ref C) c) b) (hne:(Value.ref C==c)=true->b=true) (hq:∀tk',Q (.done (.ret (.bool b))) ⟨h,g,d,tk',os⟩) :
  wpAny (model prog w) A (Builtin.«isinstance.nested» ⟨[.ref a,c,.int dep tk],[]⟩) Q E ⟨h,g,d,t,os⟩:=by
 have L0:PySem.W.Looks (model prog w) h (typeOf (.ref a)) (.ref C):=by
  intro A' Q' E' s' k q;unfold typeOf;exact wpAny_bind (wpAny_loadPart (k _ _ hx) (wpAny_pure (by rw[hc];exact q)))
 have LI:PySem.W.Looks (model prog w) h (isInstance (.ref a) c) b:=L0.andThen hsub
 unfold Builtin.«isinstance.nested»;refine wpAny_bind (L0.at ?_);by_cases e:(Value.ref C==c)=true
 ·have:=hne e
  subst this;rw[if_pos e];refine wpAny_bind (wpAny_rule ?_);exact wpAny_pure (hq t)
 ·rw[if_neg e];refine wpAny_bind (hty.at ?_);rw[if_pos (by decide)]
  k_delta "plainIsInstance"
  refine wpAny_bind (wpAny_bind (his.at ?_));simp only[Bool.not_true,Bool.false_eq_true,if_false];refine wpAny_bind (LI.at ?_);cases b with
  | true=>
   simp only[if_true];first
    | exact wpAny_pure (wpAny_pure (hq _))
    | exact wpAny_pure (hq _)
    | exact wpAny_bind (wpAny_pure (wpAny_pure (hq _)))
  | false=>
   simp only[Bool.false_eq_true,if_false];refine wpAny_bind (bH5 X XA hx hc ?_);refine wpAny_bind (hisC.at ?_);simp only[Bool.not_true,Bool.false_eq_true,if_false];refine wpAny_bind (wpAny_rule ?_);refine hsub.at ?_;first
    | exact wpAny_pure (hq _)
    | exact wpAny_pure (wpAny_pure (hq _))
    | exact wpAny_bind (wpAny_pure (wpAny_pure (hq _)))
end
structure XCl (K:PySem.W.Frag)(D:Addr):Prop where
 cls:(PySem.W.clsIn K D).isSome=true
 ty:PySem.W.typeIn K (.ref D)=some (.type "type")
theorem XCl.isType {K:PySem.W.Frag}{D:Addr}(x:XCl K D){M:Model}{h:Heap}(X:K.In h):PySem.W.Looks M h (PySem.isType (.ref D)) true:=by
 have e1:=x.cls
 unfold PySem.W.clsIn at e1;split at e1
 ·rename_i c' d' cd' sl' ho;intro A' Q' E' s' k q;unfold PySem.isType loadHead;exact wpAny_bind (wpAny_loadPart (k _ _ (X _ _ ho)) (wpAny_pure q))
 ·cases e1
def XIs (K:PySem.W.Frag)(C:Addr):V->Bool->Prop
 | .ref D,b=>XCl K D/\PySem.W.subIn K (.ref C) (.ref D)=some b/\(D=C->b=true)
 | .ty T,b=>typeOf (.type T)=pure (.type "type")/\PySem.W.subIn K (.ref C) (.type T)=some b
 | _,_=>False
section
variable {prog:Program}{w:World}{A:Around}{E:Value->Shared->Prop}{a C:Addr}{K:PySem.W.Frag}
def aM9 (K:PySem.W.Frag)(a C:Addr)(s:Shared):Prop:=K.In s.heap/\∃o,s.heap.get? a=some o/\o.cls=.ref C
theorem aI2 {y:V}{u:Value}{b:Bool}(XA:XAt K C)(XC:XCl K C)(r:RelV y u)(hy:XIs K C y b):Answers (aM9 K a C) (.ref a) u b:=λdep tk=>by
 intro prog w A R s hs;obtain ⟨⟨X,o,hx,hc⟩,hq⟩:=hs;obtain ⟨h,g,d,t,os⟩:=s;cases y with
 | ref D=>
  cases r
  obtain ⟨x1,x2,x3⟩:=hy;exact aM7 X XA hx hc (PySem.W.looks_typeIn X x1.ty) (x1.isType X) (XC.isType X) (PySem.W.looks_subIn X x2) (λe=>x3 (Value.ref.inj (beq_iff_eq.mp e)).symm) λtk'=>hq tk'
 | ty T=>
  cases r
  obtain ⟨x1,x2⟩:=hy;exact aM7 X XA hx hc (PySem.W.Looks.of_pure x1) (PySem.W.Looks.of_pure rfl) (XC.isType X) (PySem.W.looks_subIn X x2) (λe=>by cases beq_iff_eq.mp e) λtk'=>hq tk'
 | _=>exact False.elim hy
end
section
variable {prog:Program}{w:World}{A:Around}{E:Value->Shared->Prop}{a C:Addr}{K:PySem.W.Frag}
theorem bO4 {cs:List Value}{vs:List Bool}{tp:Addr}{tk:Tok}{s:Shared}{Q:Fin->Shared->Prop}(hs:aM9 K a C s)(htp:IsTup s.heap tp cs.toArray)(hne:tp≠C)(ha:AnswersAll (aM9 K a C) (.ref a) cs vs)
  (hq:∀tk',Q (.done (.ret (.bool (vs.any id)))) {s with toks:=tk'}):wpAny (model prog w) A (Builtin.«isinstance.nested» ⟨[.ref a,.ref tp,.int 0 tk],[]⟩) Q E s:=by
 obtain ⟨X,o,hx,hc⟩:=hs;obtain ⟨h,g,d,t,os⟩:=s;obtain ⟨ot,ht,htc,n,htd⟩:=htp;have hT2:(⟨h,g,d,t,os⟩:Shared).TypeIs (.ref tp) "tuple" := ⟨_,ht,htc⟩;have f1:=F.isi_sub_tuple;have hneb:(Value.ref C==Value.ref tp)=false:=by
  cases q:(Value.ref C==Value.ref tp) with
  | false=>rfl
  | true=>exact absurd (Value.ref.inj (beq_iff_eq.mp q)).symm hne
 repeat (any_goals (first | assumption | (with_reducible refine wpAny_loadPart_at hx ?_;rw[hc]) | wp_step))
 rw[htd];refine wpAny_pure ?_;refine wpAny_bind ?_;simp only[Option.getD_some];rw[<- Array.forIn_toList,List.toList_toArray];refine isinstance_items (dep:=0) (P:=aM9 K a C) (λs tk z=>z) cs vs _ _ ha ⟨X,o,hx,hc⟩ λtk'=>?_
 cases hv:vs.any id with
 | true=>
  simp only[if_true]
  repeat (any_goals (first | assumption | wp_step))
  exact hv▸hq tk'
 | false=>
  simp only[Bool.false_eq_true,if_false]
  repeat (any_goals (first | assumption | wp_step))
  exact hv▸hq tk'
end
def cS5 (K:PySem.W.Frag)(C:Addr):List V->List Bool->Prop
 | [],[]=>True
 | y::ys,b::bs=>XIs K C y b/\cS5 K C ys bs
 | _,_=>False
def dC8 (K:PySem.W.Frag)(xs:List V)(H:Hp)(Q:VK):Prop:=∃a C y,xs=[.ref a,y]/\H a=some (excO a C)/\XAt K C/\XCl K C/\((∃b,XIs K C y b/\Q (.bl b) H)\/∃p ys bs,y=.ref p/\SqT K H p ys/\cS5 K C ys bs/\Q (.bl (bs.any id)) H)
theorem bN8 {K:PySem.W.Frag}{a C:Addr}(XA:XAt K C)(XC:XCl K C):∀{ys:List V} {us:List Value} {bs:List Bool},Vals ys us->cS5 K C ys bs->AnswersAll (aM9 K a C) (.ref a) us bs
 | [],_,[],.nil,_=>trivial
 | y::ys,_,b::bs,.cons r t,⟨h1,h2⟩=>⟨aI2 XA XC r h1,bN8 XA XC t h2⟩
 | [],_,_::_,.nil,z=>z.elim
 | _::_,_,[],.cons _ _,z=>z.elim
section
variable {X:Cx}
theorem aH9 (K:PySem.W.Frag)(hK:X.K=K:=by rfl):W4 X (.builtin "isinstance") (dC8 K):=by
 subst hK;intro pins s σ H xs us Q I r h;obtain ⟨a,C,y,rfl,ha,XA,XC,h⟩:=h;obtain ⟨⟨o,vs,ho,hoc,_⟩,_,_⟩:=I.hok a _ ha;have hold:aM9 X.K a C s:=⟨I.kIn,o,ho,hoc⟩;cases r with
 | cons r1 r2=>
  cases r2 with
  | cons r3 r4=>
   cases r4;cases r1
   rcases h with ⟨b,hy,q⟩ | ⟨p,ys,bs,rfl,hp,hys,q⟩
   ·exact call_isinstance (S:=λ_ R s=>aM9 X.K a C s/\∀tk',R (.ok (.ret (.bool b))) {s with toks:=tk'}) (λ_ _ _ _ _ hs=>isinstance_outer (aI2 XA XC r3 hy _ _ _ _ _ _ _ hs) (by intro q;cases q)) ⟨hold,λtk'=>⟨.bl b,H,I.tok _,rfl,q⟩⟩
   ·cases r3
    obtain ⟨its,rv,tp,_⟩:=I.tuple hp;have hne:p≠C:=λz=>by
     subst z;have e1:=XC.cls;unfold PySem.W.clsIn at e1;split at e1
     ·rename_i c' d' cd' sl' ho';obtain ⟨ot,ht,_,n,htd⟩:=tp;rw[I.kIn _ _ ho']at ht;cases ht;cases htd
     ·cases e1
    exact call_isinstance (S:=λ_ R s=>(aM9 X.K a C s/\IsTup s.heap p its.toArray)/\∀tk',R (.ok (.ret (.bool (bs.any id)))) {s with toks:=tk'}) (λ_ _ _ _ _ hs=>isinstance_outer (bO4 hs.1.1 hs.1.2 hne (bN8 XA XC rv hys) λtk'=>hs.2 tk') (by intro q;cases q)) ⟨⟨hold,tp⟩,λtk'=>⟨.bl _,H,I.tok _,rfl,q⟩⟩
end
end L2
namespace LV
open PySem PySem.Spec PyProof.Rows L2
section
variable {K:PySem.W.Frag}{B:Hp}{ρ ρ':List Sl}{m:Bool}{t ta tb:TE}{d d':PyData}{ds es:List PyData}
def WB (K:PySem.W.Frag)(B:Hp)(t:TS)(ρ:List Sl)(R:AE):Prop:=
 ∀(S:Addr->Prop) (D:aN2) (σ:L2.St) (H:Hp) (o:Nat->List Addr),Env K S B H σ ρ o->Sat K S B R D->t D σ H
theorem W.wb {t:TS}{R:AE}(h:W K t ρ R):WB K B t ρ R:=λS D σ H o I s=>h S B D σ H o I s
theorem cO9 {t u:TS}{R:AE}(h:WB K B t ρ {R with nx:=λρ'=>WB K B u ρ' R}):WB K B (dD5 t u) ρ R:=λS D σ H o I s=>
 h S {D with nx:=u D} σ H o I ⟨λρ' σ' H' o' I' w=>w S D σ' H' o' I' s,s.rt,s.rl,s.bk,s.ct⟩
theorem cY7 {c:TT}{t u:TS}{b:Bool}{R:AE}(h:T K c ρ b)(h1:b=true->WB K B t ρ R)(h2:b=false->WB K B u ρ R):WB K B (cS8 c t u) ρ R:=λS D σ H o I s=>h S B σ H o I _ λH' s'=>by
 cases b with
 | true=>exact h1 rfl S D σ H' o (I.grow s') s
 | false=>exact h2 rfl S D σ H' o (I.grow s') s
def spE (K:PySem.W.Frag)(pre:List PyData->PyData->Prop)(preX:List PyData->Addr->Prop):Sp:=λvs H Q E=>
 ∃ds S,(∀b,S b->∃u:HM,H b=some u.ho)/\Reps K (hid S H) vs ds/\((∃d,pre ds d/\∀v H',Same H H'->Rep K (hid S H') v d->Q v H')\/∃C:Addr,preX ds C/\∀H',Same H H'->E (.ref C) none H')
theorem dO1 {pre:List PyData->PyData->Prop}{preX:List PyData->Addr->Prop}{n:Nat}(h:∀ds d,pre ds d->ds.length=n)(h':∀ds C,preX ds C->ds.length=n):∀vs H Q E,spE K pre preX vs H Q E->vs.length=n:=λvs H Q E ⟨ds,S,_,r,z⟩=>by
 rw[r.length];rcases z with ⟨d,p,_⟩ | ⟨C,p,_⟩
 ·exact h ds d p
 ·exact h' ds C p
theorem dE4 {t:TS}{N:List Str}{vs:List V}{S:Addr->Prop}{H:Hp}{Q:VK}(hS:∀b,S b->∃u:HM,H b=some u.ho)(r:Reps K (hid S H) vs ds)(w:WB K H t (sl0 N.length ds) {nx:=λ_=>d=.none,rt:=λe=>e=d})
  (k:∀v H',Same H H'->Rep K (hid S H') v d->Q v H'):t {nx:=λ_ H'=>Q .non H',rt:=Q} (L2.U1 N vs) H:=
 w S _ _ H _ (env0 hS r) ⟨λρ' σ' H' o' I' z=>k _ H' I'.base (by rw[z];exact .non),λv e H' s r' z=>k v H' s (by rw[<- z];exact r'),λ_ _ _ _ _ _ _ _ z=>z.elim,λ_ _ _ _ _ z=>z.elim,λ_ _ _ _ _ z=>z.elim⟩
theorem cU0 {t:TS}{N:List Str}{vs:List V}{S:Addr->Prop}{H:Hp}{Q:VK}(hS:∀b,S b->∃u:HM,H b=some u.ho)(r:Reps K (hid S H) vs ds)(w:WB K H t (sl0 N.length ds) {nx:=λ_=>False}):t {nx:=λ_ H'=>Q .non H',rt:=Q} (L2.U1 N vs) H:=
 w S _ _ H _ (env0 hS r) ⟨λρ' σ' H' o' I' z=>z.elim,λv e H' s r' z=>z.elim,λ_ _ _ _ _ _ _ _ z=>z.elim,λ_ _ _ _ _ z=>z.elim,λ_ _ _ _ _ z=>z.elim⟩
theorem cS9 {t:TA}{pre:List PyData->PyData->Prop}{preX:List PyData->Addr->Prop}{EX:XK}(ha:A K true t ρ ds)(hp:pre ds d):E K m (aQ7 (spE K pre preX) [] t EX) ρ d:=E.bor λS B σ H o I Q q=>ha S B σ H o I _ λvs H1 s1 r=>
 ⟨ds,C3 ρ o S,(I.grow s1).lists,by rw[List.append_nil];exact r,.inl ⟨d,hp,λv H' s' r'=>q v H' (L2.Same.tr s1 s') r'⟩⟩
theorem Env.unset {S:Addr->Prop}{H:Hp}{σ:L2.St}{o:Nat->List Addr}(I:Env K S B H σ ρ o)(j:Nat):Env K S B H (σ.set j none) (ρ.set j .no) o:=by
 have at_:∀{i:Nat} {x:Sl},x≠.no->(ρ.set j .no)[i]? = some x->j≠i/\ρ[i]? = some x:=λ{i x} hx h=>by
  rw[List.getElem?_set]at h;by_cases c:j=i
  ·rw[if_pos c]at h;split at h
   ·exact absurd (Ab4 h).symm hx
   ·cases h
  ·rw[if_neg c]at h;exact⟨c,h⟩
 have no:∀{x:Sl},x.os=true->x≠.no:=λh e=>by rw[e]at h;cases h
 have sub:∀b,C3 (ρ.set j .no) o S b->C3 ρ o S b:=λb z=>aK2 (x:=.no) rfl z
 have g:Same (hid (C3 ρ o S) H) (hid (C3 (ρ.set j .no) o S) H):=C6 (L2.Same.rf _) λb z _=>sub b z
 have sg:∀{i:Nat},j≠i->(σ.set j none)[i]? = σ[i]? := λc=>Ac9 c
 refine⟨by simpa using I.len,I.base,I.sl,λi x h hx b hb=>I.new i x (at_ (no hx) h).2 hx b hb,λi k x y h1 h2 h3 h4 b h5 h6=>I.inj i k x y (at_ (no h3) h1).2 (at_ (no h4) h2).2 h3 h4 b h5 h6,λi ds h=>?_,λi d h=>?_,λi d h=>?_,λi t h=>?_⟩
 ·obtain ⟨c,h⟩:=at_ (λe=>by cases e) h
  obtain ⟨p,o',a,xs,b,r⟩:=I.own i ds h;exact⟨p,o',by rw[sg c];exact a,xs,b,r.mono g⟩
 ·obtain ⟨c,h⟩:=at_ (λe=>by cases e) h
  obtain ⟨u,a,b⟩:=I.val i d h;exact⟨u,by rw[sg c];exact a,b.mono g⟩
 ·obtain ⟨c,h⟩:=at_ (λe=>by cases e) h
  obtain ⟨u,a,b⟩:=I.bor i d h;exact⟨u,by rw[sg c];exact a,b⟩
 ·obtain ⟨c,h⟩:=at_ (λe=>by cases e) h
  obtain ⟨n,u,a,b⟩:=I.tr i t h;exact⟨n,u,by rw[sg c];exact a,b.mono g (L2.Same.rf _)⟩
theorem cX0 {S:Addr->Prop}{H:Hp}{σ:L2.St}{o:Nat->List Addr}{x C:Addr}(I:Env K S B H σ ρ o)(hx:H x=some (L2.excO x C)):Rep K (hid (C3 ρ o S) H) (.ref x) (xD C):=.exc (hid_some.mpr ⟨(λz=>by
 obtain ⟨xs,e⟩:=I.lists x z;rw[hx]at e;exact HM.nx (Ab4 e).symm),hx⟩)
theorem cW1 {tA:TA}{pre:List PyData->PyData->Prop}{preX:List PyData->Addr->Prop}{TE C:Addr}{j:Nat}{th:TS}{R:AE}(ha:A K true tA ρ ds)(hp:preX ds C)(hC:PySem.W.excIn K C bmV "ValueError.__new__" = true)(hs:L2.subIn K C (.ref TE)=true)
  (hh:W K th (ρ.set j (.val (xD C))) {nx:=λρ'=>R.nx (ρ'.set j .no)}) {S:Addr->Prop} {B:Hp} {D:aN2} {σ:L2.St} {H:Hp} {o:Nat->List Addr} (I:Env K S B H σ ρ o) (sa:Sat K S B R D) {Q:VK} :
  aQ7 (spE K pre preX) [] tA (λcls _ H1=>∃C,cls=.ref C/\PySem.W.excIn K C bmV "ValueError.__new__" = true/\L2.subIn K C (.ref TE)=true/\∀x,H1 x=none->th {nx:=λσ' H'=>D.nx (σ'.set j none) H',rt:=λ_ _=>False} (σ.set j (some (.ref x))) (upd H1 x (L2.excO x C))) σ H Q:=
 ha S B σ H o I _ λvs H1 s1 r=>⟨ds,C3 ρ o S,(I.grow s1).lists,by rw[List.append_nil];exact r,.inr ⟨C,hp,λH2 s2=>⟨C,rfl,hC,hs,λx hx=>by
  have I2:=(I.grow (L2.Same.tr s1 s2)).grow (D3 (o:=L2.excO x C) hx)
  have I3:=I2.set (m:=true) j (d:=xD C) (cX0 I2 B7)
  exact hh S B _ _ _ o I3 ⟨λρ' σ' H' o' I' w=>sa.nx _ _ H' o' (I'.unset j) w,λ_ _ _ _ _ z=>z.elim,λ_ _ _ _ _ _ _ _ z=>z.elim,λ_ _ _ _ _ z=>z.elim,λ_ _ _ _ _ z=>z.elim⟩⟩⟩⟩
theorem bQ6 {tA:TA}{pre:List PyData->PyData->Prop}{preX:List PyData->Addr->Prop}{TE C:Addr}{j:Nat}{th:TS}{R:AE}(ha:A K true tA ρ ds)(hp:preX ds C)(hC:PySem.W.excIn K C bmV "ValueError.__new__" = true)(hs:L2.subIn K C (.ref TE)=true)
  (hh:W K th (ρ.set j (.val (xD C))) {nx:=λρ'=>R.nx (ρ'.set j .no)}):W K (dK4 K TE (λEX=>aN0 (aQ7 (spE K pre preX) [] tA EX)) j th) ρ R:=λS B D σ H o I s=>cW1 (R:=R) ha hp hC hs hh I s
theorem cY9 {y:V}{C:Addr}{b:Bool}(ha:E K false ta ρ (xD C))(XA:XAt K C)(XC:XCl K C)(hy:XIs K C y b):E K m (tCB (dC8 K) (E9 ta (E9 (tC y) W1))) ρ (.bool b):=E.bor (E.imm (m:=false) λS B σ H o I Q q=>ha S B σ H o I _ λv H1 s1 r=>by
 unfold xD at r;cases r with
 | dic _ _ z=>exact absurd z (by rename_i kvs;cases kvs <;> simp[cH5])
 | @exc a _ e=>exact⟨a,C,y,rfl,e,XA,XC,.inl ⟨b,hy,q _ H1 s1 (.bl _)⟩⟩)
theorem cP0 {tc:TA}{ys:List V}{bs:List Bool}{C:Addr}(ha:E K false ta ρ (xD C))(XA:XAt K C)(XC:XCl K C)(hc:∀(σ:L2.St) (H:Hp) (Q:List V->Hp->Prop),Q ys H->tc σ H Q)(hy:cS5 K C ys bs)(hl:ys.length<=sizeLine:=by decide):E K m (tCB (dC8 K) (E9 ta (E9 (bH7 tc) W1))) ρ (.bool (bs.any id)):=E.bor (E.imm (m:=false) λS B σ H o I Q q=>ha S B σ H o I _ λv H1 s1 r=>by
 unfold xD at r;cases r with
 | dic _ _ z=>exact absurd z (by rename_i kvs;cases kvs <;> simp[cH5])
 | @exc a _ e=>
  refine hc _ _ _ ⟨hl,λp hp=>?_⟩
  have g:=D3 (o:=.tup ys) hp
  exact⟨a,C,_,rfl,g _ _ e,XA,XC,.inr ⟨p,ys,bs,rfl,SqT.of B7,hy,q _ _ (L2.Same.tr s1 g) (.bl _)⟩⟩)
end
end LV
set_option maxHeartbeats 4000000
namespace K01
open PySem L2 LV PyProof.Rows
theorem aE1 {K:PySem.W.Frag}{pre:List PyData->PyData->Prop}{n:Nat}(h:∀ds d,pre ds d->ds.length=n):∀vs H Q E,spV K pre vs H Q E->vs.length=n:=λvs H Q E ⟨ds,S,d,_,r,p,_⟩=>by
 have e:=r.length
 rw[e];exact h ds d p
@[elab_as_elim] theorem us1 {M:List Value->Prop} {us:List Value} (hl:us.length=1) (h:∀a0,M [a0]):M us:=by match us,hl with | [a0],_=>exact h _
@[elab_as_elim] theorem us2 {M:List Value->Prop} {us:List Value} (hl:us.length=2) (h:∀a0 a1,M [a0,a1]):M us:=by match us,hl with | [a0,a1],_=>exact h _ _
@[elab_as_elim] theorem us3 {M:List Value->Prop} {us:List Value} (hl:us.length=3) (h:∀a0 a1 a2,M [a0,a1,a2]):M us:=by match us,hl with | [a0,a1,a2],_=>exact h _ _ _
def top (i:Nat):Stmt:=PySem.Challenge.pw_threetrees_k01_lands_and_ties.main.body.getD i (.Pass ⟨0,0,0,0⟩)
abbrev Q3:Stmt:=top 17
abbrev V0:Stmt:=top 18
abbrev P3:Stmt:=top 19
abbrev Q0:Stmt:=top 20
abbrev aK5:Stmt:=top 21
abbrev X4:Stmt:=top 22
abbrev aC9:Stmt:=top 23
abbrev O1:Stmt:=top 24
abbrev Q6:Stmt:=top 25
abbrev N0:Stmt:=top 27
abbrev P8:Stmt:=top 28
abbrev Q5:Stmt:=top 29
abbrev P6:Stmt:=top 30
abbrev P5:Stmt:=top 31
abbrev Q4:Stmt:=top 32
abbrev P4:Stmt:=top 33
abbrev M5:Stmt:=top 34
abbrev P9:Stmt:=top 35
abbrev Q2:Stmt:=top 36
abbrev Q1:Stmt:=top 37
abbrev N2:Stmt:=top 38
abbrev K2:Stmt:=top 39
abbrev aW5:Stmt:=top 40
set_option genInjectivity false in
structure Ad where
 t9:Addr
 t4:FuncData
 aE8:Addr
 aF0:FuncData
 aA2:Addr
 u8:FuncData
 w4:Addr
 v5:FuncData
 bO5:Addr
 bP1:FuncData
 aL3:Addr
 aL0:FuncData
 bG5:Addr
 bG1:FuncData
 i5:Addr
 i4:FuncData
 v9:Addr
 q8:FuncData
 Y6:Addr
 X5:FuncData
 u6:Addr
 y9:FuncData
 aA8:Addr
 t6:FuncData
 v8:Addr
 aA7:FuncData
 t8:Addr
 t5:FuncData
 u3:Addr
 z6:FuncData
 t7:Addr
 w5:FuncData
 Y5:Addr
 X6:FuncData
 u7:Addr
 aA5:FuncData
 u5:Addr
 o9:FuncData
 r6:Addr
 y0:FuncData
 Y8:Addr
 Y1:FuncData
 V3:Addr
 U7:FuncData
 bM8:Addr
 aY1:FuncData
 E6:Addr
 J9:Addr
 R4:Addr
 Q9:Addr
 d9:Addr
 M3:Addr
 N1:Addr
 K3:Addr
 B1:Addr
 M6:Addr
 K0:Addr
 M7:Addr
 C9:Addr
set_option genInjectivity false in
structure Tx (K:PySem.W.Frag)(mg:Str->Option Value)(a:Ad):Prop where
 aG5:Fun K "ways_round" "ways_round" Q3 a.t9 a.t4
 bD1:mg "ways_round" = some (.ref a.t9)
 bB3:Binds K a.t4 ["ring"] []
 w6:Fun K "ahead_in" "ahead_in" V0 a.aE8 a.aF0
 aF1:mg "ahead_in" = some (.ref a.aE8)
 aF3:Binds K a.aF0 ["turn", "place"] []
 aK0:Fun K "round_from" "round_from" P3 a.aA2 a.u8
 bC4:mg "round_from" = some (.ref a.aA2)
 aZ5:Binds K a.u8 ["turns", "p", "q"] []
 aJ9:Fun K "all_rounds" "all_rounds" Q0 a.w4 a.v5
 bE8:mg "all_rounds" = some (.ref a.w4)
 bE2:Binds K a.v5 ["turns"] []
 bC9:Fun K "tied" "tied" aK5 a.bO5 a.bP1
 bT4:mg "tied" = some (.ref a.bO5)
 bQ8:Binds K a.bP1 ["drawing", "p", "q"] []
 aM5:Fun K "left_of" "left_of" X4 a.aL3 a.aL0
 aV9:mg "left_of" = some (.ref a.aL3)
 aY9:Binds K a.aL0 ["drawing", "p", "q"] []
 bD0:Fun K "lands" "lands" aC9 a.bG5 a.bG1
 bZ1:mg "lands" = some (.ref a.bG5)
 bZ5:Binds K a.bG1 ["drawing"] []
 aE4:Fun K "inner_lands" "inner_lands" O1 a.i5 a.i4
 aU9:mg "inner_lands" = some (.ref a.i5)
 aV2:Binds K a.i4 ["drawing"] []
 aJ8:Fun K "inner_ties" "inner_ties" Q6 a.v9 a.q8
 aZ6:mg "inner_ties" = some (.ref a.v9)
 bA7:Binds K a.q8 ["drawing"] []
 O8:Fun K "_law_cell_at" "_law_cell_at" N0 a.Y6 a.X5
 T7:mg "_law_cell_at" = some (.ref a.Y6)
 U2:Binds K a.X5 ["_law_script", "_law_k"] []
 W9:Fun K "_law_mixed" "_law_mixed" P8 a.u6 a.y9
 w9:mg "_law_mixed" = some (.ref a.u6)
 v7:Binds K a.y9 ["_law_cell", "_law_k"] []
 aH2:Fun K "_law_names" "_law_names" Q5 a.aA8 a.t6
 bF3:mg "_law_names" = some (.ref a.aA8)
 bA5:Binds K a.t6 ["_law_cell", "_law_m"] []
 aH4:Fun K "_law_grown" "_law_grown" P6 a.v8 a.aA7
 aZ8:mg "_law_grown" = some (.ref a.v8)
 bF2:Binds K a.aA7 ["_law_first", "_law_second"] []
 p9:Fun K "_law_begun" "_law_begun" P5 a.t8 a.t5
 aK1:mg "_law_begun" = some (.ref a.t8)
 aJ4:Binds K a.t5 ["_law_turn"] []
 v4:Fun K "_law_built" "_law_built" Q4 a.u3 a.z6
 aH0:mg "_law_built" = some (.ref a.u3)
 aJ0:Binds K a.z6 ["_law_cell", "_law_cells", "_law_m"] []
 v3:Fun K "_law_whole" "_law_whole" P4 a.t7 a.w5
 aH1:mg "_law_whole" = some (.ref a.t7)
 aI5:Binds K a.w5 ["_law_found"] []
 aB2:Fun K "_law_rows_of" "_law_rows_of" M5 a.Y5 a.X6
 aP4:mg "_law_rows_of" = some (.ref a.Y5)
 aS5:Binds K a.X6 ["_law_found", "_law_many"] []
 q9:Fun K "_law_ahead" "_law_ahead" P9 a.u7 a.aA5
 aG2:mg "_law_ahead" = some (.ref a.u7)
 aG1:Binds K a.aA5 ["_law_turn", "_law_place"] []
 aI9:Fun K "_law_lands" "_law_lands" Q2 a.u5 a.o9
 bB7:mg "_law_lands" = some (.ref a.u5)
 bG4:Binds K a.o9 ["_law_drawing"] []
 aI3:Fun K "_law_kinds" "_law_kinds" Q1 a.r6 a.y0
 bG3:mg "_law_kinds" = some (.ref a.r6)
 bC7:Binds K a.y0 ["_law_e"] []
 aB8:Fun K "_law_refused" "_law_refused" N2 a.Y8 a.Y1
 aP3:mg "_law_refused" = some (.ref a.Y8)
 aS9:Binds K a.Y1 ["_law_drawing", "_law_p", "_law_q"] []
 j7:Fun K "_law_tie_right" "_law_tie_right" K2 a.V3 a.U7
 aL7:mg "_law_tie_right" = some (.ref a.V3)
 aL8:Binds K a.U7 ["_law_drawing", "_law_p", "_law_q"] []
 dN0:Fun K "law" "law" aW5 a.bM8 a.aY1
 dH9:mg "law" = some (.ref a.bM8)
 dP3:Binds K a.aY1 ["_law_script"] []
 T4:mg "ValueError" = none
 bK6:mg "all" = none
 aM0:mg "bool" = none
 W3:mg "enumerate" = none
 bN0:mg "int" = none
 D2:mg "isinstance" = none
 Q8:mg "len" = none
 u4:mg "list" = none
 bL6:mg "min" = none
 E5:mg "range" = none
 V1:mg "reversed" = none
 bN5:mg "set" = none
 W0:mg "sorted" = none
 T5:mg "tuple" = none
 bI8:mg "zip" = none
 m5:∃t,mg "CORNERS" = some (.int 3 t)
 T3:∃ad,mg "OUTER_LAND" = some (.ref ad)/\∀H,SqT K H ad [.int 0,.int 2,.int 1]
 bD2:mg "TreesError" = some (.ref a.E6)
 cV8:XCl K a.E6
 bM5:mg "NoDrawing" = some (.ref a.J9)
 bH3:XCl K a.J9
 cN7:mg "NoRows" = some (.ref a.R4)
 cK5:XCl K a.R4
 cI7:mg "NoText" = some (.ref a.Q9)
 cQ3:XCl K a.Q9
 dC5:mg "Tied" = some (.ref a.d9)
 dH0:XCl K a.d9
 bP0:mg "NoArrows" = some (.ref a.M3)
 bP2:XCl K a.M3
 cN6:mg "NoLand" = some (.ref a.N1)
 cK2:XCl K a.N1
 cD5:mg "NoPlace" = some (.ref a.K3)
 cC2:XCl K a.K3
 bB6:mg "NoTie" = some (.ref a.B1)
 aH6:XCl K a.B1
 cI9:mg "NoRing" = some (.ref a.M6)
 cN8:XCl K a.M6
 cF2:mg "TooMany" = some (.ref a.K0)
 cC3:XCl K a.K0
 cM5:mg "NoLine" = some (.ref a.M7)
 cO8:XCl K a.M7
 aV5:mg "NothingDone" = some (.ref a.C9)
 aV1:XCl K a.C9
 U0:PySem.W.excIn K a.E6 bmV "ValueError.__new__" = true
 aG6:PySem.W.excIn K a.N1 bmV "ValueError.__new__" = true
 aD4:PySem.W.excIn K a.K3 bmV "ValueError.__new__" = true
 aA6:PySem.W.excIn K a.B1 bmV "ValueError.__new__" = true
 aI8:PySem.W.excIn K a.M6 bmV "ValueError.__new__" = true
 aD7:PySem.W.excIn K a.K0 bmV "ValueError.__new__" = true
 aH7:PySem.W.excIn K a.M7 bmV "ValueError.__new__" = true
 V6:PySem.W.excIn K a.C9 bmV "ValueError.__new__" = true
 aO5:XAt K a.B1
 K5:PySem.W.subIn K (.ref a.B1) (.ref a.E6)=some true
 L9:PySem.W.subIn K (.ref a.B1) (.ref a.J9)=some false
 P0:PySem.W.subIn K (.ref a.B1) (.ref a.R4)=some false
 O7:PySem.W.subIn K (.ref a.B1) (.ref a.Q9)=some false
 T0:PySem.W.subIn K (.ref a.B1) (.ref a.d9)=some false
 M8:PySem.W.subIn K (.ref a.B1) (.ref a.M3)=some false
 O9:PySem.W.subIn K (.ref a.B1) (.ref a.N1)=some false
 N9:PySem.W.subIn K (.ref a.B1) (.ref a.K3)=some false
 R7:PySem.W.subIn K (.ref a.B1) (.ref a.B1)=some true
 P1:PySem.W.subIn K (.ref a.B1) (.ref a.M6)=some false
 N8:PySem.W.subIn K (.ref a.B1) (.ref a.K0)=some false
 P2:PySem.W.subIn K (.ref a.B1) (.ref a.M7)=some false
 G9:PySem.W.subIn K (.ref a.B1) (.ref a.C9)=some false
 K9:PySem.W.subIn K (.ref a.B1) (.type "ValueError")=some true
theorem tx_mk {K:PySem.W.Frag}{h:Heap}{mg:Str->Option Value}{f0 f1 f2 f3 f4 f5 f6 f7 f8 f9 f10 f11 f12 f13 f14 f15 f16 f17 f18 f19 f20 f21 f22 E6 J9 R4 Q9 d9 M3 N1 K3 B1 M6 K0 M7 C9:Addr}(X:K.In h)(G:h.Ns mainGlobals mg)
  {od0 an0:Option Addr} {sl0:Array (Option Value)} {oc0 kV0 dc0 pm0 cd0 ct0:Value}
  (a0:PySem.W.nsIn K mainGlobals "ways_round" = some (some (.ref f0)))
  (l0:K.lookup f0=some ⟨oc0,od0,.func (PySem.W.fnOf "ways_round" "ways_round" (D8 Q3) (C8 Q3) (A6 Q3) .none kV0 dc0 pm0 an0 cd0 ct0),sl0⟩)
  (c0:PySem.W.codeIn K cd0 "ways_round" = true) (k0:PySem.W.keepIn K (.ref f0)=true)
  {od1 an1:Option Addr} {sl1:Array (Option Value)} {oc1 kV1 dc1 pm1 cd1 ct1:Value}
  (a1:PySem.W.nsIn K mainGlobals "ahead_in" = some (some (.ref f1)))
  (l1:K.lookup f1=some ⟨oc1,od1,.func (PySem.W.fnOf "ahead_in" "ahead_in" (D8 V0) (C8 V0) (A6 V0) .none kV1 dc1 pm1 an1 cd1 ct1),sl1⟩)
  (c1:PySem.W.codeIn K cd1 "ahead_in" = true) (k1:PySem.W.keepIn K (.ref f1)=true)
  {od2 an2:Option Addr} {sl2:Array (Option Value)} {oc2 kV2 dc2 pm2 cd2 ct2:Value}
  (a2:PySem.W.nsIn K mainGlobals "round_from" = some (some (.ref f2)))
  (l2:K.lookup f2=some ⟨oc2,od2,.func (PySem.W.fnOf "round_from" "round_from" (D8 P3) (C8 P3) (A6 P3) .none kV2 dc2 pm2 an2 cd2 ct2),sl2⟩)
  (c2:PySem.W.codeIn K cd2 "round_from" = true) (k2:PySem.W.keepIn K (.ref f2)=true)
  {od3 an3:Option Addr} {sl3:Array (Option Value)} {oc3 kV3 dc3 pm3 cd3 ct3:Value}
  (a3:PySem.W.nsIn K mainGlobals "all_rounds" = some (some (.ref f3)))
  (l3:K.lookup f3=some ⟨oc3,od3,.func (PySem.W.fnOf "all_rounds" "all_rounds" (D8 Q0) (C8 Q0) (A6 Q0) .none kV3 dc3 pm3 an3 cd3 ct3),sl3⟩)
  (c3:PySem.W.codeIn K cd3 "all_rounds" = true) (k3:PySem.W.keepIn K (.ref f3)=true)
  {od4 an4:Option Addr} {sl4:Array (Option Value)} {oc4 kV4 dc4 pm4 cd4 ct4:Value}
  (a4:PySem.W.nsIn K mainGlobals "tied" = some (some (.ref f4)))
  (l4:K.lookup f4=some ⟨oc4,od4,.func (PySem.W.fnOf "tied" "tied" (D8 aK5) (C8 aK5) (A6 aK5) .none kV4 dc4 pm4 an4 cd4 ct4),sl4⟩)
  (c4:PySem.W.codeIn K cd4 "tied" = true) (k4:PySem.W.keepIn K (.ref f4)=true)
  {od5 an5:Option Addr} {sl5:Array (Option Value)} {oc5 kV5 dc5 pm5 cd5 ct5:Value}
  (a5:PySem.W.nsIn K mainGlobals "left_of" = some (some (.ref f5)))
  (l5:K.lookup f5=some ⟨oc5,od5,.func (PySem.W.fnOf "left_of" "left_of" (D8 X4) (C8 X4) (A6 X4) .none kV5 dc5 pm5 an5 cd5 ct5),sl5⟩)
  (c5:PySem.W.codeIn K cd5 "left_of" = true) (k5:PySem.W.keepIn K (.ref f5)=true)
  {od6 an6:Option Addr} {sl6:Array (Option Value)} {oc6 kV6 dc6 pm6 cd6 ct6:Value}
  (a6:PySem.W.nsIn K mainGlobals "lands" = some (some (.ref f6)))
  (l6:K.lookup f6=some ⟨oc6,od6,.func (PySem.W.fnOf "lands" "lands" (D8 aC9) (C8 aC9) (A6 aC9) .none kV6 dc6 pm6 an6 cd6 ct6),sl6⟩)
  (c6:PySem.W.codeIn K cd6 "lands" = true) (k6:PySem.W.keepIn K (.ref f6)=true)
  {od7 an7:Option Addr} {sl7:Array (Option Value)} {oc7 kV7 dc7 pm7 cd7 ct7:Value}
  (a7:PySem.W.nsIn K mainGlobals "inner_lands" = some (some (.ref f7)))
  (l7:K.lookup f7=some ⟨oc7,od7,.func (PySem.W.fnOf "inner_lands" "inner_lands" (D8 O1) (C8 O1) (A6 O1) .none kV7 dc7 pm7 an7 cd7 ct7),sl7⟩)
  (c7:PySem.W.codeIn K cd7 "inner_lands" = true) (k7:PySem.W.keepIn K (.ref f7)=true)
  {od8 an8:Option Addr} {sl8:Array (Option Value)} {oc8 kV8 dc8 pm8 cd8 ct8:Value}
  (a8:PySem.W.nsIn K mainGlobals "inner_ties" = some (some (.ref f8)))
  (l8:K.lookup f8=some ⟨oc8,od8,.func (PySem.W.fnOf "inner_ties" "inner_ties" (D8 Q6) (C8 Q6) (A6 Q6) .none kV8 dc8 pm8 an8 cd8 ct8),sl8⟩)
  (c8:PySem.W.codeIn K cd8 "inner_ties" = true) (k8:PySem.W.keepIn K (.ref f8)=true)
  {od9 an9:Option Addr} {sl9:Array (Option Value)} {oc9 kV9 dc9 pm9 cd9 ct9:Value}
  (a9:PySem.W.nsIn K mainGlobals "_law_cell_at" = some (some (.ref f9)))
  (l9:K.lookup f9=some ⟨oc9,od9,.func (PySem.W.fnOf "_law_cell_at" "_law_cell_at" (D8 N0) (C8 N0) (A6 N0) .none kV9 dc9 pm9 an9 cd9 ct9),sl9⟩)
  (c9:PySem.W.codeIn K cd9 "_law_cell_at" = true) (k9:PySem.W.keepIn K (.ref f9)=true)
  {od10 an10:Option Addr} {sl10:Array (Option Value)} {oc10 kV10 dc10 pm10 cd10 ct10:Value}
  (a10:PySem.W.nsIn K mainGlobals "_law_mixed" = some (some (.ref f10)))
  (l10:K.lookup f10=some ⟨oc10,od10,.func (PySem.W.fnOf "_law_mixed" "_law_mixed" (D8 P8) (C8 P8) (A6 P8) .none kV10 dc10 pm10 an10 cd10 ct10),sl10⟩)
  (c10:PySem.W.codeIn K cd10 "_law_mixed" = true) (k10:PySem.W.keepIn K (.ref f10)=true)
  {od11 an11:Option Addr} {sl11:Array (Option Value)} {oc11 kV11 dc11 pm11 cd11 ct11:Value}
  (a11:PySem.W.nsIn K mainGlobals "_law_names" = some (some (.ref f11)))
  (l11:K.lookup f11=some ⟨oc11,od11,.func (PySem.W.fnOf "_law_names" "_law_names" (D8 Q5) (C8 Q5) (A6 Q5) .none kV11 dc11 pm11 an11 cd11 ct11),sl11⟩)
  (c11:PySem.W.codeIn K cd11 "_law_names" = true) (k11:PySem.W.keepIn K (.ref f11)=true)
  {od12 an12:Option Addr} {sl12:Array (Option Value)} {oc12 kV12 dc12 pm12 cd12 ct12:Value}
  (a12:PySem.W.nsIn K mainGlobals "_law_grown" = some (some (.ref f12)))
  (l12:K.lookup f12=some ⟨oc12,od12,.func (PySem.W.fnOf "_law_grown" "_law_grown" (D8 P6) (C8 P6) (A6 P6) .none kV12 dc12 pm12 an12 cd12 ct12),sl12⟩)
  (c12:PySem.W.codeIn K cd12 "_law_grown" = true) (k12:PySem.W.keepIn K (.ref f12)=true)
  {od13 an13:Option Addr} {sl13:Array (Option Value)} {oc13 kV13 dc13 pm13 cd13 ct13:Value}
  (a13:PySem.W.nsIn K mainGlobals "_law_begun" = some (some (.ref f13)))
  (l13:K.lookup f13=some ⟨oc13,od13,.func (PySem.W.fnOf "_law_begun" "_law_begun" (D8 P5) (C8 P5) (A6 P5) .none kV13 dc13 pm13 an13 cd13 ct13),sl13⟩)
  (c13:PySem.W.codeIn K cd13 "_law_begun" = true) (k13:PySem.W.keepIn K (.ref f13)=true)
  {od14 an14:Option Addr} {sl14:Array (Option Value)} {oc14 kV14 dc14 pm14 cd14 ct14:Value}
  (a14:PySem.W.nsIn K mainGlobals "_law_built" = some (some (.ref f14)))
  (l14:K.lookup f14=some ⟨oc14,od14,.func (PySem.W.fnOf "_law_built" "_law_built" (D8 Q4) (C8 Q4) (A6 Q4) .none kV14 dc14 pm14 an14 cd14 ct14),sl14⟩)
  (c14:PySem.W.codeIn K cd14 "_law_built" = true) (k14:PySem.W.keepIn K (.ref f14)=true)
  {od15 an15:Option Addr} {sl15:Array (Option Value)} {oc15 kV15 dc15 pm15 cd15 ct15:Value}
  (a15:PySem.W.nsIn K mainGlobals "_law_whole" = some (some (.ref f15)))
  (l15:K.lookup f15=some ⟨oc15,od15,.func (PySem.W.fnOf "_law_whole" "_law_whole" (D8 P4) (C8 P4) (A6 P4) .none kV15 dc15 pm15 an15 cd15 ct15),sl15⟩)
  (c15:PySem.W.codeIn K cd15 "_law_whole" = true) (k15:PySem.W.keepIn K (.ref f15)=true)
  {od16 an16:Option Addr} {sl16:Array (Option Value)} {oc16 kV16 dc16 pm16 cd16 ct16:Value}
  (a16:PySem.W.nsIn K mainGlobals "_law_rows_of" = some (some (.ref f16)))
  (l16:K.lookup f16=some ⟨oc16,od16,.func (PySem.W.fnOf "_law_rows_of" "_law_rows_of" (D8 M5) (C8 M5) (A6 M5) .none kV16 dc16 pm16 an16 cd16 ct16),sl16⟩)
  (c16:PySem.W.codeIn K cd16 "_law_rows_of" = true) (k16:PySem.W.keepIn K (.ref f16)=true)
  {od17 an17:Option Addr} {sl17:Array (Option Value)} {oc17 kV17 dc17 pm17 cd17 ct17:Value}
  (a17:PySem.W.nsIn K mainGlobals "_law_ahead" = some (some (.ref f17)))
  (l17:K.lookup f17=some ⟨oc17,od17,.func (PySem.W.fnOf "_law_ahead" "_law_ahead" (D8 P9) (C8 P9) (A6 P9) .none kV17 dc17 pm17 an17 cd17 ct17),sl17⟩)
  (c17:PySem.W.codeIn K cd17 "_law_ahead" = true) (k17:PySem.W.keepIn K (.ref f17)=true)
  {od18 an18:Option Addr} {sl18:Array (Option Value)} {oc18 kV18 dc18 pm18 cd18 ct18:Value}
  (a18:PySem.W.nsIn K mainGlobals "_law_lands" = some (some (.ref f18)))
  (l18:K.lookup f18=some ⟨oc18,od18,.func (PySem.W.fnOf "_law_lands" "_law_lands" (D8 Q2) (C8 Q2) (A6 Q2) .none kV18 dc18 pm18 an18 cd18 ct18),sl18⟩)
  (c18:PySem.W.codeIn K cd18 "_law_lands" = true) (k18:PySem.W.keepIn K (.ref f18)=true)
  {od19 an19:Option Addr} {sl19:Array (Option Value)} {oc19 kV19 dc19 pm19 cd19 ct19:Value}
  (a19:PySem.W.nsIn K mainGlobals "_law_kinds" = some (some (.ref f19)))
  (l19:K.lookup f19=some ⟨oc19,od19,.func (PySem.W.fnOf "_law_kinds" "_law_kinds" (D8 Q1) (C8 Q1) (A6 Q1) .none kV19 dc19 pm19 an19 cd19 ct19),sl19⟩)
  (c19:PySem.W.codeIn K cd19 "_law_kinds" = true) (k19:PySem.W.keepIn K (.ref f19)=true)
  {od20 an20:Option Addr} {sl20:Array (Option Value)} {oc20 kV20 dc20 pm20 cd20 ct20:Value}
  (a20:PySem.W.nsIn K mainGlobals "_law_refused" = some (some (.ref f20)))
  (l20:K.lookup f20=some ⟨oc20,od20,.func (PySem.W.fnOf "_law_refused" "_law_refused" (D8 N2) (C8 N2) (A6 N2) .none kV20 dc20 pm20 an20 cd20 ct20),sl20⟩)
  (c20:PySem.W.codeIn K cd20 "_law_refused" = true) (k20:PySem.W.keepIn K (.ref f20)=true)
  {od21 an21:Option Addr} {sl21:Array (Option Value)} {oc21 kV21 dc21 pm21 cd21 ct21:Value}
  (a21:PySem.W.nsIn K mainGlobals "_law_tie_right" = some (some (.ref f21)))
  (l21:K.lookup f21=some ⟨oc21,od21,.func (PySem.W.fnOf "_law_tie_right" "_law_tie_right" (D8 K2) (C8 K2) (A6 K2) .none kV21 dc21 pm21 an21 cd21 ct21),sl21⟩)
  (c21:PySem.W.codeIn K cd21 "_law_tie_right" = true) (k21:PySem.W.keepIn K (.ref f21)=true)
  {od22 an22:Option Addr} {sl22:Array (Option Value)} {oc22 kV22 dc22 pm22 cd22 ct22:Value}
  (a22:PySem.W.nsIn K mainGlobals "law" = some (some (.ref f22)))
  (l22:K.lookup f22=some ⟨oc22,od22,.func (PySem.W.fnOf "law" "law" (D8 aW5) (C8 aW5) (A6 aW5) .none kV22 dc22 pm22 an22 cd22 ct22),sl22⟩)
  (c22:PySem.W.codeIn K cd22 "law" = true) (k22:PySem.W.keepIn K (.ref f22)=true)
  (T4:PySem.W.nsIn K mainGlobals "ValueError" = some none)
  (bK6:PySem.W.nsIn K mainGlobals "all" = some none)
  (aM0:PySem.W.nsIn K mainGlobals "bool" = some none)
  (W3:PySem.W.nsIn K mainGlobals "enumerate" = some none)
  (bN0:PySem.W.nsIn K mainGlobals "int" = some none)
  (D2:PySem.W.nsIn K mainGlobals "isinstance" = some none)
  (Q8:PySem.W.nsIn K mainGlobals "len" = some none)
  (u4:PySem.W.nsIn K mainGlobals "list" = some none)
  (bL6:PySem.W.nsIn K mainGlobals "min" = some none)
  (E5:PySem.W.nsIn K mainGlobals "range" = some none)
  (V1:PySem.W.nsIn K mainGlobals "reversed" = some none)
  (bN5:PySem.W.nsIn K mainGlobals "set" = some none)
  (W0:PySem.W.nsIn K mainGlobals "sorted" = some none)
  (T5:PySem.W.nsIn K mainGlobals "tuple" = some none)
  (bI8:PySem.W.nsIn K mainGlobals "zip" = some none)
  {t_CORNERS:Tok} (m5:PySem.W.nsIn K mainGlobals "CORNERS" = some (some (.int 3 t_CORNERS)))
  {c_OUTER_LAND:Addr} (T3:PySem.W.nsIn K mainGlobals "OUTER_LAND" = some (some (.ref c_OUTER_LAND))) {t0_OUTER_LAND t1_OUTER_LAND t2_OUTER_LAND:Tok} {q_OUTER_LAND:Nat} {sl_OUTER_LAND:Array (Option Value)} (h_OUTER_LAND:K.lookup c_OUTER_LAND=some ⟨.type "tuple",none,.seq #[.int 0 t0_OUTER_LAND,.int 2 t1_OUTER_LAND,.int 1 t2_OUTER_LAND] q_OUTER_LAND,sl_OUTER_LAND⟩)
  (n_TreesError:PySem.W.nsIn K mainGlobals "TreesError" = some (some (.ref E6))) {cd_TreesError:ClassData} (y_TreesError:PySem.W.clsIn K E6=some cd_TreesError) (t_TreesError:PySem.W.typeIn K (.ref E6)=some (.type "type"))
  (n_NoDrawing:PySem.W.nsIn K mainGlobals "NoDrawing" = some (some (.ref J9))) {cd_NoDrawing:ClassData} (y_NoDrawing:PySem.W.clsIn K J9=some cd_NoDrawing) (t_NoDrawing:PySem.W.typeIn K (.ref J9)=some (.type "type"))
  (n_NoRows:PySem.W.nsIn K mainGlobals "NoRows" = some (some (.ref R4))) {cd_NoRows:ClassData} (y_NoRows:PySem.W.clsIn K R4=some cd_NoRows) (t_NoRows:PySem.W.typeIn K (.ref R4)=some (.type "type"))
  (n_NoText:PySem.W.nsIn K mainGlobals "NoText" = some (some (.ref Q9))) {cd_NoText:ClassData} (y_NoText:PySem.W.clsIn K Q9=some cd_NoText) (t_NoText:PySem.W.typeIn K (.ref Q9)=some (.type "type"))
  (n_Tied:PySem.W.nsIn K mainGlobals "Tied" = some (some (.ref d9))) {cd_Tied:ClassData} (y_Tied:PySem.W.clsIn K d9=some cd_Tied) (t_Tied:PySem.W.typeIn K (.ref d9)=some (.type "type"))
  (n_NoArrows:PySem.W.nsIn K mainGlobals "NoArrows" = some (some (.ref M3))) {cd_NoArrows:ClassData} (y_NoArrows:PySem.W.clsIn K M3=some cd_NoArrows) (t_NoArrows:PySem.W.typeIn K (.ref M3)=some (.type "type"))
  (n_NoLand:PySem.W.nsIn K mainGlobals "NoLand" = some (some (.ref N1))) {cd_NoLand:ClassData} (y_NoLand:PySem.W.clsIn K N1=some cd_NoLand) (t_NoLand:PySem.W.typeIn K (.ref N1)=some (.type "type"))
  (n_NoPlace:PySem.W.nsIn K mainGlobals "NoPlace" = some (some (.ref K3))) {cd_NoPlace:ClassData} (y_NoPlace:PySem.W.clsIn K K3=some cd_NoPlace) (t_NoPlace:PySem.W.typeIn K (.ref K3)=some (.type "type"))
  (n_NoTie:PySem.W.nsIn K mainGlobals "NoTie" = some (some (.ref B1))) {cd_NoTie:ClassData} (y_NoTie:PySem.W.clsIn K B1=some cd_NoTie) (t_NoTie:PySem.W.typeIn K (.ref B1)=some (.type "type"))
  (n_NoRing:PySem.W.nsIn K mainGlobals "NoRing" = some (some (.ref M6))) {cd_NoRing:ClassData} (y_NoRing:PySem.W.clsIn K M6=some cd_NoRing) (t_NoRing:PySem.W.typeIn K (.ref M6)=some (.type "type"))
  (n_TooMany:PySem.W.nsIn K mainGlobals "TooMany" = some (some (.ref K0))) {cd_TooMany:ClassData} (y_TooMany:PySem.W.clsIn K K0=some cd_TooMany) (t_TooMany:PySem.W.typeIn K (.ref K0)=some (.type "type"))
  (n_NoLine:PySem.W.nsIn K mainGlobals "NoLine" = some (some (.ref M7))) {cd_NoLine:ClassData} (y_NoLine:PySem.W.clsIn K M7=some cd_NoLine) (t_NoLine:PySem.W.typeIn K (.ref M7)=some (.type "type"))
  (n_NothingDone:PySem.W.nsIn K mainGlobals "NothingDone" = some (some (.ref C9))) {cd_NothingDone:ClassData} (y_NothingDone:PySem.W.clsIn K C9=some cd_NothingDone) (t_NothingDone:PySem.W.typeIn K (.ref C9)=some (.type "type"))
  (U0:PySem.W.excIn K E6 bmV "ValueError.__new__" = true)
  (aG6:PySem.W.excIn K N1 bmV "ValueError.__new__" = true)
  (aD4:PySem.W.excIn K K3 bmV "ValueError.__new__" = true)
  (aA6:PySem.W.excIn K B1 bmV "ValueError.__new__" = true)
  (aI8:PySem.W.excIn K M6 bmV "ValueError.__new__" = true)
  (aD7:PySem.W.excIn K K0 bmV "ValueError.__new__" = true)
  (aH7:PySem.W.excIn K M7 bmV "ValueError.__new__" = true)
  (V6:PySem.W.excIn K C9 bmV "ValueError.__new__" = true)
  (xo_NoTie:PySem.W.subIn K (.ref B1) (.type "object")=some true) (xb_NoTie:PySem.W.subIn K (.ref B1) (.type "BaseException")=some true) (xg_NoTie:PySem.W.findIn K (.ref B1) "__getattribute__" = some (some (.builtin "BaseException.__getattribute__"))) (xt_NoTie:PySem.W.findIn K (.ref B1) "__getattr__" = some none) (xc_NoTie:PySem.W.findIn K (.ref B1) "__class__" = some (some (.builtin "object.__class__")))
  (K5:PySem.W.subIn K (.ref B1) (.ref E6)=some true)
  (L9:PySem.W.subIn K (.ref B1) (.ref J9)=some false)
  (P0:PySem.W.subIn K (.ref B1) (.ref R4)=some false)
  (O7:PySem.W.subIn K (.ref B1) (.ref Q9)=some false)
  (T0:PySem.W.subIn K (.ref B1) (.ref d9)=some false)
  (M8:PySem.W.subIn K (.ref B1) (.ref M3)=some false)
  (O9:PySem.W.subIn K (.ref B1) (.ref N1)=some false)
  (N9:PySem.W.subIn K (.ref B1) (.ref K3)=some false)
  (R7:PySem.W.subIn K (.ref B1) (.ref B1)=some true)
  (P1:PySem.W.subIn K (.ref B1) (.ref M6)=some false)
  (N8:PySem.W.subIn K (.ref B1) (.ref K0)=some false)
  (P2:PySem.W.subIn K (.ref B1) (.ref M7)=some false)
  (G9:PySem.W.subIn K (.ref B1) (.ref C9)=some false)
  (K9:PySem.W.subIn K (.ref B1) (.type "ValueError")=some true)
  : ∃a:Ad,Tx K mg a/\a.bM8=f22/\∀(s:Shared) (v:Value),BindsTo s a.aY1 ⟨[v],[]⟩ [("_law_script",v)]:=by
 have F0:=K7 (st:=Q3) l0 c0 k0
 have F1:=K7 (st:=V0) l1 c1 k1
 have F2:=K7 (st:=P3) l2 c2 k2
 have F3:=K7 (st:=Q0) l3 c3 k3
 have F4:=K7 (st:=aK5) l4 c4 k4
 have F5:=K7 (st:=X4) l5 c5 k5
 have F6:=K7 (st:=aC9) l6 c6 k6
 have F7:=K7 (st:=O1) l7 c7 k7
 have F8:=K7 (st:=Q6) l8 c8 k8
 have F9:=K7 (st:=N0) l9 c9 k9
 have F10:=K7 (st:=P8) l10 c10 k10
 have F11:=K7 (st:=Q5) l11 c11 k11
 have F12:=K7 (st:=P6) l12 c12 k12
 have F13:=K7 (st:=P5) l13 c13 k13
 have F14:=K7 (st:=Q4) l14 c14 k14
 have F15:=K7 (st:=P4) l15 c15 k15
 have F16:=K7 (st:=M5) l16 c16 k16
 have F17:=K7 (st:=P9) l17 c17 k17
 have F18:=K7 (st:=Q2) l18 c18 k18
 have F19:=K7 (st:=Q1) l19 c19 k19
 have F20:=K7 (st:=N2) l20 c20 k20
 have F21:=K7 (st:=K2) l21 c21 k21
 have F22:=K7 (st:=aW5) l22 c22 k22
 refine⟨⟨f0,_,f1,_,f2,_,f3,_,f4,_,f5,_,f6,_,f7,_,f8,_,f9,_,f10,_,f11,_,f12,_,f13,_,f14,_,f15,_,f16,_,f17,_,f18,_,f19,_,f20,_,f21,_,f22,_,E6,J9,R4,Q9,d9,M3,N1,K3,B1,M6,K0,M7,C9⟩,⟨F0,PySem.W.mg_of X G a0,F0.binds λ_ _ _ _ _ _ us hl=>us1 hl λ_=>rfl,F1,PySem.W.mg_of X G a1,F1.binds λ_ _ _ _ _ _ us hl=>us2 hl λ_ _=>rfl,F2,PySem.W.mg_of X G a2,F2.binds λ_ _ _ _ _ _ us hl=>us3 hl λ_ _ _=>rfl,F3,PySem.W.mg_of X G a3,F3.binds λ_ _ _ _ _ _ us hl=>us1 hl λ_=>rfl,F4,PySem.W.mg_of X G a4,F4.binds λ_ _ _ _ _ _ us hl=>us3 hl λ_ _ _=>rfl,F5,PySem.W.mg_of X G a5,F5.binds λ_ _ _ _ _ _ us hl=>us3 hl λ_ _ _=>rfl,F6,PySem.W.mg_of X G a6,F6.binds λ_ _ _ _ _ _ us hl=>us1 hl λ_=>rfl,F7,PySem.W.mg_of X G a7,F7.binds λ_ _ _ _ _ _ us hl=>us1 hl λ_=>rfl,F8,PySem.W.mg_of X G a8,F8.binds λ_ _ _ _ _ _ us hl=>us1 hl λ_=>rfl,F9,PySem.W.mg_of X G a9,F9.binds λ_ _ _ _ _ _ us hl=>us2 hl λ_ _=>rfl,F10,PySem.W.mg_of X G a10,F10.binds λ_ _ _ _ _ _ us hl=>us2 hl λ_ _=>rfl,F11,PySem.W.mg_of X G a11,F11.binds λ_ _ _ _ _ _ us hl=>us2 hl λ_ _=>rfl,F12,PySem.W.mg_of X G a12,F12.binds λ_ _ _ _ _ _ us hl=>us2 hl λ_ _=>rfl,F13,PySem.W.mg_of X G a13,F13.binds λ_ _ _ _ _ _ us hl=>us1 hl λ_=>rfl,F14,PySem.W.mg_of X G a14,F14.binds λ_ _ _ _ _ _ us hl=>us3 hl λ_ _ _=>rfl,F15,PySem.W.mg_of X G a15,F15.binds λ_ _ _ _ _ _ us hl=>us1 hl λ_=>rfl,F16,PySem.W.mg_of X G a16,F16.binds λ_ _ _ _ _ _ us hl=>us2 hl λ_ _=>rfl,F17,PySem.W.mg_of X G a17,F17.binds λ_ _ _ _ _ _ us hl=>us2 hl λ_ _=>rfl,F18,PySem.W.mg_of X G a18,F18.binds λ_ _ _ _ _ _ us hl=>us1 hl λ_=>rfl,F19,PySem.W.mg_of X G a19,F19.binds λ_ _ _ _ _ _ us hl=>us1 hl λ_=>rfl,F20,PySem.W.mg_of X G a20,F20.binds λ_ _ _ _ _ _ us hl=>us3 hl λ_ _ _=>rfl,F21,PySem.W.mg_of X G a21,F21.binds λ_ _ _ _ _ _ us hl=>us3 hl λ_ _ _=>rfl,F22,PySem.W.mg_of X G a22,F22.binds λ_ _ _ _ _ _ us hl=>us1 hl λ_=>rfl,PySem.W.mg_none_of X G T4,PySem.W.mg_none_of X G bK6,PySem.W.mg_none_of X G aM0,PySem.W.mg_none_of X G W3,PySem.W.mg_none_of X G bN0,PySem.W.mg_none_of X G D2,PySem.W.mg_none_of X G Q8,PySem.W.mg_none_of X G u4,PySem.W.mg_none_of X G bL6,PySem.W.mg_none_of X G E5,PySem.W.mg_none_of X G V1,PySem.W.mg_none_of X G bN5,PySem.W.mg_none_of X G W0,PySem.W.mg_none_of X G T5,PySem.W.mg_none_of X G bI8,⟨t_CORNERS,PySem.W.mg_of X G m5⟩,⟨c_OUTER_LAND,PySem.W.mg_of X G T3,λH=>.inr ⟨_,_,_,h_OUTER_LAND,rfl,rfl,rfl,(show 3<=sizeLine by decide),.cons ⟨_,rfl⟩ (.cons ⟨_,rfl⟩ (.cons ⟨_,rfl⟩ (.nil)))⟩⟩,PySem.W.mg_of X G n_TreesError,⟨by rw[y_TreesError];rfl,t_TreesError⟩,PySem.W.mg_of X G n_NoDrawing,⟨by rw[y_NoDrawing];rfl,t_NoDrawing⟩,PySem.W.mg_of X G n_NoRows,⟨by rw[y_NoRows];rfl,t_NoRows⟩,PySem.W.mg_of X G n_NoText,⟨by rw[y_NoText];rfl,t_NoText⟩,PySem.W.mg_of X G n_Tied,⟨by rw[y_Tied];rfl,t_Tied⟩,PySem.W.mg_of X G n_NoArrows,⟨by rw[y_NoArrows];rfl,t_NoArrows⟩,PySem.W.mg_of X G n_NoLand,⟨by rw[y_NoLand];rfl,t_NoLand⟩,PySem.W.mg_of X G n_NoPlace,⟨by rw[y_NoPlace];rfl,t_NoPlace⟩,PySem.W.mg_of X G n_NoTie,⟨by rw[y_NoTie];rfl,t_NoTie⟩,PySem.W.mg_of X G n_NoRing,⟨by rw[y_NoRing];rfl,t_NoRing⟩,PySem.W.mg_of X G n_TooMany,⟨by rw[y_TooMany];rfl,t_TooMany⟩,PySem.W.mg_of X G n_NoLine,⟨by rw[y_NoLine];rfl,t_NoLine⟩,PySem.W.mg_of X G n_NothingDone,⟨by rw[y_NothingDone];rfl,t_NothingDone⟩,U0,aG6,aD4,aA6,aI8,aD7,aH7,V6,⟨xo_NoTie,xb_NoTie,xg_NoTie,xt_NoTie,xc_NoTie⟩,K5,L9,P0,O7,T0,M8,O9,N9,R7,P1,N8,P2,G9,K9⟩,rfl,λs v=>.of_eq rfl⟩
theorem sc__law_grown:D6 ["_law_first", "_law_second", "_law_outs", "_law_ins", "_law_path", "_law_heap", "_law_i", "_law_ahead_here", "_law_k", "_law_place", "_law_turns", "_law_v", "_law_came", "_law_row"] ["_law_first", "_law_second"] (A6 P6):=⟨rfl,rfl,rfl,by decide +kernel,rfl,by decide +kernel,by decide +kernel⟩
def rh (m:Nat)(F G:Nat->Nat)(o i:OT)(p h:List Nat)(x6 x7 x8 x9:Sl):List Sl:=
 [.val (lI (fl F m)),.val (lI (fl G m)),.tr o,.tr i,.own (nI p.reverse),.own (nI h.reverse),x6,x7,x8,x9,.no,.no,.no,.no]
theorem d5 {m:Nat}{F G:Nat->Nat}{o i:OT}{p h:List Nat}{x6 x7 x8 x9:Sl}(h6:x6.nb=true)(h7:x7.nb=true)(h8:x8.nb=true)(h9:x9.nb=true):S6 (rh m F G o i p h x6 x7 x8 x9)=true:=by
 unfold rh;simp only[Z1,h6,h7,h8,h9,Bool.true_and];rfl
def rh2 (m:Nat)(F G:Nat->Nat)(o i:PyData)(p h:List PyData)(x6 x7 x8 x9 x10 x11 x12 x13:Sl):List Sl:=
 [.val (lI (fl F m)),.val (lI (fl G m)),.val o,.val i,.own p,.own h,x6,x7,x8,x9,x10,x11,x12,x13]
theorem bQ9 {m:Nat}{F G:Nat->Nat}{o i:PyData}{p h:List PyData}{x6 x7 x8 x9 x10 x11 x12 x13:Sl}(h6:x6.nb=true)(h7:x7.nb=true)(h8:x8.nb=true)(h9:x9.nb=true)(h10:x10.nb=true)(h11:x11.nb=true)(h12:x12.nb=true)(h13:x13.nb=true):S6 (rh2 m F G o i p h x6 x7 x8 x9 x10 x11 x12 x13)=true:=by
 unfold rh2;simp only[Z1,h6,h7,h8,h9,h10,h11,h12,h13,Bool.true_and];rfl
def cH9 (ds:List PyData)(d:PyData):Prop:=∃F G m,TT.Rws F G m/\m<=1000/\ds=[lI (fl F m),lI (fl G m)] /\
 d=.tuple [.list ((List.range (m+3)).map λv=>lN ((TT.gst F G m).row v)),.list ((List.range m).map λv=>lN [(TT.gst F G m).o0 (v+3),(TT.gst F G m).o1 (v+3),(TT.gst F G m).o2 (v+3)])]
section
variable {P:Program}{w:World}{K:PySem.W.Frag}{mg:Str->Option Value}{base:Heap}{a:Ad}
theorem cI0 (T:Tx K mg a):E3 P w K mg base CX0 1 a.v8 a.aA7 ["_law_first", "_law_second"] (spV K cH9):=by
 refine T.aH4.ok sc__law_grown (aE1 λds d ⟨_,_,_,_,_,e,_⟩=>by rw[e];rfl) (λcdv A outer s H vs Q E hr h=>?_)
 obtain ⟨ds,S,d,hS,r,⟨F,G,m,R,hm,rfl,rfl⟩,k⟩:=h;refine⟨_,(A4 (B5 (i:=2) sc__law_grown.nd rfl (Or.inl rfl) (C5 A3))
   (A4 (B5 (i:=3) sc__law_grown.nd rfl (Or.inl rfl) (C5 (A0 (J0 (A0 (C5 A3) (A0 (C5 A3) (A0 (C5 A3) A3)))) (A0 (J0 (A0 (C5 A3) (A0 (C5 A3) (A0 (C5 A3) A3)))) (A0 (J0 (A0 (C5 A3) (A0 (C5 A3) (A0 (C5 A3) A3)))) A3)))))
   (A4 (B5 (i:=4) sc__law_grown.nd rfl (Or.inl rfl) (C5 (A0 A5 A3)))
   (A4 (B5 (i:=5) sc__law_grown.nd rfl (Or.inl rfl) (C5 (A0 A5 A3)))
   (A4 (L6 PassesOwn.never rfl (G0 rfl T.E5 (A0 (B6 L8 (by rfl) T.Q8 PySem.boot_len (A0 (pv 0) A3)) A3)) (B9 (i:=6) sc__law_grown.nd rfl (Or.inl rfl)) (A4 (B5 (i:=7) sc__law_grown.nd rfl (Or.inl rfl) (C5 (A0 A5 (A0 A5 A3))))
   (A4 (Y2 (G7 aW9 (pv 6) A5 (M4 _)) (A9 (B5 (i:=7) sc__law_grown.nd rfl (Or.inl rfl) (C5 (A0 (B8 C2 (pv 0) (B4 X8 (pv 6) A5) (λ_ _=>rfl)) (A0 (B8 C2 (pv 1) (B4 X8 (pv 6) A5) (λ_ _=>rfl)) A3))))) N4)
   (A4 (L6 PassesOwn.never rfl (G0 rfl T.E5 (A0 (B4 X8 (B8 C2 (pv 0) (pv 6) (λ_ _=>rfl)) (B8 C2 (pv 7) A5 (λ_ _=>rfl))) A3)) (B9 (i:=8) sc__law_grown.nd rfl (Or.inl rfl)) (A9 (G3 (N6 Ab1 PySem.F.slot_list_append PySem.F.type_list_append D5 (pv 5) (A0 (bA3 Ab1 PySem.F.slot_list_pop PySem.F.type_list_pop bG2 (pv 4)) A3)))))
   (A4 (G3 (N6 Ab1 PySem.F.slot_list_append PySem.F.type_list_append D5 (pv 3) (A0 (J0 (A0 (C5 A3) (A0 (C5 A3) (A0 (C5 A3) A3)))) A3)))
   (A4 (L6 PassesOwn.never rfl (G0 rfl T.E5 (A0 (B4 X8 (B8 C2 (pv 1) (pv 6) (λ_ _=>rfl)) (B8 C2 (pv 7) A5 (λ_ _=>rfl))) A3)) (B9 (i:=8) sc__law_grown.nd rfl (Or.inl rfl)) (A4 (B5 (i:=9) sc__law_grown.nd rfl (Or.inl rfl) (bA3 Ab1 PySem.F.slot_list_pop PySem.F.type_list_pop bG2 (pv 5)))
   (A4 (bA6 (B4 J8 A5 (pv 6)) (bS8 (B8 C2 (pv 2) (B4 X8 (pv 9) A5) (λ_ _=>rfl)) A5 aR2))
   (A9 (G3 (N6 Ab1 PySem.F.slot_list_append PySem.F.type_list_append D5 (B8 C2 (B8 C2 (pv 3) (B4 J8 A5 (pv 6)) (λ_ _=>rfl)) A5 (λ_ _=>rfl)) (A0 (pv 9) A3)))))))
   (A4 (G3 (N6 Ab1 PySem.F.slot_list_append PySem.F.type_list_append D5 (pv 2) (A0 (C5 (A0 (B8 C2 (pv 4) (aI0 p8 A5) (λ_ _=>rfl)) (A0 (B8 C2 (pv 5) (aI0 p8 A5) (λ_ _=>rfl)) (A0 A5 A3)))) A3)))
   (A4 (G3 (N6 Ab1 PySem.F.slot_list_append PySem.F.type_list_append D5 (B8 C2 (B8 C2 (pv 3) (B8 C2 (pv 4) (aI0 p8 A5) (λ_ _=>rfl)) (λ_ _=>rfl)) A5 (λ_ _=>rfl)) (A0 (B4 J8 A5 (pv 6)) A3)))
   (A4 (G3 (N6 Ab1 PySem.F.slot_list_append PySem.F.type_list_append D5 (B8 C2 (B8 C2 (pv 3) (B8 C2 (pv 5) (aI0 p8 A5) (λ_ _=>rfl)) (λ_ _=>rfl)) A5 (λ_ _=>rfl)) (A0 (B4 J8 A5 (pv 6)) A3)))
   (A9 (G3 (N6 Ab1 PySem.F.slot_list_append PySem.F.type_list_append D5 (pv 4) (A0 (B4 J8 A5 (pv 6)) A3)))))))))))))
   (A4 (aR6 PassesOwn.never (G7 aW9 (B6 L8 (by rfl) T.Q8 PySem.boot_len (A0 (pv 4) A3)) A5 (M4 _)) (A9 (G3 (N6 Ab1 PySem.F.slot_list_append PySem.F.type_list_append D5 (pv 5) (A0 (bA3 Ab1 PySem.F.slot_list_pop PySem.F.type_list_pop bG2 (pv 4)) A3)))))
   (A4 (aR6 PassesOwn.never (G7 aW9 (B6 L8 (by rfl) T.Q8 PySem.boot_len (A0 (pv 5) A3)) A5 (M4 _)) (A9 (G3 (N6 Ab1 PySem.F.slot_list_append PySem.F.type_list_append D5 (B8 C2 (B8 C2 (pv 3) A5 (λ_ _=>rfl)) A5 (λ_ _=>rfl)) (A0 (bA3 Ab1 PySem.F.slot_list_pop PySem.F.type_list_pop bG2 (pv 5)) A3)))))
   (A4 (B5 (i:=10) sc__law_grown.nd rfl (Or.inl rfl) (C5 (A0 (B4 (P7 K) (B4 (P7 K) (C5 (A0 A5 A3)) (B8 C2 (B8 C2 (pv 3) A5 (λ_ _=>rfl)) A5 (λ_ _=>rfl))) (C5 (A0 A5 A3))) A3)))
   (A4 (G3 (N6 Ab1 PySem.F.slot_list_append PySem.F.type_list_append D5 (pv 10) (A0 (B4 (P7 K) (B4 (P7 K) (C5 (A0 A5 A3)) (aR4 K rfl (by rfl) T.u4 (by rfl) T.V1 (B8 C2 (B8 C2 (pv 3) A5 (λ_ _=>rfl)) A5 (λ_ _=>rfl)))) (C5 (A0 A5 A3))) A3)))
   (A4 (G3 (N6 Ab1 PySem.F.slot_list_append PySem.F.type_list_append D5 (pv 10) (A0 (B4 (P7 K) (B4 (P7 K) (C5 (A0 A5 A3)) (B8 C2 (B8 C2 (pv 3) A5 (λ_ _=>rfl)) A5 (λ_ _=>rfl))) (C5 (A0 A5 A3))) A3)))
   (A4 (L6 PassesOwn.never rfl (G0 rfl T.E5 (A0 (B6 L8 (by rfl) T.Q8 PySem.boot_len (A0 (pv 2) A3)) A3)) (B9 (i:=11) sc__law_grown.nd rfl (Or.inl rfl)) (A4 (B5 (i:=12) sc__law_grown.nd rfl (Or.inl rfl) (B8 C2 (pv 3) (B4 J8 A5 (pv 11)) (λ_ _=>rfl)))
   (A4 (B5 (i:=13) sc__law_grown.nd rfl (Or.inl rfl) (B4 (P7 K) (B4 (P7 K) (B4 (P7 K) (C5 (A0 (B8 C2 (B8 C2 (pv 2) (pv 11) (λ_ _=>rfl)) A5 (λ_ _=>rfl)) A3)) (B8 C2 (pv 12) A5 (λ_ _=>rfl))) (C5 (A0 (B8 C2 (B8 C2 (pv 2) (pv 11) (λ_ _=>rfl)) A5 (λ_ _=>rfl)) A3))) (B8 C2 (pv 12) A5 (λ_ _=>rfl))))
   (A9 (G3 (N6 Ab1 PySem.F.slot_list_append PySem.F.type_list_append D5 (pv 10) (A0 (B4 (P7 K) (B4 (P7 K) (pv 13) (C5 (A0 (B8 C2 (B8 C2 (pv 2) (pv 11) (λ_ _=>rfl)) A5 (λ_ _=>rfl)) A3))) (aR4 K rfl (by rfl) T.u4 (by rfl) T.V1 (B8 C2 (pv 12) A5 (λ_ _=>rfl)))) A3)))))))
   (A9 (E2 (J0 (A0 (pv 10) (A0 (pv 2) A3)))))))))))))))),S3 hS r ?_ k⟩
 refine B0 (bA4 (N5 G5) ?_);refine B0 (bA4 (N5 (E1 (aG7 (E1 (N5 G5) (E1 (N5 G5) (E1 (N5 G5) G5)))) (E1 (aG7 (E1 (N5 G5) (E1 (N5 G5) (E1 (N5 G5) G5)))) (E1 (aG7 (E1 (N5 G5) (E1 (N5 G5) (E1 (N5 G5) G5)))) G5)))) ?_);refine B0 (M2 (G8 (A2 A8 A7)) ?_);refine B0 (M2 (G8 (A2 A8 A7)) ?_);show W K _ (rh m F G (M9 0 (TT.gst F G 0).o0 (TT.gst F G 0).o1 (TT.gst F G 0).o2) (E8 (0+3) (TT.gst F G 0).i0 (TT.gst F G 0).i1 (TT.gst F G 0).i2) (TT.gst F G 0).path (TT.gst F G 0).heap .no .no .no .no) _;have lenF:((fl F m).map PyData.int).length=m:=by simp[fl]
 refine B0 (R6 (S4 (A2 (W6 (A2 (A1 rfl) A7)) A7) ?_ ?_) (λi ρ=>∃x6 x7 x8 x9,(x6.nb=true/\x7.nb=true/\x8.nb=true/\x9.nb=true) /\
  ρ=rh m F G (M9 i (TT.gst F G i).o0 (TT.gst F G i).o1 (TT.gst F G i).o2) (E8 (i+3) (TT.gst F G i).i0 (TT.gst F G i).i1 (TT.gst F G i).i2) (TT.gst F G i).path (TT.gst F G i).heap x6 x7 x8 x9) ⟨_,_,_,_,⟨rfl,rfl,rfl,rfl⟩,rfl⟩ ?_ ?_)
 ·rw[lenF];omega
 ·rw[lenF];omega
 ·rintro i d _ hd ⟨x6,x7,x8,x9,⟨b6,b7,b8,b9⟩,rfl⟩;obtain ⟨rfl,hi⟩:=S2 hd;have hi:i<m:=by
   have:=hi
   simp[fl]at this
   omega
  obtain ⟨sk,sa,sb,spl,shl,slo,spx,shy,se0,se1⟩:=TT.dF0 R hi;have hst:TT.gst F G (i+1)=(TT.gst F G i).step (F i-TT.pv F i) (G i-TT.pv G i):=rfl;have f1:=R.f1 i hi;have g1:=R.g1 i hi;have hFi:=R.f2 i hi;have hGi:=R.g2 i hi;generalize hs:TT.gst F G i=s at sk sa sb spl shl slo spx shy se0 se1 hst ⊢;refine⟨_,D1,?_⟩;refine B0 (M2 (G8 (A2 A8 (A2 A8 A7))) ?_ (show 7<14 by decide))
  refine B0 (cY1 (rh m F G (M9 i s.o0 s.o1 s.o2) (E8 (i+3) s.i0 s.i1 s.i2) s.path s.heap (.val (.int (i:Int))) (.own [.int (TT.pv F i:Nat),.int (TT.pv G i:Nat)]) x8 x9) (G4 (bF5 (A1 rfl) A8))
   (λh=>(M2 (ds:=[.int (F (i-1):Nat),.int (G (i-1):Nat)]) (G8 (A2 (E7 (A1 rfl) (O6 (A1 rfl) A8) rfl ?_) (A2 (E7 (A1 rfl) (O6 (A1 rfl) A8) rfl ?_) A7))) ?_ (show 7<14 by decide))) (λh=>R8 ?_) ?_)
  ·have h:(i:Int)>0:=of_decide_eq_true h
   have e:(i:Int)-1=((i-1:Nat):Int):=by omega
   rw[e];exact bU6 (by omega)
  ·have h:(i:Int)>0:=of_decide_eq_true h
   have e:(i:Int)-1=((i-1:Nat):Int):=by omega
   rw[e];exact bU6 (by omega)
  ·have h:(i:Int)>0:=of_decide_eq_true h
   obtain ⟨j,rfl⟩:∃j,i=j+1:=⟨i-1,by omega⟩
   rfl
  ·have h:¬(i:Int)>0:=of_decide_eq_false h
   have:i=0:=by omega
   subst this;rfl
  generalize hA:F i-TT.pv F i=na at sa sb shl slo spx shy hst;generalize hB:G i-TT.pv G i=nb at sb slo shy hst;refine B0 (R6 (S4 (A2 (O6 (E7 (A1 rfl) (A1 rfl) rfl (bU6 hi)) (E7 (N7 rfl) A8 rfl rfl)) A7) ?_ ?_) (λj ρ=>∃x8,x8.nb=true /\
   ρ=rh m F G (M9 i s.o0 s.o1 s.o2) (E8 (i+3) s.i0 s.i1 s.i2) (s.path.drop j) (s.h1 j) (.val (.int (i:Int))) (.own [.int (TT.pv F i:Nat),.int (TT.pv G i:Nat)]) x8 x9) ⟨x8,b8,rfl⟩ ?_ ?_)
  ·omega
  ·omega
  ·rintro j d _ hd ⟨y8,c8,rfl⟩;obtain ⟨rfl,hj⟩:=S2 hd;have hj:j<na:=by omega
   refine⟨_,D1,?_⟩;obtain ⟨x,hx⟩:∃x,s.path[j]? = some x:=⟨_,Aa2 (by omega)⟩
   have e1:s.path.drop j=x::s.path.drop (j+1):=by
    obtain ⟨h1,h2⟩:=Ab0.mp hx;rw[<- h2];exact List.drop_eq_getElem_cons h1
   have e2:s.h1 (j+1)=x::s.h1 j:=by
    unfold TT.S.h1;obtain ⟨h1,h2⟩:=Ab0.mp hx;rw[List.take_succ_eq_append_getElem h1,h2];simp
   show W K _ (rh m F G (M9 i s.o0 s.o1 s.o2) (E8 (i+3) s.i0 s.i1 s.i2) (s.path.drop j) (s.h1 j) (.val (.int (i:Int))) (.own [.int (TT.pv F i:Nat),.int (TT.pv G i:Nat)]) (.val (.int (j:Int))) x9) _
   refine aM1 (ds:=nI (s.h1 j).reverse) (bT0 (d:=.int (x:Int)) (ds:=nI (s.path.drop (j+1)).reverse) ?_ (d5 rfl rfl rfl b9)) rfl rfl ?_ ⟨.val (.int (j:Int)),rfl,?_⟩ ?_
   ·show some (Sl.own (nI (s.path.drop j).reverse))=_
    rw[e1];simp[nI]
   ·rw[M0,Ad9];unfold TT.S.h1 at shl ⊢;unfold PySem.sizeLine;simp only[Ab7,Ad9,Ad0]at shl ⊢;omega
   ·rw[e2];unfold rh
    simp[nI]
   ·exact d5 (p:=s.path.drop (j+1)) (h:=s.h1 j) rfl rfl rfl b9
  rintro _ ⟨y8,c8,rfl⟩;rw[O2];have ea:((F i:Int)-(TT.pv F i:Int)).toNat=na:=by omega
  rw[ea];refine B0 (j8 (u0:=E8 (i+3) s.i0 s.i1 s.i2) aE9 rfl rfl (aG7 (E1 (N5 G5) (E1 (N5 G5) (E1 (N5 G5) G5)))) ?_ ?_ (d5 rfl rfl c8 b9))
  ·rw[Aa3,List.length_range];unfold PySem.sizeLine;omega
  have ei:(E8 (i+3) s.i0 s.i1 s.i2).put [] (.lst (((List.range (i+3)).map λq=>OT.tup [oN (s.i0 q),oN (s.i1 q),oN (s.i2 q)])++[.tup [.lst [],.lst [],.lst []]]))=E8 (i+4) s.i0 s.i1 (TT.put s.i2 (i+3) []):=by
   rw[OT.put_nil,cV0]
   congr 1
   ·funext q;by_cases e:q=i+3
    ·rw[e,TT.C7,se0]
    ·rw[TT.C0 e]
   ·funext q;by_cases e:q=i+3
    ·rw[e,TT.C7,se1]
    ·rw[TT.C0 e]
  show W K _ ((rh m F G (M9 i s.o0 s.o1 s.o2) (E8 (i+3) s.i0 s.i1 s.i2) (s.path.drop na) (s.h1 na) (.val (.int (i:Int))) (.own [.int (TT.pv F i:Nat),.int (TT.pv G i:Nat)]) y8 x9).set 3 (.tr ((E8 (i+3) s.i0 s.i1 s.i2).put [] (.lst (((List.range (i+3)).map λq=>OT.tup [oN (s.i0 q),oN (s.i1 q),oN (s.i2 q)])++[.tup [.lst [],.lst [],.lst []]]))))) _
  rw[ei];show W K _ (rh m F G (M9 i s.o0 s.o1 s.o2) (E8 (i+4) s.i0 s.i1 (TT.put s.i2 (i+3) [])) (s.path.drop na) (s.h1 na) (.val (.int (i:Int))) (.own [.int (TT.pv F i:Nat),.int (TT.pv G i:Nat)]) y8 x9) _;generalize hh:s.h1 na=h at sb shl slo shy ⊢;refine B0 (R6 (S4 (A2 (O6 (E7 (A1 rfl) (A1 rfl) rfl (bU6 hi)) (E7 (N7 rfl) A8 rfl rfl)) A7) ?_ ?_) (λj ρ=>∃x8 x9,x8.nb=true/\x9.nb=true /\
   ρ=rh m F G (M9 i s.o0 s.o1 (λq=>if q∈h.take j then i+3 else s.o2 q)) (E8 (i+4) s.i0 s.i1 (TT.put s.i2 (i+3) (h.take j))) (s.path.drop na) (h.drop j) (.val (.int (i:Int))) (.own [.int (TT.pv F i:Nat),.int (TT.pv G i:Nat)]) x8 x9) ⟨y8,x9,c8,b9,by simp⟩ ?_ ?_)
  ·omega
  ·omega
  ·rintro j d _ hd ⟨z8,z9,c8,c9,rfl⟩;obtain ⟨rfl,hj⟩:=S2 hd;have hj:j<nb:=by omega
   refine⟨_,D1,?_⟩;obtain ⟨x,hx⟩:∃x,h[j]? = some x:=⟨_,Aa2 (by omega)⟩
   obtain ⟨hx1,hx2⟩:=Ab0.mp hx;have e1:h.drop j=x::h.drop (j+1):=by rw[<- hx2];exact List.drop_eq_getElem_cons hx1
   have e2:h.take (j+1)=h.take j++[x]:=by rw[<- hx2];exact List.take_succ_eq_append_getElem hx1
   obtain ⟨x3,xi⟩:=slo x (by
    refine List.mem_of_getElem? (i:=j) ?_;rw[List.getElem?_take,if_pos hj];exact hx)
   refine B0 (dI2 (ds:=nI (h.drop (j+1)).reverse) (d:=.int (x:Int)) ?_ ?_ (d5 (x8:=.val (.int (j:Int))) rfl rfl rfl c9))
   ·show some (Sl.own (nI (h.drop j).reverse))=_
    rw[e1];simp[nI]
   have e3:(3:Int)+(i:Int)=((i+3:Nat):Int):=by omega
   have hx3:x-3+3=x:=by omega
   show W K _ (rh m F G (M9 i s.o0 s.o1 (λq=>if q∈h.take j then i+3 else s.o2 q)) (E8 (i+4) s.i0 s.i1 (TT.put s.i2 (i+3) (h.take j))) (s.path.drop na) (h.drop (j+1)) (.val (.int (i:Int))) (.own [.int (TT.pv F i:Nat),.int (TT.pv G i:Nat)]) (.val (.int (j:Int))) (.val (.int (x:Int)))) _
   have eo:(M9 i s.o0 s.o1 (λq=>if q∈h.take j then i+3 else s.o2 q)).put [x-3] (oN [s.o0 (x-3+3),s.o1 (x-3+3),i+3])=M9 i s.o0 s.o1 (λq=>if q∈h.take (j+1) then i+3 else s.o2 q):=by
    rw[cU4 (by omega)]
    congr 1
    funext q
    rw[hx3,e2];by_cases e:q=x
    ·rw[e,TT.C7];simp
    ·rw[TT.C0 e];simp[e]
   refine B0 (dF1 (u0:=M9 i s.o0 s.o1 (λq=>if q∈h.take j then i+3 else s.o2 q)) (us:=[.leaf (.int (s.o0 (x-3+3):Nat)),.leaf (.int (s.o1 (x-3+3):Nat)),.leaf (.int ((if x-3+3∈h.take j then i+3 else s.o2 (x-3+3):Nat):Int))]) (π:=[]++[x-3]) 2 (O6 A8 (A1 rfl)) (aH8 (x-3) aE9 (O6 (A1 rfl) A8) (by omega) (λu _=>⟨u,rfl⟩)) A8 rfl (by decide:2<3) rfl (dG5 (by omega)) ?_ (d5 rfl rfl rfl rfl))
   show W K _ ((rh m F G (M9 i s.o0 s.o1 (λq=>if q∈h.take j then i+3 else s.o2 q)) (E8 (i+4) s.i0 s.i1 (TT.put s.i2 (i+3) (h.take j))) (s.path.drop na) (h.drop (j+1)) (.val (.int (i:Int))) (.own [.int (TT.pv F i:Nat),.int (TT.pv G i:Nat)]) (.val (.int (j:Int))) (.val (.int (x:Int)))).set 2
    (.tr ((M9 i s.o0 s.o1 (λq=>if q∈h.take j then i+3 else s.o2 q)).put [x-3] (.lst [.leaf (.int (s.o0 (x-3+3):Nat)),.leaf (.int (s.o1 (x-3+3):Nat)),.leaf (.int (3+(i:Int)))])))) _
   rw[e3];show W K _ ((rh m F G (M9 i s.o0 s.o1 (λq=>if q∈h.take j then i+3 else s.o2 q)) (E8 (i+4) s.i0 s.i1 (TT.put s.i2 (i+3) (h.take j))) (s.path.drop na) (h.drop (j+1)) (.val (.int (i:Int))) (.own [.int (TT.pv F i:Nat),.int (TT.pv G i:Nat)]) (.val (.int (j:Int))) (.val (.int (x:Int)))).set 2
    (.tr ((M9 i s.o0 s.o1 (λq=>if q∈h.take j then i+3 else s.o2 q)).put [x-3] (oN [s.o0 (x-3+3),s.o1 (x-3+3),i+3])))) _
   rw[eo];show W K _ (rh m F G (M9 i s.o0 s.o1 (λq=>if q∈h.take (j+1) then i+3 else s.o2 q)) (E8 (i+4) s.i0 s.i1 (TT.put s.i2 (i+3) (h.take j))) (s.path.drop na) (h.drop (j+1)) (.val (.int (i:Int))) (.own [.int (TT.pv F i:Nat),.int (TT.pv G i:Nat)]) (.val (.int (j:Int))) (.val (.int (x:Int)))) _
   refine j8 (u0:=E8 (i+4) s.i0 s.i1 (TT.put s.i2 (i+3) (h.take j))) (π:=[]++[i+3]++[2]) (aH8 2 (aH8 (i+3) aE9 (O6 A8 (A1 rfl)) (by omega) (λu _=>⟨u,rfl⟩)) A8 rfl (λu0 h=>by cases h;exact⟨_,aF5 (by omega)⟩)) rfl (bZ3 (by omega)) (aX7 (A1 rfl)) ?_ ?_ (d5 rfl rfl rfl rfl)
   ·rw[Aa3,TT.C7,Ad0];unfold PySem.sizeLine;omega
   refine⟨.val (.int (j:Int)),.val (.int (x:Int)),rfl,rfl,?_⟩;rw[bL3 (by omega),bZ9,TT.C7,<- e2]
   rfl
  rintro _ ⟨z8,z9,c8,c9,rfl⟩;rw[O2];have eb:((G i:Int)-(TT.pv G i:Int)).toNat=nb:=by omega
  rw[eb];obtain ⟨x,r1,ex,xlt,xlen⟩:=spx;obtain ⟨y,r2,ey,ylt,ylen⟩:=shy;have e3:(3:Int)+(i:Int)=((i+3:Nat):Int):=by omega
  have hpl:atI (nI (s.path.drop na).reverse) (-1)=some (.int (x:Int)):=by rw[ex,List.reverse_cons,aK8];exact aH5
  have hhl:atI (nI (h.drop nb).reverse) (-1)=some (.int (y:Int)):=by rw[ey,List.reverse_cons,aK8];exact aH5
  refine B0 (j8 (u0:=M9 i s.o0 s.o1 (λq=>if q∈h.take nb then i+3 else s.o2 q)) aE9 rfl rfl (N5 (E1 (aX7 (LV.E.imm (d:=.int (x:Int)) (E7 (N7 rfl) (aN1 A8) rfl hpl))) (E1 (aX7 (LV.E.imm (d:=.int (y:Int)) (E7 (N7 rfl) (aN1 A8) rfl hhl))) (E1 (aX7 A8) G5)))) ?_ ?_ (d5 rfl rfl c8 c9))
  ·rw[Aa3,List.length_range];unfold PySem.sizeLine;omega
  have eo:(M9 i s.o0 s.o1 (λq=>if q∈h.take nb then i+3 else s.o2 q)).put [] (.lst (((List.range i).map λj=>oN [s.o0 (j+3),s.o1 (j+3),(λq=>if q∈h.take nb then i+3 else s.o2 q) (j+3)])++[.lst [.leaf (.int (x:Int)),.leaf (.int (y:Int)),.leaf (.int ((2:Nat):Int))]]))=M9 (i+1) (TT.put s.o0 (i+3) x) (TT.put s.o1 (i+3) y) (TT.put (λq=>if q∈h.take nb then i+3 else s.o2 q) (i+3) 2):=by rw[OT.put_nil];exact cT4 (k:=i) (o0:=s.o0) (o1:=s.o1) (o2:=λq=>if q∈h.take nb then i+3 else s.o2 q) x y 2
  show W K _ ((rh m F G (M9 i s.o0 s.o1 (λq=>if q∈h.take nb then i+3 else s.o2 q)) (E8 (i+4) s.i0 s.i1 (TT.put s.i2 (i+3) (h.take nb))) (s.path.drop na) (h.drop nb) (.val (.int (i:Int))) (.own [.int (TT.pv F i:Nat),.int (TT.pv G i:Nat)]) z8 z9).set 2 (.tr ((M9 i s.o0 s.o1 (λq=>if q∈h.take nb then i+3 else s.o2 q)).put [] (.lst (((List.range i).map λj=>oN [s.o0 (j+3),s.o1 (j+3),(λq=>if q∈h.take nb then i+3 else s.o2 q) (j+3)])++[.lst [.leaf (.int (x:Int)),.leaf (.int (y:Int)),.leaf (.int ((2:Nat):Int))]]))))) _
  rw[eo];show W K _ (rh m F G (M9 (i+1) (TT.put s.o0 (i+3) x) (TT.put s.o1 (i+3) y) (TT.put (λq=>if q∈h.take nb then i+3 else s.o2 q) (i+3) 2)) (E8 (i+4) s.i0 s.i1 (TT.put s.i2 (i+3) (h.take nb))) (s.path.drop na) (h.drop nb) (.val (.int (i:Int))) (.own [.int (TT.pv F i:Nat),.int (TT.pv G i:Nat)]) z8 z9) _
  refine B0 (j8 (u0:=E8 (i+4) s.i0 s.i1 (TT.put s.i2 (i+3) (h.take nb))) (π:=[]++[x]++[0]) (aH8 0 (aH8 x aE9 (E7 (N7 rfl) (aN1 A8) rfl hpl) rfl (λu _=>⟨u,rfl⟩)) A8 rfl (λu0 h=>by cases h;exact⟨_,aF5 (by omega)⟩)) rfl (cU6 (by omega)) (aX7 (O6 A8 (A1 rfl))) ?_ ?_ (d5 rfl rfl c8 c9))
  ·rw[Aa3];unfold PySem.sizeLine;omega
  have ej:=cQ5 (n:=i+4) (q:=x) (i0:=s.i0) (i1:=s.i1) (i2:=TT.put s.i2 (i+3) (h.take nb)) (by omega) (i+3)
  rw[<- e3]at ej;show W K _ ((rh m F G (M9 (i+1) (TT.put s.o0 (i+3) x) (TT.put s.o1 (i+3) y) (TT.put (λq=>if q∈h.take nb then i+3 else s.o2 q) (i+3) 2)) (E8 (i+4) s.i0 s.i1 (TT.put s.i2 (i+3) (h.take nb))) (s.path.drop na) (h.drop nb) (.val (.int (i:Int))) (.own [.int (TT.pv F i:Nat),.int (TT.pv G i:Nat)]) z8 z9).set 3 (.tr ((E8 (i+4) s.i0 s.i1 (TT.put s.i2 (i+3) (h.take nb))).put ([]++[x]++[0]) (.lst (((s.i0 x).map λ(x:Nat)=>OT.leaf (.int (x:Int)))++[.leaf (.int (3+(i:Int)))]))))) _
  rw[ej];show W K _ (rh m F G (M9 (i+1) (TT.put s.o0 (i+3) x) (TT.put s.o1 (i+3) y) (TT.put (λq=>if q∈h.take nb then i+3 else s.o2 q) (i+3) 2)) (E8 (i+4) (TT.put s.i0 x (s.i0 x++[i+3])) s.i1 (TT.put s.i2 (i+3) (h.take nb))) (s.path.drop na) (h.drop nb) (.val (.int (i:Int))) (.own [.int (TT.pv F i:Nat),.int (TT.pv G i:Nat)]) z8 z9) _
  refine B0 (j8 (u0:=E8 (i+4) (TT.put s.i0 x (s.i0 x++[i+3])) s.i1 (TT.put s.i2 (i+3) (h.take nb))) (π:=[]++[y]++[1]) (aH8 1 (aH8 y aE9 (E7 (N7 rfl) (aN1 A8) rfl hhl) rfl (λu _=>⟨u,rfl⟩)) A8 rfl (λu0 h=>by cases h;exact⟨_,aF5 (by omega)⟩)) rfl (cT9 (by omega)) (aX7 (O6 A8 (A1 rfl))) ?_ ?_ (d5 rfl rfl c8 c9))
  ·rw[Aa3];unfold PySem.sizeLine;omega
  have ek:=cR7 (n:=i+4) (q:=y) (i0:=TT.put s.i0 x (s.i0 x++[i+3])) (i1:=s.i1) (i2:=TT.put s.i2 (i+3) (h.take nb)) (by omega) (i+3)
  rw[<- e3]at ek;show W K _ ((rh m F G (M9 (i+1) (TT.put s.o0 (i+3) x) (TT.put s.o1 (i+3) y) (TT.put (λq=>if q∈h.take nb then i+3 else s.o2 q) (i+3) 2)) (E8 (i+4) (TT.put s.i0 x (s.i0 x++[i+3])) s.i1 (TT.put s.i2 (i+3) (h.take nb))) (s.path.drop na) (h.drop nb) (.val (.int (i:Int))) (.own [.int (TT.pv F i:Nat),.int (TT.pv G i:Nat)]) z8 z9).set 3 (.tr ((E8 (i+4) (TT.put s.i0 x (s.i0 x++[i+3])) s.i1 (TT.put s.i2 (i+3) (h.take nb))).put ([]++[y]++[1]) (.lst (((s.i1 y).map λ(x:Nat)=>OT.leaf (.int (x:Int)))++[.leaf (.int (3+(i:Int)))]))))) _
  rw[ek];show W K _ (rh m F G (M9 (i+1) (TT.put s.o0 (i+3) x) (TT.put s.o1 (i+3) y) (TT.put (λq=>if q∈h.take nb then i+3 else s.o2 q) (i+3) 2)) (E8 (i+4) (TT.put s.i0 x (s.i0 x++[i+3])) (TT.put s.i1 y (s.i1 y++[i+3])) (TT.put s.i2 (i+3) (h.take nb))) (s.path.drop na) (h.drop nb) (.val (.int (i:Int))) (.own [.int (TT.pv F i:Nat),.int (TT.pv G i:Nat)]) z8 z9) _
  refine O0 (ds:=nI (s.path.drop na).reverse) rfl (O6 A8 (A1 rfl)) ?_ ⟨.val (.int (i:Int)),.own [.int (TT.pv F i:Nat),.int (TT.pv G i:Nat)],z8,z9,⟨rfl,rfl,c8,c9⟩,?_⟩ (d5 rfl rfl c8 c9)
  ·rw[M0,Ad9,List.length_drop];unfold PySem.sizeLine;omega
  rw[hst];simp only[TT.S.step,sk,hh,ex,ey,List.headD_cons];rw[e3];unfold rh
  simp[nI]
  rfl
 ·rintro _ ⟨x6,x7,x8,x9,⟨b6,b7,b8,b9⟩,rfl⟩;have em:(X7 0 (((fl F m).map PyData.int).length:Int).toNat).length=m:=by rw[O2,lenF];omega
  rw[em];have GI:=TT.V7 R m (Aa7 _);have Lm:=TT.aO8 GI.inv;have I2:=TT.cL8 R m (Aa7 _);have pl:=GI.p;have hl:=GI.h;have gk:=GI.k;have gle:=GI.le;have gle2:=GI.le2;obtain ⟨p,hp⟩:=GI.inv.pe;obtain ⟨h,hh⟩:=GI.inv.he;have R2:=cW7 hp hh;have R0:=TT.aJ5 (s:=TT.gst F G m);have R1:=TT.aT1 (s:=TT.gst F G m);have RI:∀q,3<=q->q<m+3->(TT.gst F G m).row q=_:=λq h1 h2=>TT.R9 h1 (by rw[gk];exact h2)
  generalize hs:TT.gst F G m=s at Lm I2 pl hl gk hp hh R2 R0 R1 RI k ⊢;rw[gk]at Lm;refine B0 (bD6 (λk ρ=>∃j,j+k+1=s.path.length/\ρ=rh m F G (M9 m s.o0 s.o1 s.o2) (E8 (m+3) s.i0 s.i1 s.i2) (s.path.drop j) (s.h1 j) x6 x7 x8 x9) ⟨s.path.length-1,0,by rw[hp];simp,rfl⟩ ?_)
  rintro k0 _ ⟨j,hj,rfl⟩;refine⟨_,G4 (bF5 (W6 (A2 (N7 rfl) A7)) A8),?_⟩;have el:(nI (s.path.drop j).reverse).length=k0+1:=by rw[M0,Ad9,List.length_drop];omega
  rw[el];by_cases hk:k0=0
  ·subst hk;rw[if_neg (by simp)]
   have ej:s.path.drop j=[0]:=by
    rw[hp,Ab7]at hj;rw[hp,List.drop_append,List.drop_of_length_le (by simp at hj;omega)]
    have:j-p.length=0:=by simp at hj;omega
    rw[this];rfl
   have eh:s.h1 j=(p.reverse++h)++[1]:=by
    unfold TT.S.h1;rw[hp,Ab7]at hj;rw[hp,hh,List.take_append_of_le_length (by simp at hj;omega),List.take_of_length_le (by simp at hj;omega)]
    simp
   rw[ej,eh];generalize hq:p.reverse++h=q at R2;have ql:q.length<=3000:=by
    have:=Lm 2
    rw[R2]at this;simp at this;omega
   have ei:s.i2=TT.put s.i2 2 (q.take 0):=by
    funext z;by_cases e:z=2
    ·rw[e,TT.C7,I2];rfl
    ·rw[TT.C0 e]
   rw[ei];refine B0 (bD6 (λk ρ=>∃j,j+k=q.length/\ρ=rh m F G (M9 m s.o0 s.o1 s.o2) (E8 (m+3) s.i0 s.i1 (TT.put s.i2 2 (q.take j))) [0] ((q++[1]).drop j) x6 x7 x8 x9) ⟨q.length,0,by omega,rfl⟩ ?_)
   rintro k1 _ ⟨j1,hj1,rfl⟩;refine⟨_,G4 (bF5 (W6 (A2 (N7 rfl) A7)) A8),?_⟩;have el:(nI ((q++[1]).drop j1).reverse).length=k1+1:=by rw[M0,Ad9,List.length_drop];simp;omega
   rw[el];by_cases hk:k1=0
   ·subst hk;rw[if_neg (by simp)]
    have ej1:j1=q.length:=by omega
    subst ej1;rw[List.take_length];refine cP4 (i:=3) rfl (cP4 (i:=2) rfl ?_);rw[cE9,cA5];show W K _ (rh2 m F G (.list ((List.range m).map λj=>lN [s.o0 (j+3),s.o1 (j+3),s.o2 (j+3)])) (.list ((List.range (m+3)).map λz=>.tuple [lN (s.i0 z),lN (s.i1 z),lN (TT.put s.i2 2 q z)])) (nI ([0]:List Nat).reverse) (nI ((q++[1]).drop q.length).reverse) x6 x7 x8 x9 .no .no .no .no) _
    generalize hiD:(PyData.list ((List.range (m+3)).map λz=>.tuple [lN (s.i0 z),lN (s.i1 z),lN (TT.put s.i2 2 q z)]))=iD
    generalize hoD:(PyData.list ((List.range m).map λj=>lN [s.o0 (j+3),s.o1 (j+3),s.o2 (j+3)]))=oD
    generalize hpD:nI ([0]:List Nat).reverse=pD;generalize hhD:nI ((q++[1]).drop q.length).reverse=hD;show W K _ (rh2 m F G oD iD pD hD x6 x7 x8 x9 .no .no .no .no) _;have sqi:sq iD=some ((List.range (m+3)).map λz=>.tuple [lN (s.i0 z),lN (s.i1 z),lN (TT.put s.i2 2 q z)]):=by rw[<- hiD];rfl
    have sqo:sq oD=some ((List.range m).map λj=>lN [s.o0 (j+3),s.o1 (j+3),s.o2 (j+3)]):=by rw[<- hoD];rfl
    have L0:=Lm 0
    have L1:=Lm 1
    have L2':=Lm 2
    rw[R0]at L0;rw[R1]at L1;rw[R2]at L2';simp only[List.length_cons,Ab7,Ad9,List.length_nil]at L0 L1 L2';refine B0 (M2 (ds:=[lN (s.row 0)]) (G8 (A2 (EF.toN (T9 (l:=[1]++s.i0 0) (l':=[2]) (EF.e' (T9 (l:=[1]) (l':=s.i0 0) (EF.e' (G8 (A2 A8 A7))) (E7 (E7 (A1 rfl) A8 sqi (aG4 (q:=0) (by omega))) A8 rfl rfl) (by simp;omega))) (EF.e' (G8 (A2 A8 A7))) (by simp;omega)) (by rw[R0];simp)) A7)) ?_ (show 10<14 by decide))
    show W K _ (rh2 m F G oD iD pD hD x6 x7 x8 x9 (.own [lN (s.row 0)]) .no .no .no) _
    refine B0 (O0 (d:=lN (s.row 1)) rfl (EF.toN (T9 (l:=[2]++(s.i1 1).reverse) (l':=[0]) (EF.e' (T9 (l:=[2]) (l':=(s.i1 1).reverse) (EF.e' (G8 (A2 A8 A7))) (EF.e' (bX2 (E7 (E7 (A1 rfl) A8 sqi (aG4 (q:=1) (by omega))) A8 rfl rfl))) (by simp;omega))) (EF.e' (G8 (A2 A8 A7))) (by simp;omega)) (by rw[R1];simp)) (by show 1<_;unfold PySem.sizeLine;omega) ?_ (bQ9 b6 b7 b8 b9 rfl rfl rfl rfl))
    show W K _ (rh2 m F G oD iD pD hD x6 x7 x8 x9 (.own [lN (s.row 0),lN (s.row 1)]) .no .no .no) _
    refine B0 (O0 (d:=lN (s.row 2)) rfl (EF.toN (T9 (l:=[0]++TT.put s.i2 2 q 2) (l':=[1]) (EF.e' (T9 (l:=[0]) (l':=TT.put s.i2 2 q 2) (EF.e' (G8 (A2 A8 A7))) (E7 (E7 (A1 rfl) A8 sqi (aG4 (q:=2) (by omega))) A8 rfl rfl) (by rw[TT.C7];simp;omega))) (EF.e' (G8 (A2 A8 A7))) (by rw[TT.C7];simp;omega)) (by rw[R2,TT.C7];simp)) (by show 2<_;unfold PySem.sizeLine;omega) ?_ (bQ9 b6 b7 b8 b9 rfl rfl rfl rfl))
    show W K _ (rh2 m F G oD iD pD hD x6 x7 x8 x9 (.own ((List.range (0+3)).map λz=>lN (s.row z))) .no .no .no) _
    refine B0 (R6 (S4 (A2 (W6 (A2 (A1 rfl) A7) sqo) A7) ?_ ?_) (λv ρ=>∃x11 x12 x13,(x11.nb=true/\x12.nb=true/\x13.nb=true)/\ρ=rh2 m F G oD iD pD hD x6 x7 x8 x9 (.own ((List.range (v+3)).map λz=>lN (s.row z))) x11 x12 x13) ⟨.no,.no,.no,⟨rfl,rfl,rfl⟩,rfl⟩ ?_ ?_)
    ·simp <;> omega
    ·simp <;> omega
    ·rintro v d _ hd ⟨x11,x12,x13,⟨b11,b12,b13⟩,rfl⟩;obtain ⟨rfl,hv⟩:=S2 hd;have hv:v<m:=by simpa using hv
     have e3:(3:Int)+(v:Int)=((v+3:Nat):Int):=by omega
     have i2v:TT.put s.i2 2 q (v+3)=s.i2 (v+3):=TT.C0 (by omega)
     have Rv:=RI (v+3) (by omega) (by omega)
     have Lv:=Lm (v+3)
     rw[Rv]at Lv;simp only[List.length_cons,Ab7,Ad9]at Lv;refine⟨_,D1,?_⟩;refine B0 (L4 (d:=.tuple [lN (s.i0 (v+3)),lN (s.i1 (v+3)),lN (s.i2 (v+3))]) (E7 (A1 rfl) (O6 A8 (A1 rfl)) sqi ?_) ?_)
     ·rw[e3,aG4 (by omega),i2v]
     show W K _ (rh2 m F G oD iD pD hD x6 x7 x8 x9 (.own ((List.range (v+3)).map λz=>lN (s.row z))) (.val (.int (v:Int))) (.val (.tuple [lN (s.i0 (v+3)),lN (s.i1 (v+3)),lN (s.i2 (v+3))])) x13) _
     refine B0 (M2 (ds:=nI ([s.o0 (v+3)]++s.i2 (v+3)++[s.o1 (v+3)]++s.i0 (v+3))) (T9 (EF.e' (T9 (l':=[s.o1 (v+3)]) (EF.e' (T9 (l:=[s.o0 (v+3)]) (EF.e' (G8 (A2 (E7 (d':=.int (s.o0 (v+3):Nat)) (E7 (A1 rfl) (A1 rfl) sqo (aG4 hv)) A8 rfl rfl) A7) (show 1<=16777216 by decide))) (E7 (A1 rfl) A8 rfl rfl) (by simp;omega)))
      (EF.e' (G8 (A2 (E7 (d':=.int (s.o1 (v+3):Nat)) (E7 (A1 rfl) (A1 rfl) sqo (aG4 hv)) A8 rfl rfl) A7) (show 1<=16777216 by decide))) (by simp;omega))) (E7 (A1 rfl) A8 rfl rfl) (by simp;omega)) ?_ (show 13<14 by decide))
     show W K _ (rh2 m F G oD iD pD hD x6 x7 x8 x9 (.own ((List.range (v+3)).map λz=>lN (s.row z))) (.val (.int (v:Int))) (.val (.tuple [lN (s.i0 (v+3)),lN (s.i1 (v+3)),lN (s.i2 (v+3))])) (.own (nI ([s.o0 (v+3)]++s.i2 (v+3)++[s.o1 (v+3)]++s.i0 (v+3))))) _
     refine O0 (ds:=(List.range (v+3)).map λz=>lN (s.row z)) (d:=lN (s.row (v+3))) rfl (EF.toN (T9 (l:=[s.o0 (v+3)]++s.i2 (v+3)++[s.o1 (v+3)]++s.i0 (v+3)++[s.o2 (v+3)]) (l':=(s.i1 (v+3)).reverse) (EF.e' (T9 (l:=[s.o0 (v+3)]++s.i2 (v+3)++[s.o1 (v+3)]++s.i0 (v+3)) (l':=[s.o2 (v+3)]) (N7 rfl) (EF.e' (G8 (A2 (E7 (d':=.int (s.o2 (v+3):Nat)) (E7 (A1 rfl) (A1 rfl) sqo (aG4 hv)) A8 rfl rfl) A7) (show 1<=16777216 by decide))) (by simp;omega)))
      (EF.e' (bX2 (E7 (A1 rfl) A8 rfl rfl))) (by simp;omega)) (by rw[Rv];simp)) ?_ ⟨.val (.int (v:Int)),.val (.tuple [lN (s.i0 (v+3)),lN (s.i1 (v+3)),lN (s.i2 (v+3))]),.own (nI ([s.o0 (v+3)]++s.i2 (v+3)++[s.o1 (v+3)]++s.i0 (v+3))),⟨rfl,rfl,rfl⟩,?_⟩ (bQ9 b6 b7 b8 b9 rfl rfl rfl rfl)
     ·rw[Aa3,List.length_range];unfold PySem.sizeLine;omega
     ·have er:(List.range (v+3)).map (λz=>lN (s.row z))++[lN (s.row (v+3))]=(List.range (v+1+3)).map λz=>lN (s.row z):=by
       rw[show v+1+3=(v+3)+1 by omega,List.range_succ (n:=v+3),Ad1];rfl
      rw[er];rfl
    rintro _ ⟨x11,x12,x13,⟨b11,b12,b13⟩,rfl⟩;rw[O2];have e4:((((List.range m).map λj=>lN [s.o0 (j+3),s.o1 (j+3),s.o2 (j+3)]).length:Int)).toNat=m:=by simp
    rw[e4];refine aY7 (i:=10) rfl ?_;exact U4 (U5 (A2 (A1 rfl) (A2 (A1 rfl) A7))) (by rw[<- hoD])
   ·have hd:decide (((k1+1:Nat):Int)>1)=true:=by simp;omega
    rw[hd,if_pos rfl];have hlt:j1<q.length:=by omega
    have e1:(q++[1]).drop j1=q[j1]::(q++[1]).drop (j1+1):=by
     rw[List.drop_eq_getElem_cons (by simp;omega),List.getElem_append_left hlt]
    have e2:q.take (j1+1)=q.take j1++[q[j1]]:=List.take_succ_eq_append_getElem hlt
    refine bQ2 (i:=3) (j:=5) (d:=.int (q[j1]:Nat)) (u0:=E8 (m+3) s.i0 s.i1 (TT.put s.i2 2 (q.take j1))) (π:=[]++[2]++[2]) (aH8 2 (aH8 2 aE9 A8 rfl (λu _=>⟨u,rfl⟩)) A8 rfl (λu0 h=>by cases h;exact⟨_,aF5 (by omega)⟩))
     (bT0 (ds:=nI ((q++[1]).drop (j1+1)).reverse) ?_ (d5 b6 b7 b8 b9)) (by decide) ⟨_,rfl,rfl⟩ rfl rfl (bZ3 (by omega)) ?_ ⟨k1-1,by omega,j1+1,by omega,?_⟩ (d5 (m:=m) (F:=F) (G:=G) (o:=M9 m s.o0 s.o1 s.o2) (i:=E8 (m+3) s.i0 s.i1 (TT.put s.i2 2 (q.take j1))) (p:=[0]) (h:=(q++[1]).drop (j1+1)) b6 b7 b8 b9)
    ·show some (Sl.own (nI ((q++[1]).drop j1).reverse))=_
     rw[e1,List.reverse_cons,aK8];rfl
    ·rw[Aa3,TT.C7,Ad0];unfold PySem.sizeLine;omega
    ·rw[bL3 (by omega),bZ9,TT.C7,<- e2];rfl
  ·have hd:decide (((k0+1:Nat):Int)>1)=true:=by simp;omega
   rw[hd,if_pos rfl];obtain ⟨x,hx⟩:∃x,s.path[j]? = some x:=⟨_,Aa2 (by omega)⟩
   have e1:s.path.drop j=x::s.path.drop (j+1):=by
    obtain ⟨h1,h2⟩:=Ab0.mp hx;rw[<- h2];exact List.drop_eq_getElem_cons h1
   have e2:s.h1 (j+1)=x::s.h1 j:=by
    unfold TT.S.h1;obtain ⟨h1,h2⟩:=Ab0.mp hx;rw[List.take_succ_eq_append_getElem h1,h2];simp
   refine aM1 (ds:=nI (s.h1 j).reverse) (bT0 (d:=.int (x:Int)) (ds:=nI (s.path.drop (j+1)).reverse) ?_ (d5 b6 b7 b8 b9)) rfl rfl ?_ ⟨k0-1,by omega,j+1,by omega,?_⟩ (d5 (m:=m) (F:=F) (G:=G) (o:=M9 m s.o0 s.o1 s.o2) (i:=E8 (m+3) s.i0 s.i1 s.i2) (p:=s.path.drop (j+1)) (h:=s.h1 j) b6 b7 b8 b9)
   ·show some (Sl.own (nI (s.path.drop j).reverse))=_
    rw[e1];simp[nI]
   ·rw[M0,Ad9];unfold TT.S.h1 PySem.sizeLine;simp only[Ab7,Ad9,Ad0];omega
   ·rw[e2];unfold rh
    simp[nI]
end
theorem aN7:D6 ["_law_script", "_law_k"] ["_law_script", "_law_k"] (A6 N0):=⟨rfl,rfl,rfl,by decide +kernel,rfl,by decide +kernel,by decide +kernel⟩
theorem sc__law_begun:D6 ["_law_turn", "_law_at"] ["_law_turn"] (A6 P5):=⟨rfl,rfl,rfl,by decide +kernel,rfl,by decide +kernel,by decide +kernel⟩
theorem bS0 {K:PySem.W.Frag}{pre:List PyData->List PyData->Prop}{n:Nat}(h:∀ds d,pre ds d->ds.length=n):∀vs H Q E,spL K pre vs H Q E->vs.length=n:=λvs H Q E ⟨ds,S,d,_,r,p,_⟩=>by
 have e:=r.length
 rw[e];exact h ds d p
def cl (ns:List Int)(k:Int):Int:=(ns[k.toNat]?).getD 0
def cS7 (ds:List PyData)(d:PyData):Prop:=∃ns k,0<=k/\ds=[lI ns,.int k]/\d=.int (cl ns k)
def cS0 (ds:List PyData)(d:PyData):Prop:=∃i,ds=[.int i]/\d=.bool true
def tN (l:List Nat):PyData:=.tuple (nI l)
def cP3 (ds:List PyData)(d:PyData):Prop:=∃l:List Nat,l≠[]/\l.length<=10000/\ds=[lN l]/\d=tN (TT.W5 l)
theorem aH3 (M:Nat):∀l:List Nat,(l.map λ(x:Nat)=>(x:Int)).idxOf (M:Int)=l.idxOf M
 | []=>rfl
 | b::l=>by
  rw[Ac6,List.idxOf_cons,List.idxOf_cons,aH3 M l];by_cases e:b=M
  ·subst e;simp
  ·have e':¬(b:Int)=(M:Int):=by omega
   have h1:(b==M)=false:=by simpa using e
   have h2:((b:Int)==(M:Int))=false:=by simpa using e'
   rw[h1,h2]
section
variable {P:Program}{w:World}{K:PySem.W.Frag}{mg:Str->Option Value}{base:Heap}{a:Ad}
theorem bW3 (T:Tx K mg a):E3 P w K mg base CX0 1 a.Y6 a.X5 ["_law_script", "_law_k"] (spV K cS7):=by
 refine T.O8.ok aN7 (aE1 λds d ⟨_,_,_,e,_⟩=>by rw[e];rfl) (λcdv A outer s H vs Q E hr h=>?_)
 obtain ⟨ds,S,d,hS,r,⟨ns,k,h0,rfl,rfl⟩,q⟩:=h;refine⟨_,(A4 (Y2 (G7 bV0 (pv 1) (B6 L8 (by rfl) T.Q8 PySem.boot_len (A0 (pv 0) A3)) (M4 _)) (A9 (E2 (B8 C2 (pv 0) (pv 1) (λ_ _=>rfl)))) N4)
   (A9 (E2 A5))),S3 hS r ?_ q⟩
 refine B0 (aE6 (G4 (bF5 (A1 rfl) (W6 (A2 (A1 rfl) A7)))) (λh=>(U4 (d:=.int (cl ns k)) (E7 (A1 rfl) (A1 rfl) rfl ?_) rfl)) (λh=>R8 ?_))
 ·have h:k<(ns.map PyData.int).length:=of_decide_eq_true h
  rw[Aa3]at h;refine aA3 k.toNat (by omega) ?_
  have hl:k.toNat<ns.length:=by omega
  rw[Aa9,Aa2 hl];unfold cl;rw[Aa2 hl];rfl
 have h:¬k<((ns.map PyData.int).length:Int):=of_decide_eq_false h
 rw[Aa3]at h;refine(U4 A8 ?_);show PyData.int 0=.int (cl ns k);unfold cl;rw[Ad4 (by omega)];rfl
theorem bL0 (T:Tx K mg a):E3 P w K mg base CX0 1 a.t8 a.t5 ["_law_turn"] (spV K cP3):=by
 refine T.p9.ok sc__law_begun (aE1 λds d ⟨_,_,_,e,_⟩=>by rw[e];rfl) (λcdv A outer s H vs Q E hr h=>?_)
 obtain ⟨ds,S,d,hS,r,⟨l,hne,hl,rfl,rfl⟩,q⟩:=h;refine⟨_,(A4 (B5 (i:=1) sc__law_begun.nd rfl (Or.inl rfl) (N6 Ab1 PySem.F.slot_list_index PySem.F.type_list_index (cD3 K) (pv 0) (A0 (B6 (cC6 K rfl) (by rfl) T.bL6 boot_min (A0 (pv 0) A3)) A3)))
   (A9 (E2 (U6 R3 (by rfl) T.T5 boot_tuple (A0 (B4 (P7 K) (aJ1 bE0 (pv 0) (aD8 (pv 1)) bU7) (aJ1 bE0 (pv 0) bU7 (aD8 (pv 1)))) A3))))),S3 hS r ?_ q⟩
 obtain ⟨hm1,hm2⟩:=TT.bV9 hne;have el:lN l=lI (l.map λ(x:Nat)=>(x:Int)):=by unfold lN lI nI;simp
 have hM:((TT.mn l:Nat):Int)∈(l.map λ(x:Nat)=>(x:Int))/\∀z∈(l.map λ(x:Nat)=>(x:Int)),((TT.mn l:Nat):Int)<=z:=⟨Aa8.mpr ⟨_,hm1,rfl⟩,λz hz=>by
  obtain ⟨y,hy,rfl⟩:=Aa8.mp hz
  have:=hm2 y hy
  omega⟩
 have hix:=aH3 (TT.mn l) l
 have hidx:l.idxOf (TT.mn l)<=l.length:=Nat.le_of_lt (List.idxOf_lt_length_of_mem hm1)
 refine B0 (L4 (d:=.int (l.idxOf (TT.mn l):Nat)) ?_ ?_)
 ·have h:=cJ5 (K:=K) (m:=true) (ρ:=sl0 ["_law_turn", "_law_at"].length [lI (l.map λ(x:Nat)=>(x:Int))]) (ta:=L5 0) (A1 (i:=0) rfl) (dM6 (A2 (A1 (i:=0) rfl) A7) hM) hM.1
  rw[hix]at h;rw[el];exact h
 refine U4 (aG8 (A2 (EF.e' (bR4 (EF.e' (bY7 (ds:=nI l) (A1 rfl) (aL1 (A1 rfl)) cG5 (O5 l))) (EF.e' (bY7 (ds:=nI l) (A1 rfl) cG5 (aL1 (A1 rfl)) (O5 l))) (aC2 _ _ (O5 l)) (aC2 _ _ (O5 l)) ?_)) A7) ?_) ?_
 ·rw[cM6 (by rw[M0];exact hidx),cQ7 (by rw[M0];exact hidx),List.length_drop,Ad0,M0];unfold PySem.sizeLine;omega
 ·rw[aJ2,aC2 _ _ (O5 l),aC2 _ _ (O5 l)];rfl
 ·show PyData.tuple _=tN _
  rw[cM6 (by rw[M0];exact hidx),cQ7 (by rw[M0];exact hidx)]
  unfold tN TT.W5 nI
  simp
end
end K01
namespace LV
open PySem L2
section
variable {K:PySem.W.Frag}{ρ ρ' ρ1:List Sl}{m m':Bool}{t ta tb tc:TE}{d d':PyData}{ds es:List PyData}
theorem cI8 {i:Nat}{k:Int}{R:AE}(n:Nat)(he:E K true t ρ d)(hi:ρ[i]? = some (.own ds))(hk:E K false tb ρ (.int k))(hkn:k=n)(hn':n<ds.length)(hn:R.nx (ρ.set i (.own (ds.set n d))))(nb:S6 ρ=true:=by rfl) :
  W K (aU8 t (dC2 (L5 i) tb cH1)) ρ R:=λS B D σ H o I s=>by
 refine he S B σ H o I _ λx H0 s0 rx=>?_
 obtain ⟨p,hp,a,xs,b,c⟩:=(I.grow s0).own i ds hi;refine⟨_,a,?_⟩;refine hk S B σ H0 o (I.grow s0) _ λw H2 s2 rw_=>?_
 cases rw_
 have hl:=c.length
 refine⟨p,xs,k,n,rfl,rfl,s2 _ _ b,by unfold ixN;rw[if_pos (by omega),if_pos (by omega)];simp[hkn],?_⟩
 exact s.nx _ σ _ _ (((I.grow s0).grow s2).upd hi hp ((c.mono (K6 s2)).set n (rx.mono (K6 s2))) (K8 nb)) hn
theorem Reps.rep {H:Hp}{xs:List V}(r:Reps K H xs ds):∀n:Nat,Reps K H (List.replicate n xs).flatten (List.replicate n ds).flatten
 | 0=>.nil
 | n+1=>by
  rw[List.replicate_succ,List.replicate_succ,List.flatten_cons,List.flatten_cons];exact r.append (Reps.rep r n)
theorem bH1 (h:M1 ds=true):∀n:Nat,M1 (List.replicate n ds).flatten=true
 | 0=>rfl
 | n+1=>by rw[List.replicate_succ,List.flatten_cons,aJ2,h,bH1 h n];rfl
theorem cH3 {k:Int}(ha:EF K ta ρ ds)(hb:E K false tb ρ (.int k))(hi:M1 ds=true)(h1 : -(2^63)<=k)(h2:k<2^63)(hl:ds.length*k.toNat<=sizeLine):EF K (tOp dI0 ta tb) ρ (List.replicate k.toNat ds).flatten:=λS B σ H o I Q q=>
 ha S B σ H o I _ λp xs H1 s1 n1 e1 r1=>hb S B σ H1 o (I.grow s1) _ λy H2 s2 ry=>by
  cases ry
  have r2:Reps K H2 xs ds:=(r1.mono T6).mono s2
  refine⟨p,k,xs,rfl,rfl,s2 _ _ e1,h1,h2,by rw[r2.length];exact hl,λp' hp'=>?_⟩
  exact q p' _ _ (L2.Same.tr (L2.Same.tr s1 s2) (D3 hp')) (Q7 (L2.Same.tr s1 s2) hp') B7 (aB3 (I.grow (L2.Same.tr s1 s2)).lists hp' (r2.rep _) (bH1 hi _))
end
section
variable {K:PySem.W.Frag}{ρ ρ' ρ1:List Sl}{m m':Bool}{t ta tb tc:TE}{d d':PyData}{ds es:List PyData}
theorem bM1 {H:Hp}:∀{ts:List (List Int)} {vs:List V},Reps K H vs (ts.map tI)->(∀t∈ts,t≠[])->TupsV K H vs ts
 | [],_,r,_=>by cases r;exact trivial
 | t::ts,_,r,h=>by
  cases r with
  | cons a b=>
   refine⟨?_,bM1 b λt ht=>h t (by simp[ht])⟩
   cases a with
   | tup s r=>rw[r.ints]at s;exact⟨_,rfl,s,h t (by simp)⟩
theorem aW4 {H:Hp}{vs:List V}{ts:List (List Int)}(r:Reps K H vs (ts.map tI)):∀{q:List Nat},(∀i∈q,i<vs.length)->Reps K H (q.map λi=>vs.getD i .non) ((q.map λi=>ts.getD i []).map tI)
 | [],_=>.nil
 | i::q,h=>by
  have hi:=h i (by simp)
  have hl:=r.length
  rw[Aa3]at hl;obtain ⟨v,h1,h2⟩:=r.get' (i:=i) (d:=tI (ts.getD i [])) (by
   rw[Aa9,Aa2 (by omega)]
   simp[List.getD,Aa2 (show i<ts.length by omega)])
  have e:vs.getD i .non=v:=by simp[List.getD,h1]
  rw[Ac6,Ac6,Ac6,e];exact .cons h2 (aW4 r λj hj=>h j (by simp[hj]))
theorem bJ8 {t:TA}{ts ss:List (List Int)}(ha:A K false t ρ [.list (ts.map tI)])(hne:∀t∈ts,t≠[])(h64:ts.length<64)(hp:ss.Perm ts)(hs:ss.Pairwise H9) :
  EF K (tCB (λxs H Q=>∃(p:Addr) (ys:List V) (ts:List (List Int)),xs=[.ref p]/\SqL K H p ys/\TupsV K H ys ts/\ys.length<64 /\
   ∀a (q:List Nat),H a=none->q.Perm (List.range ys.length)->(q.map λi=>ts.getD i []).Pairwise H9->Q (.ref a) (upd H a (.lst (q.map λi=>ys.getD i .non)))) t) ρ (ss.map tI):=
 cZ8 ha (aC0 bQ7 ss) λH vs Q r q=>by
  cases r with
  | cons a b=>
   cases b
   cases a with
   | @lst p xs _ s r=>
    have hl:=r.length
    rw[Aa3]at hl;refine⟨p,xs,ts,rfl,s,bM1 r hne,by omega,λa qs h1 h2 h3=>q a _ h1 ?_⟩
    have e:(qs.map λi=>ts.getD i [])=ss:=by
     have hperm:(qs.map λi=>ts.getD i []).Perm ts:=by
      have h4:(qs.map λi=>ts.getD i []).Perm ((List.range xs.length).map λi=>ts.getD i []):=h2.map _
      have h5:(List.range xs.length).map (λi=>ts.getD i [])=ts:=by
       refine List.ext_getElem? λj=>?_
       by_cases hj:j<xs.length
       ·rw[T1 hj];simp[List.getD,Aa2 (show j<ts.length by omega)]
       ·rw[Ad4 (by simp;omega),Ad4 (by omega)]
      rw[h5]at h4;exact h4
     exact List.Perm.eq_of_pairwise (le:=H9) (λa b _ _ h1 h2=>aR9 a b h1 h2) h3 hs (hperm.trans hp.symm)
    have:=aW4 r (q:=qs) λi hi=>Ab5.mp (h2.mem_iff.mp hi)
    rw[e]at this;exact this
end
end LV
namespace K01
open PySem L2 LV PyProof.Rows
theorem aV3:D6 ["_law_cell", "_law_k"] ["_law_cell", "_law_k"] (A6 P8):=⟨rfl,rfl,rfl,by decide +kernel,rfl,by decide +kernel,by decide +kernel⟩
theorem cO0 {i j:Int}(h : -1000000000000000000<i/\i<1000000000000000000)(h' : -1000000000000000000<j/\j<1000000000000000000):CMulB i j:=by
 have:(1000000000000000000:Nat)<2^512:=by decide
 constructor <;> omega
def mx0 (c k:Int):Int:=(c % 1000000007*(k+3)*48271+(k+1)*(k+5)*69621) % 2147483647
def mx (c k:Int):Int:=mx0 c k*40692 % 2147483399
theorem dN5 (c k:Int):0<=mx0 c k/\mx0 c k<2147483647:=⟨Int.emod_nonneg _ (by decide),Int.emod_lt_of_pos _ (by decide)⟩
theorem dO8 (c k:Int):0<=mx c k/\mx c k<2147483399:=⟨Int.emod_nonneg _ (by decide),Int.emod_lt_of_pos _ (by decide)⟩
def bK2 (ds:List PyData)(d:PyData):Prop:=∃c k,(0<=k/\k<=1000)/\ds=[.int c,.int k]/\d=.int (mx c k)
theorem cN4 {x y A B:Int}(h:0<=x/\x<=A)(h':0<=y/\y<=B):0<=x*y/\x*y<=A*B:=⟨Int.mul_nonneg h.1 h'.1,Int.mul_le_mul h.2 h'.2 h'.1 (Int.le_trans h.1 h.2)⟩
section
variable {P:Program}{w:World}{K:PySem.W.Frag}{mg:Str->Option Value}{base:Heap}{a:Ad}
theorem aQ2 (T:Tx K mg a):E3 P w K mg base CX0 1 a.u6 a.y9 ["_law_cell", "_law_k"] (spV K bK2):=by
 refine T.W9.ok aV3 (aE1 λds d ⟨_,_,_,e,_⟩=>by rw[e];rfl) (λcdv A outer s H vs Q E hr h=>?_)
 obtain ⟨ds,S,d,hS,r,⟨c,k,⟨h0,h1⟩,rfl,rfl⟩,q⟩:=h;have b1:0<=c % 1000000007/\c % 1000000007<=1000000007:=⟨Int.emod_nonneg _ (by decide),Int.le_of_lt (Int.emod_lt_of_pos _ (by decide))⟩
 have b2:=cN4 b1 (y:=k+3) (B:=2000) ⟨by omega,by omega⟩
 have b3:=cN4 (x:=k+1) (A:=2000) (y:=k+5) (B:=2000) ⟨by omega,by omega⟩ ⟨by omega,by omega⟩
 have b4:=dN5 c k
 refine⟨_,(A9 (E2 (B4 d7 (B4 aJ7 (B4 d7 (B4 J8 (B4 aJ7 (B4 aJ7 (B4 d7 (pv 0) A5) (B4 J8 (pv 1) A5)) A5) (B4 aJ7 (B4 aJ7 (B4 J8 (pv 1) A5) (B4 J8 (pv 1) A5)) A5)) A5) A5) A5))),S3 hS r ?_ q⟩;refine U4 (d:=.int (mx c k)) (e_i (e_i (i:=mx0 c k) (e_i (O6 (e_i (e_i (e_i (A1 rfl) A8 ?_) (O6 (A1 rfl) A8) ?_) A8 ?_) (e_i (e_i (O6 (A1 rfl) A8) (O6 (A1 rfl) A8) ?_) A8 ?_)) A8 ?_) A8 (cO0 (by omega) (by omega))) A8 (by decide)) rfl
 ·decide
 ·exact cO0 (by omega) (by omega)
 ·exact cO0 (by omega) (by omega)
 ·exact cO0 (by omega) (by omega)
 ·exact cO0 (by omega) (by omega)
 ·decide
end
end K01
namespace TT
def pk:Nat->Int->List Nat->List Nat
 | 0,_,_=>[]
 | n+1,r,l=>l.getD (r % l.length).toNat 0::pk n (r / l.length) (l.eraseIdx (r % l.length).toNat)
theorem bW9 {r:Int}{l:List Nat}(h:l≠[]):(r % l.length).toNat<l.length:=by
 have hl:0<l.length:=List.length_pos_iff.mpr h
 have h1:=Int.emod_nonneg r (b:=(l.length:Int)) (by omega)
 have h2:=Int.emod_lt_of_pos r (b:=(l.length:Int)) (by omega)
 omega
theorem Z3:∀(l:List Nat) (i:Nat) (h:i<l.length),(l[i]::l.eraseIdx i).Perm l
 | a::l,0,h=>.refl _
 | a::l,i+1,h=>by
  have ih:=Z3 l i (by simpa using h)
  simp only[List.getElem_cons_succ,List.eraseIdx_cons_succ];exact(List.Perm.swap _ _ _).trans (ih.cons a)
theorem bE5:∀(n:Nat) (r:Int) (l:List Nat),l.length=n->(pk n r l).Perm l
 | 0,r,l,h=>by rw[List.length_eq_zero_iff.mp h];exact .nil
 | n+1,r,l,h=>by
  have hne:l≠[]:=λe=>by rw[e]at h;simp at h
  have hi:=bW9 (r:=r) hne
  unfold pk;have e:l.getD (r % l.length).toNat 0=l[(r % l.length).toNat]:=by simp[List.getD,Aa2 hi]
  rw[e];have ih:=bE5 n (r / l.length) (l.eraseIdx (r % l.length).toNat) (by rw[List.length_eraseIdx_of_lt hi];omega)
  exact(ih.cons _).trans (Z3 l _ hi)
theorem dL4 {m:Nat}{l:List Nat}(h:l.Perm ((List.range m).map (· + 3))):Nm (m+3) λv=>([0,1,2]++l).getD v 0:=by
 have hl:l.length=m:=by rw[h.length_eq];simp
 have nd:([0,1,2]++l).Nodup:=by
  have h1:l.Nodup:=h.nodup_iff.mpr (Ad8.mpr (List.nodup_range.imp λh e=>h (by omega)))
  have h2:∀x∈l,3<=x:=λx hx=>by
   obtain ⟨y,_,e⟩:=Aa8.mp (h.mem_iff.mp hx);omega
  refine Aa4.mpr ⟨by decide,h1,λa ha b hb e=>?_⟩
  have:=h2 b hb
  simp at ha;omega
 have lt:∀x∈[0,1,2]++l,x<m+3:=λx hx=>by
  rcases Aa0.mp hx with hx | hx
  ·simp at hx;omega
  ·obtain ⟨y,hy,e⟩:=Aa8.mp (h.mem_iff.mp hx)
   have:=Ab5.mp hy
   omega
 have len:([0,1,2]++l).length=m+3:=by simp[hl]
 have at_:∀v,(hv:v<m+3)->([0,1,2]++l).getD v 0=([0,1,2]++l)[v]'(by omega):=λv hv=>by rw[Ac0,Aa2 (by omega)];rfl
 refine⟨λv hv=>?_,λv w hv hw e=>?_,rfl,rfl,rfl⟩
 ·show([0,1,2]++l).getD v 0<m+3
  rw[at_ v hv];exact lt _ (List.getElem_mem _)
 ·have e:([0,1,2]++l).getD v 0=([0,1,2]++l).getD w 0:=e
  rw[at_ v hv,at_ w hw]at e;exact(List.getElem_inj nd).mp e
end TT
namespace K01
open PySem L2 LV PyProof.Rows
theorem sc__law_names:D6 ["_law_cell", "_law_m", "_law_names_here", "_law_rest", "_law_k", "_law_left", "_law_ranks"] ["_law_cell", "_law_m"] (A6 Q5):=⟨rfl,rfl,rfl,by decide +kernel,rfl,by decide +kernel,by decide +kernel⟩
def rs (c:Int):Nat->Int
 | 0=>c / 2
 | j+1=>rs c j / 4096
def prs (c:Int)(m:Nat):List (List Int):=(List.range m).map λ(k:Nat)=>[mx c (40+(k:Int)),(k:Int)]
def srt (c:Int)(m:Nat):List (List Int):=(prs c m).mergeSort λa b => !HT.Y0 b a
def nm (c:Int)(m:Nat):List Nat:=[0,1,2]++(if c % 2=1 then TT.pk m (rs c m) ((List.range m).map (· + 3)) else(srt c m).map λt=>(t.getD 1 0).toNat+3)
theorem aC1 (c:Int)(m:Nat):(srt c m).Perm (prs c m):=List.mergeSort_perm _ _
theorem cM0 (c:Int)(m:Nat):(srt c m).Pairwise H9:=by
 have:=List.pairwise_mergeSort (le:=λa b:List Int => !HT.Y0 b a) (λa b d h1 h2=>by
  have:=aD0 a b d (by unfold H9;simpa using h1) (by unfold H9;simpa using h2)
  unfold H9 at this;simp[this]) (λa b=>by
  rcases aX9 a b with h | h <;> unfold H9 at h <;> simp[h]) (prs c m)
 refine this.imp λh=>?_
 unfold H9;simpa using h
theorem dK9 (c:Int)(m:Nat):TT.Nm (m+3) λv=>(nm c m).getD v 0:=by
 unfold nm;refine TT.dL4 ?_;split
 ·exact TT.bE5 _ _ _ (by simp)
 ·refine((aC1 c m).map _).trans ?_
  have:(prs c m).map (λt=>(t.getD 1 0).toNat+3)=(List.range m).map (· + 3):=by
   unfold prs;rw[Ae0];rfl
  rw[this]
theorem dE1 (c:Int)(m:Nat):(nm c m).length=m+3:=by
 unfold nm;split
 ·rw[Ab7,(TT.bE5 m (rs c m) _ (by simp)).length_eq];simp;omega
 ·rw[Ab7,Aa3,(aC1 c m).length_eq];simp[prs];omega
def cN3 (ds es:List PyData):Prop:=∃(c:Int) (m:Nat),m<=20/\ds=[.int c,.int (m:Int)]/\es=nI (nm c m)
theorem aW8 {α β:Type}{f:α->β}:∀(l:List α) (n:Nat),(l.map f).eraseIdx n=(l.eraseIdx n).map f
 | [],n=>rfl
 | a::l,0=>rfl
 | a::l,n+1=>by simp[List.eraseIdx_cons_succ,aW8 l n]
def f1 (c:Int):PyData->Option PyData
 | .int k=>some (tI [mx c (40+k),k])
 | _=>none
def f2:PyData->Option PyData
 | .tuple [_,.int k]=>some (.int (3+k))
 | _=>none
theorem aC3 {α β:Type}{f g:α->Option β}:∀{l:List α},(∀x∈l,f x=g x)->l.filterMap f=l.filterMap g
 | [],_=>rfl
 | a::l,h=>by rw[List.filterMap_cons,List.filterMap_cons,h a (by simp),aC3 λx hx=>h x (by simp[hx])]
theorem dE0 (c:Int)(m:Nat):(X7 0 m).filterMap (f1 c)=(prs c m).map tI:=by
 unfold X7 prs;rw[List.filterMap_map,Ae0,<- List.filterMap_eq_map];refine aC3 λx _=>?_
 show f1 c (.int (0+(x:Int)))=_
 rw[Int.zero_add];rfl
theorem bY5 {c:Int}{m:Nat}{t:List Int}(h:t∈srt c m):∃k:Nat,t=[mx c (40+(k:Int)),(k:Int)]:=by
 have:=(aC1 c m).mem_iff.mp h
 obtain ⟨k,_,e⟩:=Aa8.mp this;exact⟨k,e.symm⟩
theorem dC1 (c:Int)(m:Nat):((srt c m).map tI).filterMap f2=nI ((srt c m).map λt=>(t.getD 1 0).toNat+3):=by
 unfold nI;rw[List.filterMap_map,Ae0,<- List.filterMap_eq_map];refine aC3 λt ht=>?_
 obtain ⟨k,rfl⟩:=bY5 ht;show some (PyData.int (3+(k:Int)))=some (PyData.int ((((k:Int)).toNat+3:Nat):Int))
 congr 2
 omega
theorem nd1:(["_law_k", "_law_cell"]:List Str).Nodup:=by decide +kernel
theorem nd2:(["_law_rank"]:List Str).Nodup:=by decide +kernel
section
variable {P:Program}{w:World}{K:PySem.W.Frag}{mg:Str->Option Value}{base:Heap}{a:Ad}
theorem cR8 (T:Tx K mg a):E3 P w K mg base CX0 2 a.aA8 a.t6 ["_law_cell", "_law_m"] (spL K cN3):=by
 have G__law_mixed:E3 P w K mg base CX0 1 _ _ _ _:=aQ2 T
 refine T.aH2.ok sc__law_names (bS0 λds d ⟨_,_,_,e,_⟩=>by rw[e];rfl) (λcdv A outer s H vs Q E hr h=>?_)
 obtain ⟨ds,S,es,hS,r,⟨c,m,hm,rfl,rfl⟩,q⟩:=h;refine⟨_,(A4 (B5 (i:=2) sc__law_names.nd rfl (Or.inl rfl) (C5 (A0 A5 (A0 A5 (A0 A5 A3)))))
   (A4 (Y2 (G7 bN9 (B4 d7 (pv 0) A5) A5 (M4 _)) (A4 (B5 (i:=3) sc__law_names.nd rfl (Or.inl rfl) (B4 aD5 (pv 0) A5))
   (A4 (L6 PassesOwn.never rfl (G0 rfl T.E5 (A0 (pv 1) A3)) (B9 (i:=4) sc__law_names.nd rfl (Or.inl rfl)) (A9 (B5 (i:=3) sc__law_names.nd rfl (Or.inl rfl) (B4 aD5 (pv 3) A5))))
   (A4 (B5 (i:=5) sc__law_names.nd rfl (Or.inl rfl) (U6 (aU7 rfl) (by rfl) T.u4 boot_list (A0 (cT2 rfl T.E5 (A0 A5 (A0 (B4 J8 (pv 1) A5) A3))) A3)))
   (A4 (L6 PassesOwn.never rfl (G0 rfl T.E5 (A0 (pv 1) A3)) (B9 (i:=4) sc__law_names.nd rfl (Or.inl rfl)) (A4 (G3 (N6 Ab1 PySem.F.slot_list_append PySem.F.type_list_append D5 (pv 2) (A0 (N6 Ab1 PySem.F.slot_list_pop PySem.F.type_list_pop cG8 (pv 5) (A0 (B4 d7 (pv 3) (B6 L8 (by rfl) T.Q8 PySem.boot_len (A0 (pv 5) A3))) A3)) A3)))
   (A9 (B5 (i:=3) sc__law_names.nd rfl (Or.inl rfl) (B4 aD5 (pv 3) (B4 J8 (B6 L8 (by rfl) T.Q8 PySem.boot_len (A0 (pv 5) A3)) A5))))))
   (A9 (E2 (pv 2))))))) N4)
   (A4 (B5 (i:=6) sc__law_names.nd rfl (Or.inl rfl) (B6 (aR0 K) (by rfl) T.W0 boot_sorted (A0 (Z7 (T:=["_law_k"]) (N':=["_law_k", "_law_cell"]) (is:=[0]) rfl (.of rfl rfl rfl (by exact⟨rfl,trivial⟩) rfl rfl rfl (by first | exact⟨⟨_,rfl,.inl rfl,.inl rfl⟩,trivial⟩ | exact⟨⟨_,rfl,.inr rfl,.inl rfl⟩,trivial⟩)) (G0 rfl T.E5 (A0 (pv 1) A3)) (X1 (by decide)) λ_ _ _ _=>⟨(B9 (i:=0) nd1 rfl (Or.inl rfl)),i9,(J0 (A0 (C1 G__law_mixed (hr.mono (by decide)) rfl T.w9 T.W9.kp T.v7 .nil G6 (A0 (pv 1) (A0 (B4 J8 A5 (pv 0)) A3))) (A0 (pv 0) A3)))⟩) A3)))
   (A9 (E2 (B4 (P7 K) (pv 2) (Z7 (T:=["_law_rank"]) (N':=["_law_rank"]) (is:=[]) rfl (.of rfl rfl rfl trivial rfl rfl rfl trivial) (Z9 (pv 6)) (X1 (by decide)) λ_ _ _ _=>⟨(B9 (i:=0) nd2 rfl (Or.inl rfl)),i9,(B4 J8 A5 (B8 (ixK K) (pv 0) A5 (λ_ _=>rfl)))⟩))))))),aF7 hS r ?_ q⟩
 refine B0 (M2 (G8 (A2 A8 (A2 A8 (A2 A8 A7)))) ?_ (show 2<7 by decide))
 show W K _ [.val (.int c),.val (.int (m:Int)),.own (nI [0,1,2]),.no,.no,.no,.no] _
 refine B0 (aE6 (G4 (aJ3 (e_i (A1 rfl) A8 (by decide)) A8)) (λh=>?_) (λh=>R8 ?_))
 ·have h:c % 2=1:=of_decide_eq_true h
  refine B0 (L4 (d:=.int (rs c 0)) (e_i (A1 rfl) A8 ⟨by decide,by decide⟩) ?_)
  refine B0 (R6 (S4 (A2 (A1 rfl) A7) ?_ ?_) (λj ρ=>∃x4,x4.nb=true/\ρ=[.val (.int c),.val (.int (m:Int)),.own (nI [0,1,2]),.val (.int (rs c j)),x4,.no,.no]) ⟨.no,rfl,rfl⟩ ?_ ?_)
  ·omega
  ·omega
  ·rintro j d _ hd ⟨x4,b4,rfl⟩;obtain ⟨rfl,hj⟩:=S2 hd;refine⟨_,D1,?_⟩;exact L4 (d:=.int (rs c (j+1))) (e_i (A1 rfl) A8 ⟨by decide,by decide⟩) ⟨.val (.int (j:Int)),rfl,rfl⟩
  rintro _ ⟨x4,b4,rfl⟩;rw[O2,Ac7];refine B0 (M2 (ds:=nI ((List.range m).map (· + 3))) ?_ ?_ (show 5<7 by decide))
  ·have:=dC0 (K:=K) (ρ:=[.val (.int c),.val (.int (m:Int)),.own (nI [0,1,2]),.val (.int (rs c m)),x4,.no,.no]) (i:=3) (j:=(m:Int)+3) (A2 A8 (A2 (O6 (A1 (i:=1) rfl) A8) A7)) (by omega)
   have e:X7 3 ((m:Int)+3-3).toNat=nI ((List.range m).map (· + 3)):=by
    have e':((m:Int)+3-3).toNat=m:=by omega
    rw[e'];unfold X7 nI;rw[Ae0];refine List.map_congr_left λx _=>?_
    show PyData.int (3+(x:Int))=PyData.int ((x+3:Nat):Int)
    congr 1;omega
   rw[e]at this;exact this
  refine B0 (R6 (S4 (A2 (A1 rfl) A7) ?_ ?_) (λj ρ=>∃x4 pre l r,x4.nb=true/\TT.pk m (rs c m) ((List.range m).map (· + 3))=pre++TT.pk (m-j) r l/\l.length=m-j/\pre.length<=j/\ρ=[.val (.int c),.val (.int (m:Int)),.own (nI ([0,1,2]++pre)),.val (.int r),x4,.own (nI l),.no]) ⟨x4,[],(List.range m).map (· + 3),rs c m,b4,by simp,by simp,by simp,rfl⟩ ?_ ?_)
  ·omega
  ·omega
  ·rintro j d _ hd ⟨x4,pre,l,r0,b4,hpk,hll,hpl,rfl⟩;obtain ⟨rfl,hj⟩:=S2 hd;have hj:j<m:=by omega
   have hne:l≠[]:=λe=>by rw[e]at hll;simp at hll;omega
   have hpos:0<l.length:=List.length_pos_iff.mpr hne
   have hlt:=TT.bW9 (r:=r0) hne
   have hnn:=Int.emod_nonneg r0 (b:=(l.length:Int)) (by omega)
   generalize hn:(r0 % (l.length:Int)).toNat=n at hlt;refine⟨_,D1,?_⟩;show W K _ [.val (.int c),.val (.int (m:Int)),.own (nI ([0,1,2]++pre)),.val (.int r0),.val (.int (j:Int)),.own (nI l),.no] _;refine B0 (aM1 (i:=2) (j:=5) (ds:=nI ([0,1,2]++pre)) (d:=.int (l[n]:Nat)) (cN9 n (ds:=nI l) rfl (e_i (A1 rfl) (W6 (A2 (N7 rfl) A7)) ?_) ?_ ?_ ?_) rfl rfl ?_ ?_)
   ·rw[M0];omega
   ·rw[M0,<- hn];omega
   ·unfold nI;rw[Aa9,Aa2 hlt];rfl
   ·omega
   ·rw[M0];simp;unfold PySem.sizeLine;omega
   have el:(nI l).eraseIdx n=nI (l.eraseIdx n):=by unfold nI;rw[aW8]
   have el2:((nI (l.eraseIdx n)).length:Int)+1=(l.length:Int):=by rw[M0,List.length_eraseIdx_of_lt hlt];omega
   have ea:nI ([0,1,2]++pre)++[PyData.int (l[n]:Nat)]=nI ([0,1,2]++(pre++[l[n]])):=by simp[nI]
   show W K _ [.val (.int c),.val (.int (m:Int)),.own (nI ([0,1,2]++pre)++[PyData.int (l[n]:Nat)]),.val (.int r0),.val (.int (j:Int)),.own ((nI l).eraseIdx n),.no] _
   rw[el,ea];refine L4 (d:=.int (r0 / (l.length:Int))) ?_ ⟨.val (.int (j:Int)),pre++[l[n]],l.eraseIdx n,r0 / (l.length:Int),rfl,?_,?_,?_,rfl⟩
   ·rw[<- el2];exact e_i (A1 rfl) (O6 (W6 (A2 (N7 rfl) A7)) A8) ⟨by omega,by omega⟩
   ·rw[hpk];obtain ⟨k,hk⟩:∃k,m-j=k+1:=⟨m-j-1,by omega⟩
    have hk':m-(j+1)=k:=by omega
    rw[hk,hk'];show pre++(l.getD (r0 % (l.length:Int)).toNat 0::TT.pk k (r0 / (l.length:Int)) (l.eraseIdx (r0 % (l.length:Int)).toNat))=_;rw[hn,Ac0,Aa2 hlt]
    simp
   ·rw[List.length_eraseIdx_of_lt hlt];omega
   ·simp;omega
  rintro _ ⟨x4,pre,l,r0,b4,hpk,hll,hpl,rfl⟩;rw[O2,Ac7,Nat.sub_self]at hpk;refine bO9 (ds:=nI ([0,1,2]++pre)) rfl ?_;show nI _=nI (nm c m);unfold nm;rw[if_pos h,hpk];simp[TT.pk]
 have h:¬c % 2=1:=of_decide_eq_false h
 have hsl:(srt c m).length=m:=by rw[(aC1 c m).length_eq];simp[prs]
 have c1:=X0 (K:=K) (m:=true) (ρ:=[.val (.int c),.val (.int (m:Int)),.own (nI [0,1,2]),.no,.no,.no,.no]) (n:=1) (is:=[0]) (g:=W7 0) (tt:=bS2)
  (te:=bH7 (E9 (aT5 (spV K bK2) [] E0 (E9 (L5 1) (E9 (tOp (rI0 λi j=>V.int (i+j)) (tC (.int 40)) (L5 0)) W1))) (E9 (L5 0) W1))) (f1 c) (S4 (A2 (A1 (i:=1) rfl) A7) (by omega) (by omega)) (by rw[O2];unfold PySem.sizeLine;omega) (λd hd=>by
   obtain ⟨i,hi⟩:=List.mem_iff_getElem?.mp hd;obtain ⟨rfl,hi⟩:=S2 hi;have hi:i<m:=by omega
   exact⟨_,D1,aX5,U5 (A2 (G1 (A2 (A1 rfl) (A2 (O6 A8 (A1 rfl)) A7)) ⟨c,40+(i:Int),by omega,rfl,rfl⟩) (A2 (A1 rfl) A7))⟩)
 rw[Ac7,dE0]at c1;refine B0 (M2 (ds:=(srt c m).map tI) (bJ8 (ts:=prs c m) (A2 (EF.e' c1) A7) (λt ht=>?_) ?_ (aC1 c m) (cM0 c m)) ?_ (show 6<7 by decide))
 ·obtain ⟨k,_,rfl⟩:=Aa8.mp ht;simp
 ·simp[prs];omega
 show W K _ [.val (.int c),.val (.int (m:Int)),.own (nI [0,1,2]),.no,.no,.no,.own ((srt c m).map tI)] _
 have c2:=X0 (K:=K) (m:=false) (ρ:=[.val (.int c),.val (.int (m:Int)),.own (nI [0,1,2]),.no,.no,.no,.own ((srt c m).map tI)]) (n:=1) (is:=[]) (g:=W7 0) (tt:=bS2)
  (te:=tOp (rI0 λi j=>V.int (i+j)) (tC (.int 3)) (tOp (rIx K) (L5 0) (tC (.int 1)))) f2 (aB4 (N7 (i:=6) rfl)) (by rw[Aa3,hsl];unfold PySem.sizeLine;omega) (λd hd=>by
   obtain ⟨t,ht,rfl⟩:=Aa8.mp hd;obtain ⟨k,rfl⟩:=bY5 ht;exact⟨_,D1,aX5,O6 A8 (E7 (cP8 rfl) A8 rfl rfl)⟩)
 rw[dC1]at c2
 have:=aP9 (R:={nx:=λ_=>False,rl:=λe=>e=nI (nm c m)}) (bR4 (N7 (i:=2) rfl) (EF.e' c2) (O5 _) (O5 _) (by rw[M0,M0,Aa3,hsl];unfold PySem.sizeLine;simp;omega)) (by
  show _=nI (nm c m)
  unfold nm;rw[if_neg h,<- aK8])
 exact this
end
end K01
namespace TT
def pfg (N:Nat->Int):Nat->Nat×Nat
 | 0=>(0,0)
 | j+1=>((pfg N j).1+(N j % ((j:Int)+1-(pfg N j).1)).toNat,(pfg N j).2+(N j / 64 % ((((pfg N j).1+(N j % ((j:Int)+1-(pfg N j).1)).toNat:Nat):Int)+1-(pfg N j).2)).toNat)
def rF (N:Nat->Int)(j:Nat):Nat:=(pfg N (j+1)).1
def rG (N:Nat->Int)(j:Nat):Nat:=(pfg N (j+1)).2
theorem dL6 (N:Nat->Int):∀j,pv (rF N) j=(pfg N j).1
 | 0=>rfl
 | _+1=>rfl
theorem dL9 (N:Nat->Int):∀j,pv (rG N) j=(pfg N j).2
 | 0=>rfl
 | _+1=>rfl
theorem bI4 (N:Nat->Int)(j:Nat):rF N j=(pfg N j).1+(N j % ((j:Int)+1-(pfg N j).1)).toNat:=rfl
theorem cM2 (N:Nat->Int)(j:Nat):rG N j=(pfg N j).2+(N j / 64 % ((rF N j:Int)+1-(pfg N j).2)).toNat:=rfl
theorem bF0 (N:Nat->Int):∀j,(pfg N j).1<=j/\(pfg N j).2<=(pfg N j).1/\(pfg N (j+1)).1<=j/\(pfg N (j+1)).2<=(pfg N (j+1)).1
 | j=>by
  have base:(pfg N j).1<=j/\(pfg N j).2<=(pfg N j).1:=by
   cases j with
   | zero=>exact⟨Aa7 _,Aa7 _⟩
   | succ i=>
    have:=bF0 N i
    exact⟨by omega,this.2.2.2⟩
  have h1:rF N j<=j:=by
   rw[bI4];have h:=Int.emod_lt_of_pos (N j) (b:=(j:Int)+1-(pfg N j).1) (by omega)
   have h':=Int.emod_nonneg (N j) (b:=(j:Int)+1-(pfg N j).1) (by omega)
   omega
  have h3:(pfg N j).1<=rF N j:=by rw[bI4];omega
  have h2:rG N j<=rF N j:=by
   rw[cM2];have h:=Int.emod_lt_of_pos (N j / 64) (b:=(rF N j:Int)+1-(pfg N j).2) (by omega)
   have h':=Int.emod_nonneg (N j / 64) (b:=(rF N j:Int)+1-(pfg N j).2) (by omega)
   omega
  exact⟨base.1,base.2,h1,h2⟩
theorem r9 (N:Nat->Int)(m:Nat):Rws (rF N) (rG N) m where
 f1:=λi _=>by rw[dL6,bI4];omega
 f2:=λi _=>(bF0 N i).2.2.1
 g1:=λi _=>by rw[dL9,cM2];omega
 g2:=λi _=>(bF0 N i).2.2.2
end TT
namespace K01
open PySem L2 LV PyProof.Rows
theorem sc__law_built:D6 ["_law_cell", "_law_cells", "_law_m", "_law_first", "_law_second", "_law_rest", "_law_i", "_law_number", "_law_low", "_law_turns", "_law_outs", "_law_names_here", "_law_called", "_law_triples", "_law_v"] ["_law_cell", "_law_cells", "_law_m"] (A6 Q4):=⟨rfl,rfl,rfl,by decide +kernel,rfl,by decide +kernel,by decide +kernel⟩
def rr (c:Int)(j:Nat):Int:=if c % 2=1 then rs c j else c / 2
def nu (c:Int)(cells:List Int)(j:Nat):Int:=if c % 2=1 then rs c j % 4096 else mx (cl cells j) j
def nf (c:Int)(m:Nat)(v:Nat):Nat:=(nm c m).getD v 0
def cI3 (ds:List PyData)(d:PyData):Prop:=∃(c:Int) (cells:List Int) (m:Nat) (dr tr:List (List Nat)),m<=7/\TT.Bt (TT.rF (nu c cells)) (TT.rG (nu c cells)) m (nf c m) dr tr/\ds=[.int c,lI cells,.int (m:Int)]/\d=.tuple [.tuple (dr.map tN),.tuple (tr.map tN)]
def rb (c:Int)(cells:List Int)(m:Nat)(f g:List Int)(r:Int)(x6 x7 x8:Sl):List Sl:=[.val (.int c),.val (lI cells),.val (.int (m:Int)),.own (f.map PyData.int),.own (g.map PyData.int),.val (.int r),x6,x7,x8,.no,.no,.no,.no,.no,.no]
theorem cX8 {c:Int}{cells:List Int}{m:Nat}{f g:List Int}{r:Int}{x6 x7 x8:Sl}(h6:x6.nb=true)(h7:x7.nb=true)(h8:x8.nb=true):S6 (rb c cells m f g r x6 x7 x8)=true:=by
 unfold rb;simp only[Z1,h6,h7,h8,Bool.true_and];rfl
theorem aO2 (F:Nat->Nat)(j:Nat):fl F (j+1)=fl F j++[(F j:Int)]:=by simp[fl,List.range_succ]
def rc (c:Int)(cells:List Int)(m:Nat)(x3 x4 r:PyData)(x6 x7 x8:Sl)(tD oD:PyData)(nmD L T:List PyData)(x14:Sl):List Sl:=[.val (.int c),.val (lI cells),.val (.int (m:Int)),.val x3,.val x4,.val r,x6,x7,x8,.val tD,.val oD,.own nmD,.own L,.own T,x14]
theorem dA3 {c:Int}{cells:List Int}{m:Nat}{x3 x4 r:PyData}{x6 x7 x8:Sl}{tD oD:PyData}{nmD L T:List PyData}{x14:Sl}(h6:x6.nb=true)(h7:x7.nb=true)(h8:x8.nb=true)(h14:x14.nb=true):S6 (rc c cells m x3 x4 r x6 x7 x8 tD oD nmD L T x14)=true:=by
 unfold rc;simp only[Z1,h6,h7,h8,h14,Bool.true_and];rfl
def f3 (f:Nat->Nat):PyData->Option PyData
 | .int k=>some (.int (f k.toNat:Nat))
 | _=>none
theorem cL4 (f:Nat->Nat)(l:List Nat):(nI l).filterMap (f3 f)=nI (l.map f):=by
 unfold nI;rw[List.filterMap_map,Ae0,<- List.filterMap_eq_map];exact aC3 λx _=>rfl
theorem aQ5 {α:Type}(a:α):∀n:Nat,(List.replicate n [a]).flatten=List.replicate n a
 | 0=>rfl
 | n+1=>by rw[List.replicate_succ,List.flatten_cons,aQ5 a n];rfl
theorem EF.to {K:PySem.W.Frag}{t:TE}{ρ:List Sl}{ds es:List PyData}(h:LV.EF K t ρ ds)(e:ds=es):LV.EF K t ρ es:=e▸h
theorem dE5 {F G:Nat->Nat}{m v:Nat}(R:TT.Rws F G m)(hv:v<m+3):(TT.gst F G m).row v≠[]:=by
 have GI:=TT.V7 R m (Aa7 _)
 obtain ⟨p,hp⟩:=GI.inv.pe;by_cases h0:v=0
 ·subst h0;rw[TT.aJ5];simp
 ·by_cases h1:v=1
  ·subst h1;rw[TT.aT1];simp
  ·by_cases h2:v=2
   ·subst h2;rw[TT.aG0,hp];simp
   ·rw[TT.R9 (by omega) (by rw[GI.k];exact hv)];simp
theorem bW5 {c:Int}{m p:Nat}(h:p<m+3):atI (nI (nm c m)) (p:Int)=some (.int (nf c m p:Nat)):=by
 refine aA3 p rfl ?_;unfold nI nf;rw[Aa9,Ac0,Aa2 (by rw[dE1];exact h)];rfl
theorem bJ3 {L:List PyData}{f:Nat->Nat}{n j:Nat}{g:Nat->PyData}{x:PyData}(hj:f j<L.length)(inj:∀v,v<j->f v≠f j)(h:∀v,v<j->L[f v]? = some (g v))(hx:x=g j):∀v,v<j+1->(L.set (f j) x)[f v]? = some (g v):=λv hv=>by
 by_cases e:v=j
 ·subst e;rw[List.getElem?_set_self hj,hx]
 ·rw[Ac9 (λz=>inj v (by omega) z.symm)];exact h v (by omega)
theorem aQ6 {x:PyData}(hx:imm x=true):∀{L:List PyData} (n:Nat),M1 L=true->M1 (L.set n x)=true
 | [],_,h=>h
 | a::L,0,h=>by simp[M1]at h ⊢;exact⟨hx,h.2⟩
 | a::L,n+1,h=>by simp[M1]at h ⊢;exact⟨h.1,aQ6 hx n h.2⟩
theorem cL1 (l:List Nat):imm (tN l)=true:=by unfold tN;simp[imm,O5]
theorem nd3:(["_law_place", "_law_names_here"]:List Str).Nodup:=by decide +kernel
section
variable {P:Program}{w:World}{K:PySem.W.Frag}{mg:Str->Option Value}{base:Heap}{a:Ad}
theorem cK3 (T:Tx K mg a):E3 P w K mg base CX0 3 a.u3 a.z6 ["_law_cell", "_law_cells", "_law_m"] (spV K cI3):=by
 have G__law_mixed:E3 P w K mg base CX0 1 _ _ _ _:=aQ2 T
 have G__law_cell_at:E3 P w K mg base CX0 1 _ _ _ _:=bW3 T
 have G__law_grown:E3 P w K mg base CX0 1 _ _ _ _:=cI0 T
 have G__law_names:E3 P w K mg base CX0 2 _ _ _ _:=cR8 T
 have G__law_begun:E3 P w K mg base CX0 1 _ _ _ _:=bL0 T
 refine T.v4.ok sc__law_built (aE1 λds d ⟨_,_,_,_,_,_,_,e,_⟩=>by rw[e];rfl) (λcdv A outer s H vs Q E hr h=>?_)
 obtain ⟨ds,S,d,hS,r,⟨c,cells,m,dr,tr,hm,B,rfl,rfl⟩,q⟩:=h;refine⟨_,(A4 (B5 (i:=3) sc__law_built.nd rfl (Or.inl rfl) (C5 A3))
   (A4 (B5 (i:=4) sc__law_built.nd rfl (Or.inl rfl) (C5 A3))
   (A4 (B5 (i:=5) sc__law_built.nd rfl (Or.inl rfl) (B4 aD5 (pv 0) A5))
   (A4 (L6 PassesOwn.never rfl (G0 rfl T.E5 (A0 (pv 2) A3)) (B9 (i:=6) sc__law_built.nd rfl (Or.inl rfl)) (A4 (B5 (i:=7) sc__law_built.nd rfl (Or.inl rfl) (C1 G__law_mixed (hr.mono (by decide)) rfl T.w9 T.W9.kp T.v7 .nil G6 (A0 (C1 G__law_cell_at (hr.mono (by decide)) rfl T.T7 T.O8.kp T.U2 .nil G6 (A0 (pv 1) (A0 (pv 6) A3))) (A0 (pv 6) A3))))
   (A4 (Y2 (G7 bN9 (B4 d7 (pv 0) A5) A5 (M4 _)) (A4 (B5 (i:=7) sc__law_built.nd rfl (Or.inl rfl) (B4 d7 (pv 5) A5))
   (A9 (B5 (i:=5) sc__law_built.nd rfl (Or.inl rfl) (B4 aD5 (pv 5) A5)))) N4)
   (A4 (B5 (i:=8) sc__law_built.nd rfl (Or.inl rfl) (bJ9 (G7 aW9 (pv 6) A5 (M4 _)) (B8 C2 (pv 3) (aI0 p8 A5) (λ_ _=>rfl)) A5))
   (A4 (G3 (N6 Ab1 PySem.F.slot_list_append PySem.F.type_list_append D5 (pv 3) (A0 (B4 J8 (pv 8) (B4 d7 (pv 7) (B4 X8 (B4 J8 (pv 6) A5) (pv 8)))) A3)))
   (A4 (B5 (i:=8) sc__law_built.nd rfl (Or.inl rfl) (bJ9 (G7 aW9 (pv 6) A5 (M4 _)) (B8 C2 (pv 4) (aI0 p8 A5) (λ_ _=>rfl)) A5))
   (A9 (G3 (N6 Ab1 PySem.F.slot_list_append PySem.F.type_list_append D5 (pv 4) (A0 (B4 J8 (pv 8) (B4 d7 (B4 aD5 (pv 7) A5) (B4 X8 (B4 J8 (B8 C2 (pv 3) (aI0 p8 A5) (λ_ _=>rfl)) A5) (pv 8)))) A3))))))))))
   (A4 (bA6 (C1 G__law_grown (hr.mono (by decide)) rfl T.aZ8 T.aH4.kp T.bF2 .nil G6 (A0 (pv 3) (A0 (pv 4) A3))) (bQ4 (n:=2) rfl (Y9 (B9 (i:=9) sc__law_built.nd rfl (Or.inl rfl)) (Y9 (B9 (i:=10) sc__law_built.nd rfl (Or.inl rfl)) bE6))))
   (A4 (B5 (i:=11) sc__law_built.nd rfl (Or.inr rfl) (C1 G__law_names (hr.mono (by decide)) rfl T.bF3 T.aH2.kp T.bA5 .nil G6 (A0 (pv 0) (A0 (pv 2) A3))))
   (A4 (B5 (i:=12) sc__law_built.nd rfl (Or.inl rfl) (B4 cF6 (C5 (A0 (J0 A3) A3)) (B4 J8 (pv 2) A5)))
   (A4 (B5 (i:=13) sc__law_built.nd rfl (Or.inl rfl) (B4 cF6 (C5 (A0 (J0 A3) A3)) (pv 2)))
   (A4 (L6 PassesOwn.never rfl (G0 rfl T.E5 (A0 (B4 J8 (pv 2) A5) A3)) (B9 (i:=14) sc__law_built.nd rfl (Or.inl rfl)) (A9 (bA6 (C1 G__law_begun (hr.mono (by decide)) rfl T.aK1 T.p9.kp T.aJ4 .nil G6 (A0 (Z7 (T:=["_law_place"]) (N':=["_law_place", "_law_names_here"]) (is:=[11]) rfl (.of rfl rfl rfl (by exact⟨rfl,trivial⟩) rfl rfl rfl (by first | exact⟨⟨_,rfl,.inl rfl,.inl rfl⟩,trivial⟩ | exact⟨⟨_,rfl,.inr rfl,.inl rfl⟩,trivial⟩)) (Z9 (B8 C2 (pv 9) (pv 14) (λ_ _=>rfl))) (X1 (by decide)) λ_ _ _ _=>⟨(B9 (i:=0) nd3 rfl (Or.inl rfl)),i9,(B8 (ixK K) (pv 1) (pv 0) (λ_ _=>rfl))⟩) A3)) (bS8 (pv 12) (B8 C2 (pv 11) (pv 14) (λ_ _=>rfl)) aR2))))
   (A4 (L6 PassesOwn.never rfl (G0 rfl T.E5 (A0 (pv 2) A3)) (B9 (i:=14) sc__law_built.nd rfl (Or.inl rfl)) (A9 (bA6 (U6 R3 (by rfl) T.T5 boot_tuple (A0 (Z7 (T:=["_law_place"]) (N':=["_law_place", "_law_names_here"]) (is:=[11]) rfl (.of rfl rfl rfl (by exact⟨rfl,trivial⟩) rfl rfl rfl (by first | exact⟨⟨_,rfl,.inl rfl,.inl rfl⟩,trivial⟩ | exact⟨⟨_,rfl,.inr rfl,.inl rfl⟩,trivial⟩)) (Z9 (B8 C2 (pv 10) (pv 14) (λ_ _=>rfl))) (X1 (by decide)) λ_ _ _ _=>⟨(B9 (i:=0) nd3 rfl (Or.inl rfl)),i9,(B8 (ixK K) (pv 1) (pv 0) (λ_ _=>rfl))⟩) A3)) (bS8 (pv 13) (B4 X8 (B8 C2 (pv 11) (B4 J8 A5 (pv 14)) (λ_ _=>rfl)) A5) aR2))))
   (A9 (E2 (J0 (A0 (U6 R3 (by rfl) T.T5 boot_tuple (A0 (pv 12) A3)) (A0 (U6 R3 (by rfl) T.T5 boot_tuple (A0 (pv 13) A3)) A3))))))))))))))),S3 hS r ?_ q⟩
 generalize hN:nu c cells=N at B;refine B0 (M2 (G8 A7) ?_ (show 3<15 by decide))
 refine B0 (M2 (G8 A7) ?_ (show 4<15 by decide))
 refine B0 (L4 (d:=.int (c / 2)) (e_i (A1 rfl) A8 ⟨by decide,by decide⟩) ?_)
 have r0:rr c 0=c / 2:=by unfold rr rs;split <;> rfl
 rw[<- r0];refine B0 (R6 (S4 (A2 (A1 rfl) A7) ?_ ?_) (λj ρ=>∃x6 x7 x8,(x6.nb=true/\x7.nb=true/\x8.nb=true)/\ρ=rb c cells m (fl (TT.rF N) j) (fl (TT.rG N) j) (rr c j) x6 x7 x8) ⟨.no,.no,.no,⟨rfl,rfl,rfl⟩,rfl⟩ ?_ ?_)
 ·omega
 ·omega
 ·rintro j d _ hd ⟨x6,x7,x8,⟨b6,b7,b8⟩,rfl⟩;obtain ⟨rfl,hj⟩:=S2 hd;have hj:j<m:=by omega
  have PF:=TT.bF0 N j
  have nuj:N j=nu c cells j:=by rw[hN]
  have nn:0<=N j:=by
   rw[nuj];unfold nu;split
   ·exact Int.emod_nonneg _ (by decide)
   ·exact(dO8 _ _).1
  refine⟨_,D1,?_⟩;refine B0 (L4 (d:=.int (mx (cl cells j) j)) (G1 (A2 (G1 (A2 (A1 rfl) (A2 (A1 rfl) A7)) ⟨cells,j,by omega,rfl,rfl⟩) (A2 (A1 rfl) A7)) ⟨_,j,by omega,rfl,rfl⟩) ?_)
  show W K _ (rb c cells m (fl (TT.rF N) j) (fl (TT.rG N) j) (rr c j) (.val (.int (j:Int))) (.val (.int (mx (cl cells j) j))) x8) _
  refine B0 (cY1 (rb c cells m (fl (TT.rF N) j) (fl (TT.rG N) j) (rr c (j+1)) (.val (.int (j:Int))) (.val (.int (N j))) x8) (G4 (aJ3 (e_i (A1 rfl) A8 (by decide)) A8)) (λh=>B0 (L4 (d:=.int (rr c j % 4096)) (e_i (A1 rfl) A8 (by decide)) (L4 (d:=.int (rr c j / 4096)) (e_i (A1 rfl) A8 ⟨by decide,by decide⟩) ?_))) (λh=>R8 ?_) ?_)
  ·have h:c % 2=1:=of_decide_eq_true h
   have e1:rr c (j+1)=rr c j / 4096:=by unfold rr;rw[if_pos h,if_pos h];rfl
   have e2:N j=rr c j % 4096:=by rw[nuj];unfold nu rr;rw[if_pos h,if_pos h]
   rw[e1,e2];rfl
  ·have h:¬c % 2=1:=of_decide_eq_false h
   have e1:rr c (j+1)=rr c j:=by unfold rr;rw[if_neg h,if_neg h]
   have e2:N j=mx (cl cells j) j:=by rw[nuj];unfold nu;rw[if_neg h]
   rw[e1,e2]
  have low:∀(X:Nat->Nat) (p:Nat),p=TT.pv X j->((j:Int)>0->atI ((fl X j).map PyData.int) (-1)=some (.int (p:Int))):=λX p hp h=>by
   obtain ⟨i,rfl⟩:∃i,j=i+1:=⟨j-1,by omega⟩
   rw[aO2,Ad1,hp];exact aH5
  refine B0 (L4 (d:=.int ((TT.pfg N j).1:Nat)) (dN2 (G4 (bF5 (A1 rfl) A8)) (λh=>LV.E.imm (E7 (N7 rfl) (aN1 A8) rfl (low (TT.rF N) _ (TT.dL6 N j).symm (of_decide_eq_true h)))) (λh=>?_)) ?_)
  ·have h:¬(j:Int)>0:=of_decide_eq_false h
   have:j=0:=by omega
   subst this;exact A8
  show W K _ (rb c cells m (fl (TT.rF N) j) (fl (TT.rG N) j) (rr c (j+1)) (.val (.int (j:Int))) (.val (.int (N j))) (.val (.int ((TT.pfg N j).1:Nat)))) _
  have eF:((TT.pfg N j).1:Int)+N j % ((j:Int)+1-((TT.pfg N j).1:Int))=(TT.rF N j:Int):=by
   rw[TT.bI4]
   have:=Int.emod_nonneg (N j) (b:=(j:Int)+1-(TT.pfg N j).1) (by omega)
   omega
  refine B0 (O0 rfl (O6 (A1 rfl) (e_i (A1 rfl) (O6 (O6 (A1 rfl) A8) (A1 rfl)) (by omega))) (by rw[Aa3];simp[fl];unfold PySem.sizeLine;omega) ?_ (cX8 rfl rfl rfl))
  rw[eF];have eF2:(fl (TT.rF N) j).map PyData.int++[PyData.int (TT.rF N j:Int)]=(fl (TT.rF N) (j+1)).map PyData.int:=by rw[aO2];simp
  rw[eF2];show W K _ (rb c cells m (fl (TT.rF N) (j+1)) (fl (TT.rG N) j) (rr c (j+1)) (.val (.int (j:Int))) (.val (.int (N j))) (.val (.int ((TT.pfg N j).1:Nat)))) _;refine B0 (L4 (d:=.int ((TT.pfg N j).2:Nat)) (dN2 (G4 (bF5 (A1 rfl) A8)) (λh=>LV.E.imm (E7 (N7 rfl) (aN1 A8) rfl (low (TT.rG N) _ (TT.dL9 N j).symm (of_decide_eq_true h)))) (λh=>?_)) ?_)
  ·have h:¬(j:Int)>0:=of_decide_eq_false h
   have:j=0:=by omega
   subst this;exact A8
  show W K _ (rb c cells m (fl (TT.rF N) (j+1)) (fl (TT.rG N) j) (rr c (j+1)) (.val (.int (j:Int))) (.val (.int (N j))) (.val (.int ((TT.pfg N j).2:Nat)))) _
  have rFj:TT.rF N j=(TT.pfg N (j+1)).1:=rfl
  have rFle:(TT.pfg N j).1<=TT.rF N j:=by rw[TT.bI4];omega
  have eG:((TT.pfg N j).2:Int)+N j / 64 % ((TT.rF N j:Int)+1-((TT.pfg N j).2:Int))=(TT.rG N j:Int):=by
   rw[TT.cM2]
   have:=Int.emod_nonneg (N j / 64) (b:=(TT.rF N j:Int)+1-(TT.pfg N j).2) (by omega)
   omega
  have hlF:atI ((fl (TT.rF N) (j+1)).map PyData.int) (-1)=some (.int (TT.rF N j:Int)):=by rw[aO2,Ad1];exact aH5
  refine O0 rfl (O6 (A1 rfl) (e_i (e_i (A1 rfl) A8 ⟨by decide,by decide⟩) (O6 (O6 (E7 (N7 rfl) (aN1 A8) rfl hlF) A8) (A1 rfl)) (by omega))) (by rw[Aa3];simp[fl];unfold PySem.sizeLine;omega) ?_ (cX8 rfl rfl rfl)
  rw[eG];have eG2:(fl (TT.rG N) j).map PyData.int++[PyData.int (TT.rG N j:Int)]=(fl (TT.rG N) (j+1)).map PyData.int:=by rw[aO2];simp
  rw[eG2];exact⟨.val (.int (j:Int)),.val (.int (N j)),.val (.int ((TT.pfg N j).2:Nat)),⟨rfl,rfl,rfl⟩,rfl⟩
 rintro _ ⟨x6,x7,x8,⟨b6,b7,b8⟩,rfl⟩;rw[O2,Ac7];refine aY7 (i:=3) rfl (aY7 (i:=4) rfl ?_);refine B0 (cZ6 (m:=true) (G1 (A2 (A1 rfl) (A2 (A1 rfl) A7)) ⟨TT.rF N,TT.rG N,m,TT.r9 N m,by omega,rfl,rfl⟩) (cF7 (aA0 D1 (aA0 D1 bR3))) ?_)
 refine B0 (M2 (Z4 (A2 (A1 rfl) (A2 (A1 rfl) A7)) ⟨c,m,by omega,rfl,rfl⟩) ?_ (show 11<15 by decide))
 have ND:=B.N
 have LT:=(TT.V7 (TT.r9 N m) m (Aa7 _)).inv.lt
 have LR:=TT.aO8 (TT.V7 (TT.r9 N m) m (Aa7 _)).inv
 rw[(TT.V7 (TT.r9 N m) m (Aa7 _)).k]at LT LR;refine B0 (M2 (ds:=List.replicate (m+3) (.tuple [])) ?_ ?_ (show 12<15 by decide))
 ·refine EF.to (cH3 (k:=(m:Int)+3) (ds:=[.tuple []]) (G8 (A2 (U5 A7) A7)) (O6 (A1 rfl) A8) rfl (by omega) (by omega) ?_) ?_
  ·show 1*((m:Int)+3).toNat<=_;unfold PySem.sizeLine;omega
  ·have e:((m:Int)+3).toNat=m+3:=by omega
   rw[aQ5,e]
 refine B0 (M2 (ds:=List.replicate m (.tuple [])) ?_ ?_ (show 13<15 by decide))
 ·refine EF.to (cH3 (k:=(m:Int)) (ds:=[.tuple []]) (G8 (A2 (U5 A7) A7)) (A1 rfl) rfl (by omega) (by omega) ?_) ?_
  ·show 1*(m:Int).toNat<=_;unfold PySem.sizeLine;omega
  ·rw[aQ5,Ac7]
 generalize htD:(PyData.list ((List.range (m+3)).map λv=>lN ((TT.gst (TT.rF N) (TT.rG N) m).row v)))=tD
 generalize hoD:(PyData.list ((List.range m).map λv=>lN [(TT.gst (TT.rF N) (TT.rG N) m).o0 (v+3),(TT.gst (TT.rF N) (TT.rG N) m).o1 (v+3),(TT.gst (TT.rF N) (TT.rG N) m).o2 (v+3)]))=oD
 show W K _ (rc c cells m (lI (fl (TT.rF N) m)) (lI (fl (TT.rG N) m)) (.int (rr c m)) x6 x7 x8 tD oD (nI (nm c m)) (List.replicate (m+3) (.tuple [])) (List.replicate m (.tuple [])) .no) _
 have sqt:sq tD=some ((List.range (m+3)).map λv=>lN ((TT.gst (TT.rF N) (TT.rG N) m).row v)):=by rw[<- htD];rfl
 have sqo:sq oD=some ((List.range m).map λv=>lN [(TT.gst (TT.rF N) (TT.rG N) m).o0 (v+3),(TT.gst (TT.rF N) (TT.rG N) m).o1 (v+3),(TT.gst (TT.rF N) (TT.rG N) m).o2 (v+3)]):=by rw[<- hoD];rfl
 have imr:∀n:Nat,M1 (List.replicate n (PyData.tuple []))=true:=λn=>by
  induction n with
  | zero=>rfl
  | succ n ih=>rw[List.replicate_succ];simp[M1,ih];rfl
 refine B0 (R6 (S4 (A2 (O6 (A1 rfl) A8) A7) ?_ ?_) (λj ρ=>∃x14 L,x14.nb=true/\L.length=m+3/\M1 L=true/\(∀v,v<j->L[nf c m v]? = some (tN (TT.W5 (((TT.gst (TT.rF N) (TT.rG N) m).row v).map (nf c m)))))/\ρ=rc c cells m (lI (fl (TT.rF N) m)) (lI (fl (TT.rG N) m)) (.int (rr c m)) x6 x7 x8 tD oD (nI (nm c m)) L (List.replicate m (.tuple [])) x14) ⟨.no,_,rfl,by simp,imr _,λv hv=>by omega,rfl⟩ ?_ ?_)
 ·omega
 ·omega
 ·rintro j d _ hd ⟨x14,L,b14,hL,hiL,hv,rfl⟩;obtain ⟨rfl,hj⟩:=S2 hd;have hj:j<m+3:=by omega
  refine⟨_,D1,?_⟩;show W K _ (rc c cells m (lI (fl (TT.rF N) m)) (lI (fl (TT.rG N) m)) (.int (rr c m)) x6 x7 x8 tD oD (nI (nm c m)) L (List.replicate m (.tuple [])) (.val (.int (j:Int)))) _;have cm:=X0 (K:=K) (m:=true) (ρ:=rc c cells m (lI (fl (TT.rF N) m)) (lI (fl (TT.rG N) m)) (.int (rr c m)) x6 x7 x8 tD oD (nI (nm c m)) L (List.replicate m (.tuple [])) (.val (.int (j:Int)))) (n:=1) (is:=[11]) (g:=W7 0) (tt:=bS2) (te:=tOp (rIx K) (L5 1) (L5 0)) (f3 (nf c m)) (aB4 (ds:=nI ((TT.gst (TT.rF N) (TT.rG N) m).row j)) (E7 (A1 (i:=9) rfl) (A1 (i:=14) rfl) sqt (aG4 hj))) (by rw[M0];have:=LR j;unfold PySem.sizeLine;omega) (λd hd=>by
   obtain ⟨p,hp,rfl⟩:=Aa8.mp hd;exact⟨_,D1,aX5,LV.E.imm (d:=.int (nf c m p:Nat)) (E7 (cP8 rfl) (A1 rfl) rfl (bW5 (LT j p hp)))⟩)
  rw[cL4]at cm;refine cI8 (nf c m j) (G1 (A2 (EF.e' cm) A7) ⟨_,?_,?_,rfl,rfl⟩) rfl (E7 (N7 rfl) (A1 rfl) rfl (bW5 hj)) rfl ?_ ⟨.val (.int (j:Int)),L.set (nf c m j) (tN (TT.W5 (((TT.gst (TT.rF N) (TT.rG N) m).row j).map (nf c m)))),rfl,by rw[List.length_set];exact hL,aQ6 (cL1 _) _ hiL,bJ3 (n:=0) (by rw[hL];exact ND.lt j hj) (λv hv e=>by have:=ND.inj v j (by omega) hj e;omega) hv rfl,rfl⟩ (dA3 b6 b7 b8 rfl)
  ·intro e;exact dE5 (TT.r9 N m) hj (List.map_eq_nil_iff.mp e)
  ·rw[Aa3];have:=LR j;omega
  ·rw[hL];exact ND.lt j hj
 rintro _ ⟨x14,L,b14,hL,hiL,hv,rfl⟩;have e3:(X7 0 ((m:Int)+3).toNat).length=m+3:=by rw[O2];omega
 rw[e3]at hv;refine B0 (R6 (S4 (A2 (A1 rfl) A7) ?_ ?_) (λj ρ=>∃x14 T,x14.nb=true/\T.length=m/\M1 T=true/\(∀v,v<j->T[nf c m (v+3)-3]? = some (tN [nf c m ((TT.gst (TT.rF N) (TT.rG N) m).o0 (v+3)),nf c m ((TT.gst (TT.rF N) (TT.rG N) m).o1 (v+3)),nf c m ((TT.gst (TT.rF N) (TT.rG N) m).o2 (v+3))]))/\ρ=rc c cells m (lI (fl (TT.rF N) m)) (lI (fl (TT.rG N) m)) (.int (rr c m)) x6 x7 x8 tD oD (nI (nm c m)) L T x14) ⟨x14,_,b14,by simp,imr _,λv hv=>by omega,rfl⟩ ?_ ?_)
 ·omega
 ·omega
 ·rintro j d _ hd ⟨y14,T',c14,hT,hiT,hvT,rfl⟩;obtain ⟨rfl,hj⟩:=S2 hd;have hj:j<m:=by omega
  refine⟨_,D1,?_⟩;have rI:(TT.gst (TT.rF N) (TT.rG N) m).row (j+3)=_:=TT.R9 (by omega) (by rw[(TT.V7 (TT.r9 N m) m (Aa7 _)).k];omega)
  have l0:(TT.gst (TT.rF N) (TT.rG N) m).o0 (j+3)<m+3:=LT (j+3) _ (by rw[rI];simp)
  have l1:(TT.gst (TT.rF N) (TT.rG N) m).o1 (j+3)<m+3:=LT (j+3) _ (by rw[rI];simp)
  have l2:(TT.gst (TT.rF N) (TT.rG N) m).o2 (j+3)<m+3:=LT (j+3) _ (by rw[rI];simp)
  have ge3:3<=nf c m (j+3):=by
   have:=ND.lo (by omega) (q:=j+3) (by omega)
   omega
  have lt3:nf c m (j+3)<m+3:=ND.lt (j+3) (by omega)
  have hat:atI (nI (nm c m)) (3+(j:Int))=some (.int (nf c m (j+3):Nat)):=by
   rw[show(3:Int)+(j:Int)=((j+3:Nat):Int) by omega];exact bW5 (by omega)
  show W K _ (rc c cells m (lI (fl (TT.rF N) m)) (lI (fl (TT.rG N) m)) (.int (rr c m)) x6 x7 x8 tD oD (nI (nm c m)) L T' (.val (.int (j:Int)))) _
  have cm:=X0 (K:=K) (m:=true) (ρ:=rc c cells m (lI (fl (TT.rF N) m)) (lI (fl (TT.rG N) m)) (.int (rr c m)) x6 x7 x8 tD oD (nI (nm c m)) L T' (.val (.int (j:Int)))) (n:=1) (is:=[11]) (g:=W7 0) (tt:=bS2) (te:=tOp (rIx K) (L5 1) (L5 0)) (f3 (nf c m)) (aB4 (ds:=nI [(TT.gst (TT.rF N) (TT.rG N) m).o0 (j+3),(TT.gst (TT.rF N) (TT.rG N) m).o1 (j+3),(TT.gst (TT.rF N) (TT.rG N) m).o2 (j+3)]) (E7 (A1 (i:=10) rfl) (A1 (i:=14) rfl) sqo (aG4 hj))) (by rw[M0];show 3<_;unfold PySem.sizeLine;omega) (λd hd=>by
   obtain ⟨p,hp,rfl⟩:=Aa8.mp hd;have hp:p<m+3:=by
    rcases Aa1.mp hp with rfl | hp
    ·exact l0
    ·rcases Aa1.mp hp with rfl | hp
     ·exact l1
     ·rw[Ad6.mp hp];exact l2
   exact⟨_,D1,aX5,LV.E.imm (d:=.int (nf c m p:Nat)) (E7 (cP8 rfl) (A1 rfl) rfl (bW5 hp))⟩)
  rw[cL4]at cm;refine cI8 (nf c m (j+3)-3) (aG8 (A2 (EF.e' cm) A7) (O5 _)) rfl (O6 (E7 (N7 rfl) (O6 A8 (A1 rfl)) rfl hat) A8) (by omega) ?_ ⟨.val (.int (j:Int)),T'.set (nf c m (j+3)-3) (tN [nf c m ((TT.gst (TT.rF N) (TT.rG N) m).o0 (j+3)),nf c m ((TT.gst (TT.rF N) (TT.rG N) m).o1 (j+3)),nf c m ((TT.gst (TT.rF N) (TT.rG N) m).o2 (j+3))]),rfl,by rw[List.length_set];exact hT,aQ6 (cL1 _) _ hiT,bJ3 (n:=0) (f:=λv=>nf c m (v+3)-3) (g:=λv=>tN [nf c m ((TT.gst (TT.rF N) (TT.rG N) m).o0 (v+3)),nf c m ((TT.gst (TT.rF N) (TT.rG N) m).o1 (v+3)),nf c m ((TT.gst (TT.rF N) (TT.rG N) m).o2 (v+3))]) (by rw[hT];show nf c m (j+3)-3<m;omega) (λv hv e=>by
   have e:nf c m (v+3)-3=nf c m (j+3)-3:=e
   have g3:=ND.lo (by omega) (q:=v+3) (by omega)
   have:=ND.inj (v+3) (j+3) (by omega) (by omega) (by omega)
   omega) hvT rfl,rfl⟩ (dA3 b6 b7 b8 rfl)
  rw[hT];omega
 rintro _ ⟨y14,T',c14,hT,hiT,hvT,rfl⟩;rw[O2,Ac7]at hvT;refine U4 (U5 (A2 (aG8 (A2 (N7 rfl) A7) hiL) (A2 (aG8 (A2 (N7 rfl) A7) hiT) A7))) ?_;have eL:L=dr.map tN:=by
  refine List.ext_getElem? λz=>?_
  by_cases hz:z<m+3
  ·obtain ⟨v,hv1,rfl⟩:=ND.surj z hz;rw[hv v hv1,Aa9,B.dr v hv1];rfl
  ·rw[Ad4 (by omega),Ad4 (by rw[Aa3,B.dl];omega)]
 have eT:T'=tr.map tN:=by
  refine List.ext_getElem? λz=>?_
  by_cases hz:z<m
  ·obtain ⟨v,hv1,hv2⟩:=ND.surj (z+3) (by omega)
   have h3:3<=v:=by
    have:=ND.lo (by omega) hv1
    omega
   obtain ⟨u,rfl⟩:∃u,v=u+3:=⟨v-3,by omega⟩
   have hzz:z=nf c m (u+3)-3:=by omega
   rw[hzz,hvT u (by omega),Aa9,B.tr (u+3) h3 hv1];rfl
  ·rw[Ad4 (by omega),Ad4 (by rw[Aa3,B.tl];omega)]
 rw[eL,eT]
end
theorem dM9 {F G:Nat->Nat}{m:Nat}{f:Nat->Nat}(R:TT.Rws F G m)(N:TT.Nm (m+3) f):∃dr tr,TT.Bt F G m f dr tr:=by
 have ex:∀q,∃v,q<m+3->v<m+3/\f v=q:=λq=>by
  by_cases h:q<m+3
  ·obtain ⟨v,h1,h2⟩:=N.surj q h;exact⟨v,λ_=>⟨h1,h2⟩⟩
  ·exact⟨0,λz=>absurd z h⟩
 have ⟨g,hg⟩:∃g:Nat->Nat,∀q,q<m+3->g q<m+3/\f (g q)=q:=⟨λq=>Classical.choose (ex q),λq h=>Classical.choose_spec (ex q) h⟩
 have gf:∀v,v<m+3->g (f v)=v:=λv hv=>N.inj _ _ (hg _ (N.lt v hv)).1 hv (hg _ (N.lt v hv)).2
 refine⟨(List.range (m+3)).map λq=>TT.W5 (((TT.gst F G m).row (g q)).map f),(List.range m).map λq=>[f ((TT.gst F G m).o0 (g (q+3))),f ((TT.gst F G m).o1 (g (q+3))),f ((TT.gst F G m).o2 (g (q+3)))],R,N,by simp,λv hv=>?_,by simp,λv h3 hv=>?_⟩
 ·rw[T1 (N.lt v hv),gf v hv]
 ·have h:=N.lo (by omega) hv
  have hl:=N.lt v hv
  rw[T1 (by omega)]
  have e:f v-3+3=f v:=by omega
  rw[e,gf v hv]
end K01
namespace TT
variable {F G:Nat->Nat}{m:Nat}{f:Nat->Nat}{d t:List (List Nat)}
end TT
namespace LV
open PySem PyProof.Rows L2
end LV
namespace TT
variable {F G:Nat->Nat}{m:Nat}{f:Nat->Nat}{d t:List (List Nat)}
end TT
namespace TT
variable {F G:Nat->Nat}{m:Nat}{f:Nat->Nat}{d t:List (List Nat)}
end TT
namespace TT
end TT
namespace K01
open PySem L2 LV PyProof.Rows
theorem aS0 (l:List Nat):tN l=tI (l.map λ(x:Nat)=>(x:Int)):=by unfold tN tI nI;simp
structure Dw (m:Nat)(dr tr:List (List Nat)):Prop where
 m7:m<=7
 len:dr.length=m+3
 good:TT.Good (m+3) (TT.trn dr)
theorem bT7 {dr:List (List Nat)}{p:Nat}(h:p<dr.length):dr[p]? = some (TT.trn dr p):=by
 unfold TT.trn;rw[Aa2 h];rfl
def pD (x:Int×Int):PyData:=tI [x.1,x.2]
theorem bR6 (q:Int)(l:List Nat):(nI l).any (λz=>PyData.eqv z (.int q))=decide (q∈l.map λ(x:Nat)=>(x:Int)):=by
 unfold nI;induction l with
 | nil=>rfl
 | cons y l ih=>
  rw[Ac6,List.any_cons,ih,aO4];by_cases h:(y:Int)=q
  ·subst h;simp
  ·have:¬q=(y:Int):=λz=>h z.symm
   simp[h,this]
def td (dr:List (List Nat))(p q:Int):Bool:=(decide (0<=p)&&decide (p<(dr.length:Int)))&&decide (q∈(TT.trn dr p.toNat).map λ(x:Nat)=>(x:Int))
def cW5 (ds:List PyData)(d:PyData):Prop:=∃(dr:List (List Nat)) (p q:Int),ds=[.tuple (dr.map tN),.int p,.int q]/\d=.bool (td dr p q)
def cE5 (ts:List (List Int)):List (List Int):=ts.mergeSort λa b => !HT.Y0 b a
theorem V5 (ts:List (List Int)):(cE5 ts).Perm ts:=List.mergeSort_perm _ _
theorem aY5 (ts:List (List Int)):(cE5 ts).Pairwise H9:=by
 have:=List.pairwise_mergeSort (le:=λa b:List Int => !HT.Y0 b a) (λa b d h1 h2=>by
  have:=aD0 a b d (by unfold H9;simpa using h1) (by unfold H9;simpa using h2)
  unfold H9 at this;simp[this]) (λa b=>by
  rcases aX9 a b with h | h <;> unfold H9 at h <;> simp[h]) ts
 refine this.imp λh=>?_
 unfold H9;simpa using h
end K01
namespace L2
open PySem PySem.Spec PyProof.Rows
abbrev KvR:List (List Int×Addr×V)->List (List Int×Addr×Value)->Prop:=Paired (λp q=>p.1=q.1/\p.2.1=q.2.1/\RelV p.2.2 q.2.2)
def atK (kv:List (List Int×Addr×V))(k:List Int):Option V:=(kv.find? λx=>decide (x.1=k)).map (·.2.2)
def aT8 (kv:List (List Int×Addr×V))(k:List Int)(b:Addr)(v:V):List (List Int×Addr×V):=
 if(atK kv k).isSome then kv.map (λx=>if x.1=k then(x.1,x.2.1,v) else x) else kv++[(k,b,v)]
theorem aX4 {o:Option V}{u:Option Value}(r:cA7 o u):o.isSome=u.isSome:=by
 cases o <;> cases u <;> first | rfl | exact r.elim
theorem KvR.at_ {kv:List (List Int×Addr×V)}{xs:List (List Int×Addr×Value)}(r:KvR kv xs)(k:List Int):cA7 (atK kv k) ((atKey xs k).map (·.2)):=by
 induction r with
 | nil=>exact True.intro
 | @cons p q ps qs h t ih=>
  by_cases e:p.1=k
  ·have e':q.1=k:=h.1.symm.trans e
   simpa[atK,atKey,List.find?_cons,e,e',cA7]using h.2.2
  ·have e':¬q.1=k:=λz=>e (h.1.trans z)
   simpa[atK,atKey,List.find?_cons,e,e',cA7]using ih
theorem KvR.repl {kv:List (List Int×Addr×V)}{xs:List (List Int×Addr×Value)}(r:KvR kv xs)(k:List Int){y:V}{u:Value}(ry:RelV y u):KvR (kv.map λx=>if x.1=k then(x.1,x.2.1,y) else x) (xs.map (putAt k u)):=by
 induction r with
 | nil=>exact .nil
 | @cons p q ps qs h t ih=>
  rw[Ac6,Ac6];refine .cons ?_ ih;by_cases e:p.1=k
  ·have e':q.1=k:=h.1.symm.trans e
   rw[if_pos e,putAt,if_pos e'];exact⟨h.1.trans rfl |>.trans (by simp[e']),h.2.1,ry⟩
  ·have e':¬q.1=k:=λz=>e (h.1.trans z)
   rw[if_neg e,putAt,if_neg e'];exact h
theorem KvR.snoc {kv:List (List Int×Addr×V)}{xs:List (List Int×Addr×Value)}(r:KvR kv xs){p:List Int×Addr×V}{q:List Int×Addr×Value}(h:p.1=q.1/\p.2.1=q.2.1/\RelV p.2.2 q.2.2):KvR (kv++[p]) (xs++[q]):=by
 induction r with
 | nil=>exact .cons h .nil
 | cons a _ ih=>exact .cons a ih
theorem KvR.put {kv:List (List Int×Addr×V)}{xs:List (List Int×Addr×Value)}(r:KvR kv xs)(k:List Int)(b:Addr){y:V}{u:Value}(ry:RelV y u):KvR (aT8 kv k b y) (storedH xs k b u):=by
 have e:=aX4 (KvR.at_ r k)
 rw[Option.isSome_map]at e;unfold aT8 storedH;rw[e];split
 ·exact KvR.repl r k ry
 ·exact KvR.snoc r ⟨rfl,rfl,ry⟩
theorem KvR.mem {kv:List (List Int×Addr×V)}{xs:List (List Int×Addr×Value)}(r:KvR kv xs){x:List Int×Addr×Value}(h:x∈xs):∃y∈kv,y.1=x.1/\y.2.1=x.2.1:=by
 induction r with
 | nil=>cases h
 | @cons p q ps qs a _ ih=>
  rcases Aa1.mp h with rfl | h
  ·exact⟨p,by simp,a.1,a.2.1⟩
  ·obtain ⟨y,hy,e⟩:=ih h;exact⟨y,by simp[hy],e⟩
theorem cI1 (kv:List (List Int×Addr×V))(k:List Int)(b:Addr)(v:V):(aT8 kv k b v).length<=kv.length+1:=by
 unfold aT8;split <;> simp
theorem aZ3 {P:Program}{w:World}:∀{ks:List Int} {us:List Value},Vals (ks.map V.int) us->ItemsAre (intKind P w) ks us
 | [],_,r=>by rw[List.map_nil]at r;cases r;exact .nil
 | k::ks,_,r=>by
  rw[Ac6]at r;cases r with
  | cons h t=>
   obtain ⟨t',rfl⟩:=h;exact .cons (by show Value.isInt k (Value.int k t')=true;simp[Value.isInt]) (aZ3 t)
section
variable {X:Cx}{pins:List (Addr×Obj)}{σ:St}{H:Hp}{s:Shared}{a b:Addr}{ks:List Int}{kv:List (List Int×Addr×V)}
theorem aO6 (I:Inv X pins σ H s)(h:SqT X.K H b (ks.map V.int)):(tupleKind (intKind X.prog X.w)).is s.heap ks b:=by
 obtain ⟨its,r,⟨o,h1,h2,⟨n,h3⟩,_⟩,_⟩:=I.tuple0 h;exact⟨o,its.toArray,n,h1,h2,h3,by simpa using aZ3 r⟩
def cE8 (K:PySem.W.Frag)(H:Hp)(kv:List (List Int×Addr×V)):Prop:=∀z∈kv,SqT K H z.2.1 (z.1.map V.int)
theorem cR2 (I:Inv X pins σ H s)(e:H a=some (dicO a kv))(hk:cE8 X.K H kv):∃xs,KvR kv xs/\kv.length<=sizeLine/\(a==sysModules)=false/\s.heap.DictOfH (tupleKind (intKind X.prog X.w)) a xs:=by
 obtain ⟨⟨xs,r,z,hd,o,es,ep,h1,h2,h3,h4,h5⟩,_⟩:=(show ObjOk X.prog X.w H s.heap a (dicO a kv) from I.hok a _ e)
 refine⟨xs,r,z,hd,o,es,ep,h1,h2,h3,h4,λx hx=>?_,h5⟩
 obtain ⟨y,hy,e1,e2⟩:=KvR.mem r hx
 have:=aO6 I (hk y hy)
 rw[e1,e2]at this;exact this
def cJ9 (K:PySem.W.Frag)(neg:Bool):R2:=λx y H Q=>∃b a ks kv,x=.ref b/\SqT K H b (ks.map V.int)/\y=.ref a/\H a=some (dicO a kv)/\cE8 K H kv/\Q (.bl (xor neg (atK kv ks).isSome)) H
theorem bJ2 (K:PySem.W.Frag){k:Nat}(hr:Room k X.A)(h:X.K=K:=by rfl):OpR X (compareOp .NotIn) (cJ9 K true):=by
 subst h;intro pins s σ H x y v u Q I rx ry ⟨b,a,ks,kv,ex,hb,ey,ha,hk,q⟩;subst ex ey;cases (show v=Value.ref b from rx)
 cases (show u=Value.ref a from ry)
 obtain ⟨xs,r,z,hd,dd⟩:=cR2 I ha hk;refine wpAny_notIn_heap (tupleKind_room_in1 (by have:=hr.un;omega)) (aO6 I hb) hd dd ?_
 have e:=aX4 (KvR.at_ r ks)
 rw[Option.isSome_map]at e;rw[<- e];exact⟨.bl _,H,I.tok _,rfl,by simpa using q⟩
end
theorem bT9 {P:Program}{w:World}{H':Hp}{h':Heap}{a:Addr}{kv:List (List Int×Addr×V)}{xs:List (List Int×Addr×Value)}(r:KvR kv xs)(z:kv.length<=sizeLine)(hd:(a==sysModules)=false){o:Obj}{es:Array DictEntry}{ep:Nat}(h1:h'.get? a=some o)(h2:o.ExactDict)(h3:o.data=.dict es ep)
  (h4:es.toList=xs.map dEnt) (h5:(xs.map (·.1)).Nodup):ObjOk P w H' h' a (dicO a kv):=
 ⟨⟨xs,r,z,hd,o,es,ep,h1,h2,h3,h4,h5⟩,⟨o,h1⟩,λg1 g2 ⟨xs,r,z,hd,o,es,ep,h1,h2,h3,h4,h5⟩ k=>⟨xs,r,z,hd,o,es,ep,k _ h1,h2,h3,h4,h5⟩⟩
def bU4:TE:=λ_ H Q=>∀p,H p=none->Q (.ref p) (upd H p (dicO p []))
theorem _root_.L2.Inv.big' {X:Cx}{pins:List (Addr×Obj)}{σ:St}{H:Hp}{s:Shared}(I:Inv X pins σ H s):sysModules<s.heap.objs.size:=by
 have h:mainGlobals<s.heap.objs.size:=(I.mod.glob.keeps I.bk).lt
 exact Nat.lt_trans (by decide) h
theorem cB4 {X:Cx}{pos:Pos}:PE X (.Dict [] [] pos) bU4:=⟨λpins s σ H Q I h=>
 wpAny_Dict_empty ⟨.ref s.heap.objs.size,_,I.laid (a:=s.heap.objs.size) (o:=dicO s.heap.objs.size []) (t':=s.toks) (λ_ _ q=>Aa6 _ q) (Aa7 _)
  (bT9 .nil (Nat.zero_le _) (beq_eq_false_iff_ne.mpr (Ne.symm (Ab9 I.big'))) (Ac3 _ rfl) ⟨rfl,rfl,rfl⟩ rfl rfl List.nodup_nil),rfl,h _ (I.hok.fresh (Aa7 _))⟩⟩
def bU3 (K:PySem.W.Frag)(td ty tv:TE):TS:=λD σ H=>tv σ H λv H1=>td σ H1 λx H2=>ty σ H2 λy H3=>∃a b ks kv,x=.ref a/\y=.ref b/\SqT K H3 b (ks.map V.int)/\H3 a=some (dicO a kv)/\cE8 K H3 kv/\kv.length<sizeLine/\D.nx σ (upd H3 a (dicO a (aT8 kv ks b v)))
theorem cB2 {X:Cx}{o i value:Expr}{pos pos':Pos}{td ty tv:TE}(K:PySem.W.Frag){k:Nat}(hr:Room k X.A)(ho:PE X o td)(hi:PE X i ty)(hv:PE X value tv)(hs:swapsWith value (some (.Subscript o i pos')) pos.line X.env=pure false:=by rfl)(h:X.K=K:=by rfl) :
  PS X (.Assign [.Subscript o i pos'] value pos) (bU3 K td ty tv):=by
 subst h;refine⟨?_⟩;intro pins s σ H D I h;refine wpAny_Assign_Subscript (thn (hv pins s σ H _ I h) λr s1 ⟨v,H1,I1,rv,q1⟩=>thn (ho pins s1 σ H1 _ I1 q1) λu s2 ⟨x,H2,I2,rx,q2⟩=>thn (hi pins s2 σ H2 _ I2 q2) λiv s3 ⟨y,H3,I3,ry,a,b,ks,kv,ex,ey,hb,ha,hk,hl,q3⟩=>?_) hs
 subst ex ey;obtain rfl:u=Value.ref a:=rx;obtain rfl:iv=Value.ref b:=ry;obtain ⟨xs,rel,z,hd,dd⟩:=cR2 I3 ha hk;have hz:xs.length<=sizeLine:=by rw[<- Paired.length rel];exact z
 refine wpAny_setItem_heap (hsz:=hz) (tupleKind_room_in1 (by have:=hr.un;omega)) (aO6 I3 hb) dd λh' dd' hsm=>⟨σ,_,?_,q3⟩
 obtain ⟨q,es,ep,hq,h2,h3,h4,_,h5⟩:=dd';have hp:=cI1 kv ks b v;exact I3.write (x:=a) (e:=a) (by rw[ha];exact True.intro) (.inl rfl) (λc q hb z=>(hsm.2 c hb).trans z) ⟨q,hq⟩ (bT9 (KvR.put rel ks b rv) (by omega) hd hq h2 h3 h4 h5)
end L2
namespace LV
open PySem L2
section
variable {K:PySem.W.Frag}{ρ:List Sl}{m:Bool}{ta tb tv:TE}{d:PyData}{ks:List Int}{kvs:List (List Int×PyData)}
def aF6 (kvs:List (List Int×PyData))(k:List Int)(d:PyData):List (List Int×PyData):=
 if kvs.any (λx=>decide (x.1=k)) then kvs.map (λx=>if x.1=k then(x.1,d) else x) else kvs++[(k,d)]
theorem aK4 {Z:Hp}:∀{kv:List (List Int×Addr×V)} {kvs:List (List Int×PyData)},kv.map (·.1)=kvs.map (·.1)->Reps K Z (kv.map λx=>V.ref x.2.1) (kvs.map λx=>PyData.tuple (x.1.map PyData.int))->cE8 K Z kv
 | [],_,_,_=>λz hz=>by cases hz
 | x::kv,[],e,_=>by simp at e
 | x::kv,y::kvs,e,r=>by
  simp only[Ac6,List.cons.injEq]at e r;cases r with
  | cons a b=>
   intro z hz;rcases Aa1.mp hz with rfl | hz
   ·cases a with
    | tup s q=>rw[e.1,<- Reps.ints q];exact s
   ·exact aK4 e.2 b z hz
theorem aW3 {H H':Hp}{kv:List (List Int×Addr×V)}(h:cE8 K H kv)(s:Same H H'):cE8 K H' kv:=λz hz=>C4 s (h z hz)
theorem bD5:∀{kv:List (List Int×Addr×V)} {kvs:List (List Int×PyData)},kv.map (·.1)=kvs.map (·.1)->(atK kv ks).isSome=kvs.any λx=>decide (x.1=ks)
 | [],[],_=>rfl
 | [],_::_,e=>by simp at e
 | _::_,[],e=>by simp at e
 | x::kv,y::kvs,e=>by
  simp only[Ac6,List.cons.injEq]at e;have ih:=bD5 e.2;unfold atK at ih ⊢;rw[List.find?_cons,List.any_cons,e.1];by_cases h:y.1=ks
  ·simp[h]
  ·simp[h];simpa using ih
theorem bQ3:EFT K bU4 ρ (.dic []):=λS B σ H o I Q q p hp=>
 q (.ref p) [p] _ (D3 hp) (λb hb=>by rw[Ad6.mp hb];exact hp) (by simp) (.dic B7 rfl .nil .nil)
theorem cW3 {i:Nat}{neg:Bool}(he:E K false ta ρ (.tuple (ks.map PyData.int)))(h:ρ[i]? = some (.tr (.dic kvs))):E K m (tOp (cJ9 K neg) ta (L5 i)) ρ (.bool (xor neg (kvs.any λx=>decide (x.1=ks)))):=E.bor (E.imm (m:=false) λS B σ H o I Q q=>he S B σ H o I _ λv H1 s1 r1=>by
 obtain ⟨_,u,a,b⟩:=(I.grow s1).tr i _ h;refine⟨u,a,?_⟩;generalize o i=L at b;cases b with
 | @dic p kv _ e k r2 r3=>
  cases r1 with
  | @tup b xs _ s r=>
   rw[Reps.ints r]at s;refine⟨b,p,ks,kv,rfl,s,rfl,e,aW3 (aK4 k r2) T6,?_⟩;rw[bD5 k];exact q _ H1 s1 (.bl _))
theorem aY8 {Z:Hp}{v:V}(rv:Rep K Z v d):∀{kv:List (List Int×Addr×V)} {kvs:List (List Int×PyData)},kv.map (·.1)=kvs.map (·.1)->Reps K Z (kv.map λx=>V.ref x.2.1) (kvs.map λx=>PyData.tuple (x.1.map PyData.int))->Reps K Z (kv.map (·.2.2)) (kvs.map (·.2)) ->
  (kv.map λx=>if x.1=ks then(x.1,x.2.1,v) else x).map (·.1)=(kvs.map λx=>if x.1=ks then(x.1,d) else x).map (·.1) /\
  Reps K Z ((kv.map λx=>if x.1=ks then(x.1,x.2.1,v) else x).map λx=>V.ref x.2.1) ((kvs.map λx=>if x.1=ks then(x.1,d) else x).map λx=>PyData.tuple (x.1.map PyData.int)) /\
  Reps K Z ((kv.map λx=>if x.1=ks then(x.1,x.2.1,v) else x).map (·.2.2)) ((kvs.map λx=>if x.1=ks then(x.1,d) else x).map (·.2))
 | [],[],_,_,_=>⟨rfl,.nil,.nil⟩
 | [],_::_,e,_,_=>by simp at e
 | _::_,[],e,_,_=>by simp at e
 | x::kv,y::kvs,e,r1,r2=>by
  simp only[Ac6,List.cons.injEq]at e r1 r2;cases r1 with
  | cons a1 b1=>
   cases r2 with
   | cons a2 b2=>
    obtain ⟨h1,h2,h3⟩:=aY8 rv e.2 b1 b2;simp only[Ac6];by_cases h:y.1=ks
    ·have h':x.1=ks:=e.1.trans h
     rw[if_pos h,if_pos h'];exact⟨by rw[h1];simp[h,h'],.cons a1 h2,.cons rv h3⟩
    ·have h':¬x.1=ks:=λz=>h (e.1.symm.trans z)
     rw[if_neg h,if_neg h'];exact⟨by rw[h1,e.1],.cons a1 h2,.cons a2 h3⟩
theorem cH0 {Z:Hp}{v:V}{b:Addr}{kv:List (List Int×Addr×V)}(rv:Rep K Z v d)(rb:Rep K Z (.ref b) (.tuple (ks.map PyData.int)))(e:kv.map (·.1)=kvs.map (·.1))(r1:Reps K Z (kv.map λx=>V.ref x.2.1) (kvs.map λx=>PyData.tuple (x.1.map PyData.int)))(r2:Reps K Z (kv.map (·.2.2)) (kvs.map (·.2))) :
  (aT8 kv ks b v).map (·.1)=(aF6 kvs ks d).map (·.1)/\Reps K Z ((aT8 kv ks b v).map λx=>V.ref x.2.1) ((aF6 kvs ks d).map λx=>PyData.tuple (x.1.map PyData.int))/\Reps K Z ((aT8 kv ks b v).map (·.2.2)) ((aF6 kvs ks d).map (·.2)):=by
 unfold aT8 aF6;rw[bD5 e];split
 ·exact aY8 rv e r1 r2
 ·simp only[Ad1,Ac6,List.map_nil];exact⟨by rw[e],r1.append (.cons rb .nil),r2.append (.cons rv .nil)⟩
theorem cF9 {i:Nat}{R:AE}(hv:E K true tv ρ d)(hi:ρ[i]? = some (.tr (.dic kvs)))(hk:E K true tb ρ (.tuple (ks.map PyData.int)))(hl:kvs.length<sizeLine)(hn:R.nx (ρ.set i (.tr (.dic (aF6 kvs ks d)))))(nb:S6 ρ=true:=by rfl) :
  W K (bU3 K (L5 i) tb tv) ρ R:=λS B D σ H o I s=>hv S B σ H o I _ λv H1 s1 rv=>by
 obtain ⟨hnd,u,a,b⟩:=(I.grow s1).tr i _ hi;refine⟨u,a,hk S B σ H1 o (I.grow s1) _ λy H2 s2 ry=>?_⟩
 have I2:=(I.grow s1).grow s2
 obtain ⟨hnd,u2,a2,b2⟩:=I2.tr i _ hi;rw[a]at a2;cases a2;have hil:i<ρ.length:=(Ab0.mp hi).1;generalize ho:o i=L at b2;cases b2 with
 | @dic p kv _ e k r2 r3=>
  cases ry with
  | @tup q xs _ sq r=>
   have hq:=Reps.ints r
   have sq':SqT K H2 q (ks.map V.int):=by rw[<- hq];exact C4 T6 sq
   have len:kv.length=kvs.length:=by have:=congrArg List.length k;simpa using this
   refine⟨p,q,ks,kv,rfl,rfl,sq',e,aW3 (aK4 k r2) T6,by omega,?_⟩
   have rv2:Rep K (hid (C3 ρ o S) H2) v d:=rv.mono (aO7 (m:=true) s2)
   obtain ⟨k',r2',r3'⟩:=cH0 rv2 (b:=q) (.tup (by rw[<- hq];exact sq) (X2 ks)) k r2 r3
   have oi:cD7 ρ o i p:=⟨_,hi,rfl,by rw[ho];simp⟩
   have os:C3 ρ o S p:=.inr ⟨i,_,hi,rfl,by rw[ho];simp⟩
   have g:Same (hid (C3 ρ o S) H2) (hid (λb=>C3 ρ o S b\/b∈[p]) (upd H2 p (dicO p (aT8 kv ks q v)))):=λc y z=>by
    obtain ⟨q1,q2⟩:=hid_some.mp z;refine hid_some.mpr ⟨λz=>q1 (z.elim id λz=>by rw[Ad6.mp z];exact os),?_⟩
    rw[B2 (λz=>q1 (by rw[z];exact os))];exact q2
   have P:=I2.put (H':=upd H2 p (dicO p (aT8 kv ks q v))) (v:=.ref p) (x:=.tr (.dic (aF6 kvs ks d))) (L:=[p]) i hil (λb=>b=p) (λb z=>by rw[z];exact oi) (λb y q z=>by rw[B2 z];exact q) (λb z=>.inl (by rw[Ad6.mp z];exact oi))
    (.inr ⟨_,rfl,by simp,.dic B7 k' (r2'.mono g) (r3'.mono g)⟩) (.inr (K8 nb))
   rw[aS7 a]at P;exact s.nx _ _ _ _ P hn
end
theorem cR3 (kvs:List (List Int×PyData))(k k':List Int)(d:PyData):(aF6 kvs k d).any (λx=>decide (x.1=k'))=(kvs.any (λx=>decide (x.1=k'))||decide (k=k')):=by
 unfold aF6;split
 ·rename_i h;have e:(kvs.map λx=>if x.1=k then(x.1,d) else x).any (λx=>decide (x.1=k'))=kvs.any (λx=>decide (x.1=k')):=by
   rw[List.any_map]
   congr 1
   funext x
   simp only[Function.comp];split <;> rfl
  rw[e];by_cases hk:k=k'
  ·subst hk;rw[h];rfl
  ·simp[hk]
 ·simp
theorem cJ1 (kvs:List (List Int×PyData))(k:List Int)(d:PyData):(aF6 kvs k d).length<=kvs.length+1:=by
 unfold aF6;split <;> simp
end LV
namespace TT
open Classical
theorem bU8:∀{l:List Nat} {a b:Nat},lin l a b↔∃p s,l=p++a::b::s
 | [],a,b=>by simp[lin]
 | [c],a,b=>by
  simp only[lin,false_iff];rintro ⟨p,s,e⟩
  have:=congrArg List.length e
  simp at this
  omega
 | c::d::l,a,b=>by
  rw[D4,bU8 (l:=d::l)];constructor
  ·rintro (⟨rfl,rfl⟩ | ⟨p,s,e⟩)
   ·exact⟨[],l,rfl⟩
   ·exact⟨c::p,s,by rw[e];rfl⟩
  ·rintro ⟨p,s,e⟩;cases p with
   | nil=>simp at e;exact .inl ⟨e.1.symm,e.2.1.symm⟩
   | cons c' p=>simp at e;exact .inr ⟨p,s,e.2⟩
theorem adj_iff {l:List Nat}{a b:Nat}:adj l a b↔(∃p s,l=p++a::b::s)\/∃p,l=p++[a]/\l.head? = some b:=by
 unfold adj;rw[bU8];cases l with
 | nil=>simp
 | cons c l=>
  simp only[List.take_succ_cons,List.take_zero,List.head?_cons,Option.some.injEq];constructor
  ·rintro ⟨p,s,e⟩;rcases Ac4 s with hs | ⟨s',d,hs⟩
   ·subst hs;have e':(c::l)++[c]=(p++[a])++[b]:=by rw[e];simp
    have:=List.append_inj' e' rfl
    exact .inr ⟨p,this.1,by simpa using this.2⟩
   ·subst hs;have e':(c::l)++[c]=(p++a::b::s')++[d]:=by rw[e];simp
    exact .inl ⟨p,s',(List.append_inj' e' rfl).1⟩
  ·rintro (⟨p,s,e⟩ | ⟨p,e,rfl⟩)
   ·exact⟨p,s++[c],by rw[e];simp⟩
   ·exact⟨p,[],by rw[e];simp⟩
theorem aB6 {l p s:List Nat}{u:Nat}(nd:l.Nodup)(e:l=p++u::s):l.idxOf u=p.length:=by
 have hp:u∉p:=λhm=>by rw[e]at nd;exact(Aa4.mp nd).2.2 u hm u (by simp) rfl
 rw[e,List.idxOf_append,if_neg hp];simp
section
variable {r:Nat->List Nat}{n:Nat}{rim:List Nat}{R:Nat->Prop}
def gi (rim:List Nat)(k:Nat):Nat:=rim.getD k 0
theorem aT7 {k:Nat}(h:k<rim.length):rim[k]? = some (gi rim k):=by
 unfold gi;rw[Ac0,Aa2 h];rfl
theorem dB0 (nd:rim.Nodup){j k:Nat}(hj:j<rim.length)(hk:k<rim.length)(e:gi rim j=gi rim k):j=k:=by
 have h1:=aT7 hj
 have h2:=aT7 hk
 rw[<- e]at h2;rw[Aa2 hj]at h1;rw[Aa2 hk]at h2;have e':rim[j]=rim[k]:=by rw[Ab4 h1,Ab4 h2]
 by_cases hlt:j<k
 ·exact absurd e' (List.pairwise_iff_getElem.mp nd j k hj hk hlt)
 ·by_cases hgt:k<j
  ·exact absurd e'.symm (List.pairwise_iff_getElem.mp nd k j hk hj hgt)
  ·omega
theorem dG0 {k:Nat}(h:k+1<rim.length):adj rim (gi rim k) (gi rim (k+1)):=by
 refine adj_iff.mpr (.inl ⟨rim.take k,rim.drop (k+2),?_⟩);have h1:=aT7 (rim:=rim) (k:=k) (by omega)
 have h2:=aT7 h
 rw[Aa2 (by omega)]at h1
 rw[Aa2 h]at h2;rw[<- Ab4 h1,<- Ab4 h2];rw[<- List.drop_eq_getElem_cons h,<- List.drop_eq_getElem_cons (show k<rim.length by omega),Ad2]
theorem cT8 (h:0<rim.length):adj rim (gi rim (rim.length-1)) (gi rim 0):=by
 refine adj_iff.mpr (.inr ⟨rim.take (rim.length-1),?_,?_⟩)
 ·have h1:=aT7 (rim:=rim) (k:=rim.length-1) (by omega)
  rw[Aa2 (by omega)]at h1
  rw[<- Ab4 h1]
  have:=Ad2 (rim.length-1) rim
  rw[List.drop_eq_getElem_cons (by omega),List.drop_eq_nil_of_le (by omega)]at this
  exact this.symm
 ·rw[List.head?_eq_getElem?];exact aT7 h
end
theorem cP2 {L:List Nat}{q:Nat}(h:q∈L):gi L (L.idxOf q)=q:=by
 unfold gi;rw[Ac0,Aa2 (List.idxOf_lt_length_iff.mpr h)]
 simp
section
variable {n:Nat}{r:Nat->List Nat}{v:Nat}{w:Nat->List Nat}
theorem dD8 {l:List Nat}(nd:l.Nodup){x y y':Nat}(h:adj l x y)(h':adj l x y'):y=y':=by
 rcases adj_iff.mp h with ⟨p,s,e⟩ | ⟨p,e,hb⟩
 ·rcases adj_iff.mp h' with ⟨p',s',e'⟩ | ⟨p',e',hb'⟩
  ·have i1:=aB6 nd e
   have i2:=aB6 nd e'
   have:=List.append_inj (e.symm.trans e') (by omega)
   simpa using(List.cons.inj (List.cons.inj this.2).2).1
  ·have i1:=aB6 nd e
   have i2:=aB6 nd (p:=p') (s:=[]) e'
   have l1:=congrArg List.length e
   have l2:=congrArg List.length e'
   simp at l1 l2;omega
 ·rcases adj_iff.mp h' with ⟨p',s',e'⟩ | ⟨p',e',hb'⟩
  ·have i1:=aB6 nd (p:=p) (s:=[]) e
   have i2:=aB6 nd e'
   have l1:=congrArg List.length e
   have l2:=congrArg List.length e'
   simp at l1 l2;omega
  ·rw[hb]at hb';exact Ab4 hb'
end
def prd (l:List Nat)(x:Nat):Nat:=if l.idxOf x=0 then gi l (l.length-1) else gi l (l.idxOf x-1)
theorem cX3 {l:List Nat}{x:Nat}(h:x∈l):adj l (prd l x) x:=by
 have hl:=List.idxOf_lt_length_iff.mpr h
 unfold prd;by_cases e:l.idxOf x=0
 ·rw[if_pos e]
  have:=cT8 (rim:=l) (by omega)
  rwa [<- e,cP2 h]at this
 ·rw[if_neg e]
  have:=dG0 (rim:=l) (k:=l.idxOf x-1) (by omega)
  rwa [show l.idxOf x-1+1=l.idxOf x by omega,cP2 h]at this
def th (r:Nat->List Nat)(p q:Nat):Nat:=prd (r q) p
def nrm (x y z:Nat):List Nat:=if x<y/\x<z then [x,y,z] else if y<z/\y<x then [y,z,x] else [z,x,y]
def lnd (r:Nat->List Nat)(p q:Nat):List Nat:=nrm p q (th r p q)
section
variable {n:Nat}{r:Nat->List Nat}
theorem Good.th (G:Good n r){p q:Nat}(h:q∈r p):adj (r p) q (th r p q):=G.tri _ _ _ (G.tri _ _ _ (cX3 (G.sym h)))
theorem Good.th_mem (G:Good n r){p q:Nat}(h:q∈r p):TT.th r p q∈r q/\p∈r (TT.th r p q):=by
 have:=G.th h
 have h1:=W8 (G.tri _ _ _ this)
 have h2:=W8 (G.tri _ _ _ (G.tri _ _ _ this))
 exact⟨h1.1,h2.1⟩
theorem Good.th_ne (G:Good n r){p q:Nat}(h:q∈r p):p≠q/\q≠TT.th r p q/\p≠TT.th r p q:=by
 have s:∀{a b},b∈r a->a≠b:=λ{a b} h e=>G.self a (by rw[<- e]at h;exact h)
 have:=G.th_mem h
 exact⟨s h,s this.1,λe=>s this.2 e.symm⟩
theorem Good.th_un (G:Good n r){p q x:Nat}(h:adj (r p) q x):x=TT.th r p q:=dD8 (G.nd p) h (G.th (W8 h).1)
theorem Good.th_rot (G:Good n r){p q:Nat}(h:q∈r p):TT.th r q (TT.th r p q)=p:=(G.th_un (G.tri _ _ _ (G.th h))).symm
theorem Good.th_rot2 (G:Good n r){p q:Nat}(h:q∈r p):TT.th r (TT.th r p q) p=q:=(G.th_un (G.tri _ _ _ (G.tri _ _ _ (G.th h)))).symm
theorem cU5 {x y z:Nat}(h1:x≠y)(h2:y≠z)(h3:x≠z):nrm x y z=nrm y z x:=by
 unfold nrm;by_cases a:x<y/\x<z
 ·rw[if_pos a,if_neg (by omega),if_neg (by omega)]
 ·rw[if_neg a];by_cases b:y<z/\y<x
  ·rw[if_pos b,if_pos (by omega)]
  ·rw[if_neg b,if_neg (by omega),if_pos (by omega)]
theorem Good.lnd_rot (G:Good n r){p q:Nat}(h:q∈r p):lnd r p q=lnd r q (TT.th r p q):=by
 obtain ⟨a,b,c⟩:=G.th_ne h;unfold lnd;rw[G.th_rot h];exact cU5 a b c
theorem X3 (x y z:Nat):nrm x y z=[x,y,z]\/nrm x y z=[y,z,x]\/nrm x y z=[z,x,y]:=by
 unfold nrm;split
 ·exact .inl rfl
 ·split
  ·exact .inr (.inl rfl)
  ·exact .inr (.inr rfl)
theorem Good.lnd_eq (G:Good n r){p q p' q':Nat}(h:q∈r p)(h':q'∈r p')(e:lnd r p q=lnd r p' q'):(p'=p/\q'=q)\/(p'=q/\q'=TT.th r p q)\/(p'=TT.th r p q/\q'=p):=by
 have r1:=G.th_rot h'
 have r2:=G.th_rot2 h'
 have k1:=G.th_rot h
 have k2:=G.th_rot2 h
 unfold lnd at e;generalize TT.th r p q=t at *;generalize ht':TT.th r p' q'=t' at *;rcases X3 p q t with e1 | e1 | e1 <;> rcases X3 p' q' t' with e2 | e2 | e2 <;> rw[e1,e2]at e <;> simp only[List.cons.injEq,and_true]at e <;> obtain ⟨a,b,c⟩:=e <;> subst a b c <;> simp
def gps (r:Nat->List Nat)(n:Nat):List (Nat×Nat):=((List.range n).map λp=>(r p).map λq=>(p,q)).flatten
theorem Good.gps_mem (G:Good n r){x:Nat×Nat}:x∈gps r n↔x.2∈r x.1:=by
 unfold gps;simp only[List.mem_flatten,Aa8,Ab5];constructor
 ·rintro ⟨l,⟨p,hp,rfl⟩,hx⟩;obtain ⟨q,hq,rfl⟩:=Aa8.mp hx;exact hq
 ·intro h;refine⟨_,⟨x.1,?_,rfl⟩,Aa8.mpr ⟨x.2,h,rfl⟩⟩;rcases Nat.lt_or_ge x.1 n with z | z
  ·exact z
  ·rw[G.hi _ z]at h;cases h
theorem Good.gps_nd (G:Good n r):(gps r n).Nodup:=by
 unfold gps;have key:∀m,(((List.range m).map λp=>(r p).map λq=>(p,q)).flatten).Nodup:=λm=>by
  induction m with
  | zero=>simp
  | succ m ih=>
   rw[List.range_succ,Ad1,List.flatten_append,Aa4];refine⟨ih,?_,λx hx y hy e=>?_⟩
   ·simp only[Ac6,List.map_nil,List.flatten_cons,List.flatten_nil,List.append_nil];rw[Ac5,Ad8];exact(Ac5.mp (G.nd m)).imp λ{a b} h e=>h (congrArg Prod.snd e)
   ·subst e;simp only[List.mem_flatten,Aa8,Ab5,Ac6,List.map_nil,List.flatten_cons,List.flatten_nil,List.append_nil]at hx hy;obtain ⟨l,⟨p,hp,rfl⟩,h1⟩:=hx;obtain ⟨q,_,rfl⟩:=Aa8.mp h1;obtain ⟨q',_,e⟩:=hy
    have:=congrArg Prod.fst e
    simp at this;omega
 exact key n
theorem Good.gps_len (G:Good n r):(gps r n).length+12=6*n:=by
 have:=G.sum
 unfold gps;rw[List.length_flatten,Ae0];simpa[Function.comp_def]using this
def low (r:Nat->List Nat)(x:Nat×Nat):Bool:=decide (x.1<x.2)&&decide (x.1<th r x.1 x.2)
def rds (r:Nat->List Nat)(n:Nat):List (List Nat):=((gps r n).filter (low r)).map λx=>[x.1,x.2,th r x.1 x.2]
theorem W2 {a b c:Nat}(h1:a≠b)(h2:b≠c)(h3:a≠c):((a<b/\a<c)/\(¬b<a\/¬b<c)/\(¬c<a\/¬c<b))\/((¬a<b\/¬a<c)/\(b<a/\b<c)/\(¬c<a\/¬c<b))\/((¬a<b\/¬a<c)/\(¬b<a\/¬b<c)/\(c<a/\c<b)):=by omega
theorem dH5 {α:Type}[DecidableEq α]{l:List α}(nd:l.Nodup):∀{m:List α},(∀x∈l,x∈m)->l.length<=m.length:=by
 induction l with
 | nil=>intro m _;simp
 | cons a l ih=>
  intro m h;rw[Aa5]at nd
  have:=ih nd.2 (m:=m.erase a) λx hx=>by
   refine(List.mem_erase_of_ne ?_).mpr (h x (by simp[hx]))
   intro e;subst e;exact nd.1 hx
  rw[List.length_erase_of_mem (h a (by simp))]at this
  have hp:0<m.length:=List.length_pos_of_mem (h a (by simp))
  simp;omega
theorem Good.rds_len (G:Good n r):(rds r n).length+4=2*n:=by
 unfold rds;rw[Aa3];have tot:=G.gps_len
 let φ:Nat×Nat->Nat×Nat:=λx=>(x.2,TT.th r x.1 x.2)
 have mφ:∀x∈gps r n,φ x∈gps r n:=λx hx=>G.gps_mem.mpr (G.th_mem (G.gps_mem.mp hx)).1
 have iφ:∀x∈gps r n,∀y∈gps r n,φ x=φ y->x=y:=λx hx y hy e=>by
  have h1:x.2=y.2:=congrArg Prod.fst e
  have h2:TT.th r x.1 x.2=TT.th r y.1 y.2:=congrArg Prod.snd e
  have k1:=G.th_rot (G.gps_mem.mp hx)
  have k2:=G.th_rot (G.gps_mem.mp hy)
  rw[h2,h1]at k1;exact Prod.ext (k1.symm.trans k2) h1
 let b1:Nat×Nat->Bool:=λx=>decide (x.2<x.1)&&decide (x.2<TT.th r x.1 x.2)
 let b2:Nat×Nat->Bool:=λx=>decide (TT.th r x.1 x.2<x.1)&&decide (TT.th r x.1 x.2<x.2)
 have nd:=G.gps_nd
 have ndm:∀b:Nat×Nat->Bool,(((gps r n).filter b).map φ).Nodup:=λb=>by
  rw[Ac5,Ad8];exact List.Pairwise.imp_of_mem (λ{x y} hx hy hne e=>hne (iφ x (List.mem_filter.mp hx).1 y (List.mem_filter.mp hy).1 e)) (Ac5.mp (nd.filter b))
 have step:∀b b':Nat×Nat->Bool,(∀x∈gps r n,b x=true->b' (φ x)=true)->((gps r n).filter b).length<=((gps r n).filter b').length:=λb b' h=>by
  rw[<- Aa3 (f := φ) (as:=(gps r n).filter b)];refine dH5 (ndm b) λy hy=>?_
  obtain ⟨x,hx,rfl⟩:=Aa8.mp hy;obtain ⟨h1,h2⟩:=List.mem_filter.mp hx;exact List.mem_filter.mpr ⟨mφ x h1,h x h1 h2⟩
 have s10:=step b1 (low r) λx hx h=>by
  have k:=G.th_rot (G.gps_mem.mp hx)
  simp only[b1,low,φ,Bool.and_eq_true,decide_eq_true_eq]at h ⊢;rw[k];exact⟨h.2,h.1⟩
 have s21:=step b2 b1 λx hx h=>by
  have k:=G.th_rot (G.gps_mem.mp hx)
  simp only[b1,b2,φ,Bool.and_eq_true,decide_eq_true_eq]at h ⊢;rw[k];exact⟨h.2,h.1⟩
 have s02:=step (low r) b2 λx hx h=>by
  have k:=G.th_rot (G.gps_mem.mp hx)
  simp only[low,b2,φ,Bool.and_eq_true,decide_eq_true_eq]at h ⊢;rw[k];exact⟨h.1,h.2⟩
 have part:∀l:List (Nat×Nat),(∀x∈l,x∈gps r n)->(l.filter (low r)).length+(l.filter b1).length+(l.filter b2).length=l.length:=λl=>by
  induction l with
  | nil=>intro _;rfl
  | cons x l ih=>
   intro h;have ih:=ih λy hy=>h y (by simp[hy])
   obtain ⟨a,b,c⟩:=G.th_ne (G.gps_mem.mp (h x (by simp)))
   have d:(low r x=true/\b1 x=false/\b2 x=false)\/(low r x=false/\b1 x=true/\b2 x=false)\/(low r x=false/\b1 x=false/\b2 x=true):=by
    simp only[low,b1,b2,Bool.and_eq_true,Bool.and_eq_false_iff,decide_eq_true_eq,decide_eq_false_iff_not];exact W2 a b c
   rcases d with ⟨d0,d1,d2⟩ | ⟨d0,d1,d2⟩ | ⟨d0,d1,d2⟩ <;> simp only[List.filter_cons,d0,d1,d2,if_true,List.length_cons] <;> simp <;> omega
 have:=part (gps r n) λ_ h=>h
 omega
theorem Good.rds_mem (G:Good n r){l:List Nat}:l∈rds r n↔∃p q,q∈r p/\l=lnd r p q:=by
 unfold rds;simp only[Aa8,List.mem_filter];constructor
 ·rintro ⟨x,⟨hx,hl⟩,rfl⟩;refine⟨x.1,x.2,G.gps_mem.mp hx,?_⟩;simp only[low,Bool.and_eq_true,decide_eq_true_eq]at hl;unfold lnd nrm;rw[if_pos hl]
 ·rintro ⟨p,q,hq,rfl⟩;obtain ⟨a,b,c⟩:=G.th_ne hq;have m:=G.th_mem hq;have k1:=G.th_rot hq;have k2:=G.th_rot2 hq;unfold lnd nrm;by_cases h1:p<q/\p<TT.th r p q
  ·rw[if_pos h1];exact⟨(p,q),⟨G.gps_mem.mpr hq,by simp[low,h1]⟩,rfl⟩
  ·rw[if_neg h1];by_cases h2:q<TT.th r p q/\q<p
   ·rw[if_pos h2];exact⟨(q,TT.th r p q),⟨G.gps_mem.mpr m.1,by simp[low,k1,h2]⟩,by simp[k1]⟩
   ·rw[if_neg h2];exact⟨(TT.th r p q,p),⟨G.gps_mem.mpr m.2,by simp[low,k2];omega⟩,by simp[k2]⟩
theorem Good.rds_nd (G:Good n r):(rds r n).Nodup:=by
 unfold rds;rw[Ac5,Ad8];exact(Ac5.mp (G.gps_nd.filter _)).imp λ{x y} h e=>h (by
  simp only[List.cons.injEq,and_true]at e;exact Prod.ext e.1 e.2.1)
end
def wys:List Nat->List (Nat×Nat)
 | [x,y,z]=>[(z,x),(x,y),(y,z)]
 | _=>[]
section
variable {n:Nat}{r:Nat->List Nat}{sh:List (Nat×Nat)}{a b:Nat}
theorem Good.wys_lnd (G:Good n r){p q:Nat}(h:q∈r p){x:Nat×Nat}:x∈wys (lnd r p q)↔(x=(p,q)\/x=(q,TT.th r p q)\/x=(TT.th r p q,p)):=by
 unfold lnd;rcases X3 p q (TT.th r p q) with e | e | e <;> rw[e] <;> simp only[wys,Aa1,Ac2,or_false] <;> constructor <;> intro z <;> rcases z with z | z | z <;> simp[z]
theorem Good.wys_back (G:Good n r){p q:Nat}(h:q∈r p){x:Nat×Nat}(hx:x∈wys (lnd r p q)):x.2∈r x.1/\lnd r x.1 x.2=lnd r p q:=by
 have m:=G.th_mem h
 have l1:=G.lnd_rot h
 have l2:=G.lnd_rot m.1
 rw[G.th_rot h]at l2;rcases (G.wys_lnd h).mp hx with rfl | rfl | rfl
 ·exact⟨h,rfl⟩
 ·exact⟨m.1,l1.symm⟩
 ·exact⟨m.2,(l1.trans l2).symm⟩
end
end TT
namespace L2
open PySem PySem.Spec PyProof.Rows
section
variable {prog:Program}{w:World}{A:Around}{E:Value->Shared->Prop}{s:Shared}
theorem m9 {l b:Addr}{h h':Heap}{xs:Array Value}(H:h.IsTuple l xs)(k:∀o,h.get? l=some o->h'.get? l=some o):h'.IsTuple l xs:=by
 obtain ⟨o,e,r⟩:=H;exact⟨o,k o e,r⟩
abbrev zT1 (h:Heap)(l1:Addr):Heap:=h.push {cls:=.type "tuple_iterator",data:=.fields #[.ref l1,.int 0 0]}
abbrev zT2 (h:Heap)(l1 l2:Addr):Heap:=(zT1 h l1).push {cls:=.type "tuple_iterator",data:=.fields #[.ref l2,.int 0 0]}
abbrev zT3 (h:Heap)(l1 l2:Addr):Heap:=(zT2 h l1 l2).push {cls:=.type "tuple",data:=.seq #[.ref h.objs.size,.ref (zT1 h l1).objs.size]}
abbrev zT4 (h:Heap)(l1 l2:Addr):Heap:=(zT3 h l1 l2).push {cls:=.type "tuple",data:=.seq #[.none,.none]}
abbrev zT5 (h:Heap)(l1 l2:Addr):Heap:=(zT4 h l1 l2).push {cls:=.type "zip",data:=.fields #[.none,.bool false,.bool false,.ref (zT2 h l1 l2).objs.size,.ref (zT3 h l1 l2).objs.size]}
end
end L2
namespace LV
open PySem PySem.Spec PyProof.Rows L2
section
variable {K:PySem.W.Frag}{B:Hp}{ρ ρ':List Sl}{m:Bool}{t ta tb:TE}{d d':PyData}{ds es:List PyData}
theorem dG9 {C:Addr}{v:Value}(h:PySem.W.subIn K (.ref C) v=some true):L2.subIn K C v=true:=by
 have h:PySem.W.mroIn K C v=some true:=h
 unfold PySem.W.mroIn at h;obtain ⟨cd,a,b⟩:=Option.bind_eq_some_iff.mp h;split at b
 ·cases b
 ·unfold PySem.W.clsIn at a;unfold L2.subIn
  revert a
  split
  ·rename_i e;intro z;cases z;rw[e];simpa using b
  ·intro z;cases z
end
end LV
namespace L2
open PySem PySem.Spec PyProof.Rows
section
variable {X:Cx}{s:Shared}
theorem dH7 {P:Program}{w:World}{X:Cx}:bC5 (CXe P w) X E0:=λ_ _ _ _ _ _ _ h=>by
 obtain ⟨_,_,_,_,_,_,_,_,_,z⟩:=h;exact z.elim
end
end L2
namespace LV
open PySem PySem.Spec PyProof.Rows L2
section
variable {K:PySem.W.Frag}{ρ:List Sl}{m:Bool}{t ta tb:TE}{d d':PyData}{ds es:List PyData}
theorem cW6 {t:TA}{pre:List PyData->PyData->Prop}{preX:List PyData->Addr->Prop}{X:XK}(ha:A K true t ρ ds)(hp:pre ds d):E K m (aT5 (spE K pre preX) [] X t) ρ d:=cS9 ha hp
end
end LV
namespace K01
open PySem L2 LV PyProof.Rows
theorem aV0:D6 ["ring"] ["ring"] (A6 Q3):=⟨rfl,rfl,rfl,by decide +kernel,rfl,by decide +kernel,by decide +kernel⟩
theorem bI2:D6 ["turn", "place"] ["turn", "place"] (A6 V0):=⟨rfl,rfl,rfl,by decide +kernel,rfl,by decide +kernel,by decide +kernel⟩
theorem sc_round_from:D6 ["turns", "p", "q", "corners", "here", "there", "behind"] ["turns", "p", "q"] (A6 P3):=⟨rfl,rfl,rfl,by decide +kernel,rfl,by decide +kernel,by decide +kernel⟩
def wys (x y z:Int):List (Int×Int):=[(z,x),(x,y),(y,z)]
def cW2 (ds es:List PyData):Prop:=∃x y z:Int,ds=[tI [x,y,z]]/\es=(wys x y z).map pD
def fWy (x y z:Int):PyData->Option PyData
 | .int k=>some (pD (if k=0 then(z,x) else if k=1 then(x,y) else(y,z)))
 | _=>none
def cY0 (ds:List PyData)(d:PyData):Prop:=∃(l:List Nat) (x:Nat),x∈l/\l.length<=10000/\ds=[tN l,.int (x:Int)]/\d=.int (TT.prd l x:Nat)
def dK2 (ds:List PyData)(d:PyData):Prop:=∃(m:Nat) (dr tr:List (List Nat)) (p q:Nat),Dw m dr tr/\q∈TT.trn dr p/\ds=[.tuple (dr.map tN),.int (p:Int),.int (q:Int)]/\d=tN [p,q,TT.th (TT.trn dr) p q]
def dI6 (ds:List PyData)(d:PyData):Prop:=∃(m:Nat) (dr tr:List (List Nat)) (p q:Nat),Dw m dr tr/\q∈TT.trn dr p/\ds=[.tuple (dr.map tN),.int (p:Int),.int (q:Int)]/\d=.int (TT.th (TT.trn dr) p q:Nat)
theorem cG2 {l:List Nat}{x:Nat}(h:x∈l):atI (nI l) ((l.idxOf x:Nat)-1:Int)=some (.int (TT.prd l x:Nat)):=by
 have hl:=List.idxOf_lt_length_iff.mpr h
 unfold TT.prd;by_cases e:l.idxOf x=0
 ·rw[if_pos e,e];have hd:l=l.dropLast++[TT.gi l (l.length-1)]:=by
   have h1:=List.dropLast_concat_getLast (l:=l) (by intro z;rw[z]at h;cases h)
   have h2:TT.gi l (l.length-1)=l.getLast (by intro z;rw[z]at h;cases h):=by
    unfold TT.gi;rw[Ac0,Aa2 (by omega),List.getLast_eq_getElem];rfl
   rw[h2];exact h1.symm
  generalize TT.gi l (l.length-1)=y at hd;rw[hd,aK8];exact aH5
 ·rw[if_neg e];refine aA3 (l.idxOf x-1) (by omega) ?_
  unfold nI;rw[Aa9,TT.aT7 (by omega)];rfl
theorem Dw.tle {m:Nat}{dr tr:List (List Nat)}(h:Dw m dr tr)(p:Nat):(TT.trn dr p).length<=10:=by
 have:=TT.cK4 (h.good.nd p) (h.good.lt p)
 have:=h.m7
 omega
theorem Dw.lt {m:Nat}{dr tr:List (List Nat)}(h:Dw m dr tr){p q:Nat}(hq:q∈TT.trn dr p):p<m+3:=by
 rcases Nat.lt_or_ge p (m+3) with z | z
 ·exact z
 ·rw[h.good.hi p z]at hq;cases hq
theorem Dw.at_ {m:Nat}{dr tr:List (List Nat)}(h:Dw m dr tr){p:Nat}(hp:p<m+3):atI (dr.map tN) (p:Int)=some (tN (TT.trn dr p)):=
 aA3 p rfl (by rw[Aa9,bT7 (by rw[h.len];exact hp)];rfl)
section
variable {P:Program}{w:World}{K:PySem.W.Frag}{mg:Str->Option Value}{base:Heap}{a:Ad}
theorem cV3 (T:Tx K mg a):E3 P w K mg base CX0 1 a.t9 a.t4 ["ring"] (spL K cW2):=by
 refine T.aG5.ok aV0 (bS0 λds d ⟨_,_,_,e,_⟩=>by rw[e];rfl) (λcdv A outer s H vs Q E hr h=>?_)
 obtain ⟨ds,S,es,hS,r,⟨x,y,z,rfl,rfl⟩,q⟩:=h;refine⟨_,(A9 (E2 (Z7 (T:=["k"]) (N':=["k", "ring"]) (is:=[0]) rfl (.of rfl rfl rfl (by exact⟨rfl,trivial⟩) rfl rfl rfl (by exact⟨⟨_,rfl,by first | exact .inl rfl | exact .inr rfl,by first | exact .inl rfl | exact .inr rfl⟩,trivial⟩)) (G0 rfl T.E5 (A0 (B6 (aU5 K) (by rfl) T.Q8 PySem.boot_len (A0 (pv 0) A3)) A3)) (X1 (by decide)) λ_ _ _ _=>⟨(B9 (i:=0) (by decide +kernel:(["k", "ring"]:List Str).Nodup) rfl (Or.inl rfl)),i9,(J0 (A0 (B8 (ixK K) (pv 1) (B4 X8 (pv 0) A5) (λ_ _=>rfl)) (A0 (B8 (ixK K) (pv 1) (pv 0) (λ_ _=>rfl)) A3)))⟩))),aF7 hS r ?_ q⟩
 have cm:=X0 (K:=K) (m:=true) (ρ:=sl0 ["ring"].length [tI [x,y,z]]) (n:=1) (is:=[0]) (g:=W7 0) (tt:=bS2) (te:=bH7 (E9 (tOp (rIx K) (L5 1) (tOp (rI0 λi j=>.int (i-j)) (L5 0) (tC (.int 1)))) (E9 (tOp (rIx K) (L5 1) (L5 0)) W1))) (fWy x y z) (S4 (j:=3) (A2 (W6 (ds:=[.int x,.int y,.int z]) (A2 (A1 (i:=0) rfl) A7)) A7) (by omega) (by omega)) (by decide) (λd hd=>by
  obtain ⟨i,hi⟩:=List.mem_iff_getElem?.mp hd;obtain ⟨rfl,hi⟩:=S2 hi;refine⟨_,D1,aX5,?_⟩;have hi:i<3:=by omega
  rcases (show i=0\/i=1\/i=2 by omega) with rfl | rfl | rfl
  ·exact U5 (A2 (E7 (i:=((0:Nat):Int)-1) (d':=.int z) (ds:=[.int x,.int y,.int z]) (A1 (i:=1) rfl) (O6 (g:=λi j=>i-j) (A1 (i:=0) rfl) A8) rfl rfl) (A2 (E7 (i:=0) (d':=.int x) (ds:=[.int x,.int y,.int z]) (A1 (i:=1) rfl) (A1 (i:=0) rfl) rfl rfl) A7))
  ·exact U5 (A2 (E7 (i:=((1:Nat):Int)-1) (d':=.int x) (ds:=[.int x,.int y,.int z]) (A1 (i:=1) rfl) (O6 (g:=λi j=>i-j) (A1 (i:=0) rfl) A8) rfl rfl) (A2 (E7 (i:=1) (d':=.int y) (ds:=[.int x,.int y,.int z]) (A1 (i:=1) rfl) (A1 (i:=0) rfl) rfl rfl) A7))
  ·exact U5 (A2 (E7 (i:=((2:Nat):Int)-1) (d':=.int y) (ds:=[.int x,.int y,.int z]) (A1 (i:=1) rfl) (O6 (g:=λi j=>i-j) (A1 (i:=0) rfl) A8) rfl rfl) (A2 (E7 (i:=2) (d':=.int z) (ds:=[.int x,.int y,.int z]) (A1 (i:=1) rfl) (A1 (i:=0) rfl) rfl rfl) A7)))
 exact aP9 cm rfl
theorem bJ6 (T:Tx K mg a):E3 P w K mg base CX0 1 a.aE8 a.aF0 ["turn", "place"] (spV K cY0):=by
 refine T.w6.ok bI2 (aE1 λds d ⟨_,_,_,_,e,_⟩=>by rw[e];rfl) (λcdv A outer s H vs Q E hr h=>?_)
 obtain ⟨ds,S,d,hS,r,⟨l,x,hx,hl,rfl,rfl⟩,q⟩:=h;refine⟨_,(A9 (E2 (B8 (ixK K) (pv 0) (B4 X8 (N6 PySem.F.plainAttrs_tuple PySem.F.slot_tuple_index PySem.F.type_tuple_index (aY0 K) (pv 0) (A0 (pv 1) A3)) A5) (λ_ _=>rfl)))),S3 hS r ?_ q⟩
 have h:=bL2 (K:=K) (m:=false) (ρ:=sl0 ["turn", "place"].length [tI (l.map λ(x:Nat)=>(x:Int)),.int (x:Int)]) (ta:=L5 0) (tb:=L5 1) (k:=(x:Int)) (A1 (i:=0) rfl) (A1 (i:=1) rfl) (Aa8.mpr ⟨x,hx,rfl⟩)
 rw[aH3 x l,<- aS0]at h;exact U4 (E7 (ds:=nI l) (A1 (i:=0) rfl) (O6 (g:=λi j=>i-j) h A8) rfl (cG2 hx)) rfl
theorem cH8 (T:Tx K mg a):E3 P w K mg base CX0 2 a.aA2 a.u8 ["turns", "p", "q"] (spV K dK2):=by
 have G_ahead_in:E3 P w K mg base CX0 1 _ _ _ _:=bJ6 T
 refine T.aK0.ok sc_round_from (aE1 λds d ⟨_,_,_,_,_,_,_,e,_⟩=>by rw[e];rfl) (λcdv A outer s H vs Q E hr h=>?_)
 obtain ⟨ds,S,d,hS,r,⟨m,dr,tr,p,q',dw,hq,rfl,rfl⟩,q⟩:=h;refine⟨_,(A4 (B5 (i:=3) sc_round_from.nd rfl (Or.inl rfl) (C5 (A0 (pv 1) A3)))
   (A4 (B5 (i:=4) sc_round_from.nd rfl (Or.inl rfl) (pv 1))
   (A4 (B5 (i:=5) sc_round_from.nd rfl (Or.inl rfl) (pv 2))
   (A9 (aR6 PassesOwn.never (Z0 Z8) (A4 (B5 (i:=6) sc_round_from.nd rfl (Or.inl rfl) (C1 G_ahead_in (hr.mono (by decide)) rfl T.aF1 T.w6.kp T.aF3 .nil G6 (A0 (B8 (ixK K) (pv 0) (pv 5) (λ_ _=>rfl)) (A0 (pv 4) A3))))
   (A4 (Y2 (PW.pt (bT6 (G7 bN9 (pv 5) (pv 1) (M4 _)) (aZ9 (G7 bN9 (pv 6) (pv 2) (M4 _))))) (A9 (E2 (U6 (dN6 K) (by rfl) T.T5 boot_tuple (A0 (pv 3) A3)))) N4)
   (A4 (G3 (N6 Ab1 PySem.F.slot_list_append PySem.F.type_list_append D5 (pv 3) (A0 (pv 5) A3)))
   (A4 (B5 (i:=4) sc_round_from.nd rfl (Or.inl rfl) (pv 5))
   (A9 (B5 (i:=5) sc_round_from.nd rfl (Or.inl rfl) (pv 6)))))))))))),S3 hS r ?_ q⟩
 have G:=dw.good
 obtain ⟨n1,n2,n3⟩:=G.th_ne hq;obtain ⟨m1,m2⟩:=G.th_mem hq;have r1:=G.th_rot hq;have r2:=G.th_rot2 hq;have s1:=G.sym hq;have s2:=G.sym m1;have s3:=G.sym m2;have lp:=dw.lt hq;have lq:=dw.lt s1;have lt:=dw.lt m2;generalize ht:TT.th (TT.trn dr) p q'=t at *;refine B0 (M2 (G8 (A2 (A1 rfl) A7)) ?_ (show 3<7 by decide))
 refine B0 (L4 (A1 (i:=1) rfl) ?_);refine B0 (L4 (A1 (i:=2) rfl) ?_);refine bD6 (λk ρ=>∃x6,x6.nb=true/\((k=3/\ρ=[.val (.tuple (dr.map tN)),.val (.int (p:Int)),.val (.int (q':Int)),.own (nI [p]),.val (.int (p:Int)),.val (.int (q':Int)),x6])\/(k=2/\ρ=[.val (.tuple (dr.map tN)),.val (.int (p:Int)),.val (.int (q':Int)),.own (nI [p,q']),.val (.int (q':Int)),.val (.int (t:Int)),x6])\/(k=1/\ρ=[.val (.tuple (dr.map tN)),.val (.int (p:Int)),.val (.int (q':Int)),.own (nI [p,q',t]),.val (.int (t:Int)),.val (.int (p:Int)),x6]))) ⟨3,.no,rfl,.inl ⟨rfl,rfl⟩⟩ ?_
 rintro k ρ' ⟨x6,b6,⟨rfl,rfl⟩ | ⟨rfl,rfl⟩ | ⟨rfl,rfl⟩⟩
 ·refine⟨true,t_b aP7,?_⟩;rw[if_pos rfl];refine B0 (L4 (d:=.int (t:Int)) (G1 (A2 (E7 (ds:=dr.map tN) (A1 (i:=0) rfl) (A1 (i:=5) rfl) rfl (dw.at_ lq)) (A2 (A1 (i:=4) rfl) A7)) ⟨TT.trn dr q',p,s1,by have:=dw.tle q';omega,rfl,by rw[show TT.prd (TT.trn dr q') p=t from ht]⟩) ?_)
  show W K _ [.val (.tuple (dr.map tN)),.val (.int (p:Int)),.val (.int (q':Int)),.own (nI [p]),.val (.int (p:Int)),.val (.int (q':Int)),.val (.int (t:Int))] _
  refine B0 (aE6 (bH9 (G4 (aJ3 (i:=(q':Int)) (j:=(p:Int)) (A1 (i:=5) rfl) (A1 (i:=1) rfl))) λh=>(G4 (aJ3 (i:=(t:Int)) (j:=(q':Int)) (A1 (i:=6) rfl) (A1 (i:=2) rfl)))) (λh=>?_) (λh=>R8 ?_))
  ·exfalso;simp at h;omega
  refine B0 (O0 (d:=.int (q':Int)) rfl (A1 (i:=5) rfl) (by simp[nI];unfold PySem.sizeLine;omega) ?_)
  show W K _ [.val (.tuple (dr.map tN)),.val (.int (p:Int)),.val (.int (q':Int)),.own (nI ([p]++[q'])),.val (.int (p:Int)),.val (.int (q':Int)),.val (.int (t:Int))] _
  refine B0 (L4 (A1 (i:=5) rfl) ?_);refine L4 (A1 (i:=6) rfl) ⟨2,by omega,.val (.int (t:Int)),rfl,?_⟩
  exact .inr (.inl ⟨rfl,rfl⟩)
 ·refine⟨true,t_b aP7,?_⟩;rw[if_pos rfl];refine B0 (L4 (d:=.int (p:Int)) (G1 (A2 (E7 (ds:=dr.map tN) (A1 (i:=0) rfl) (A1 (i:=5) rfl) rfl (dw.at_ lt)) (A2 (A1 (i:=4) rfl) A7)) ⟨TT.trn dr t,q',s2,by have:=dw.tle t;omega,rfl,by rw[show TT.prd (TT.trn dr t) q'=p from r1]⟩) ?_)
  show W K _ [.val (.tuple (dr.map tN)),.val (.int (p:Int)),.val (.int (q':Int)),.own (nI [p,q']),.val (.int (q':Int)),.val (.int (t:Int)),.val (.int (p:Int))] _
  refine B0 (aE6 (bH9 (G4 (aJ3 (i:=(t:Int)) (j:=(p:Int)) (A1 (i:=5) rfl) (A1 (i:=1) rfl))) λh=>(G4 (aJ3 (i:=(p:Int)) (j:=(q':Int)) (A1 (i:=6) rfl) (A1 (i:=2) rfl)))) (λh=>?_) (λh=>R8 ?_))
  ·exfalso;simp at h;omega
  refine B0 (O0 (d:=.int (t:Int)) rfl (A1 (i:=5) rfl) (by simp[nI];unfold PySem.sizeLine;omega) ?_)
  show W K _ [.val (.tuple (dr.map tN)),.val (.int (p:Int)),.val (.int (q':Int)),.own (nI ([p,q']++[t])),.val (.int (q':Int)),.val (.int (t:Int)),.val (.int (p:Int))] _
  refine B0 (L4 (A1 (i:=5) rfl) ?_);refine L4 (A1 (i:=6) rfl) ⟨1,by omega,.val (.int (p:Int)),rfl,?_⟩
  exact .inr (.inr ⟨rfl,rfl⟩)
 ·refine⟨true,t_b aP7,?_⟩;rw[if_pos rfl];refine B0 (L4 (d:=.int (q':Int)) (G1 (A2 (E7 (ds:=dr.map tN) (A1 (i:=0) rfl) (A1 (i:=5) rfl) rfl (dw.at_ lp)) (A2 (A1 (i:=4) rfl) A7)) ⟨TT.trn dr p,t,s3,by have:=dw.tle p;omega,rfl,by rw[show TT.prd (TT.trn dr p) t=q' from r2]⟩) ?_)
  show W K _ [.val (.tuple (dr.map tN)),.val (.int (p:Int)),.val (.int (q':Int)),.own (nI [p,q',t]),.val (.int (t:Int)),.val (.int (p:Int)),.val (.int (q':Int))] _
  refine B0 (aE6 (bH9 (G4 (aJ3 (i:=(p:Int)) (j:=(p:Int)) (A1 (i:=5) rfl) (A1 (i:=1) rfl))) λh=>(G4 (aJ3 (i:=(q':Int)) (j:=(q':Int)) (A1 (i:=6) rfl) (A1 (i:=2) rfl)))) (λh=>U4 (aG8 (ds:=nI [p,q',t]) (A2 (N7 rfl) A7) (O5 _)) rfl) (λh=>?_))
  exfalso;simp at h
end
theorem sc_all_rounds:D6 ["turns", "seen", "rounds", "p", "turn", "q", "corners", "way"] ["turns"] (A6 Q0):=⟨rfl,rfl,rfl,by decide +kernel,rfl,by decide +kernel,by decide +kernel⟩
def cI (x:Nat×Nat):Int×Int:=((x.1:Int),(x.2:Int))
def aV4 (kvs:List (List Int×PyData))(ws:List (Nat×Nat)):List (List Int×PyData):=ws.foldl (λa w=>aF6 a [(w.1:Int),(w.2:Int)] (.bool true)) kvs
theorem bG6:∀(ws:List (Nat×Nat)) (kvs:List (List Int×PyData)) (x y:Nat),(aV4 kvs ws).any (λz=>decide (z.1=[(x:Int),(y:Int)]))=(kvs.any (λz=>decide (z.1=[(x:Int),(y:Int)]))||decide ((x,y)∈ws))
 | [],kvs,x,y=>by simp[aV4]
 | v::ws,kvs,x,y=>by
  have ih:=bG6 ws (aF6 kvs [(v.1:Int),(v.2:Int)] (.bool true)) x y
  show(aV4 (aF6 kvs [(v.1:Int),(v.2:Int)] (.bool true)) ws).any _=_
  rw[ih,cR3,Bool.or_assoc]
  congr 1
  rw[<- Bool.decide_or];refine decide_eq_decide.mpr ?_;rw[Aa1];refine or_congr ⟨λh=>?_,λh=>?_⟩ Iff.rfl
  ·simp only[List.cons.injEq,and_true]at h;exact Prod.ext (by show x=v.1;omega) (by show y=v.2;omega)
  ·rw[<- h]
theorem aP2:∀(ws:List (Nat×Nat)) (kvs:List (List Int×PyData)),(aV4 kvs ws).length<=kvs.length+ws.length
 | [],kvs=>by simp[aV4]
 | v::ws,kvs=>by
  have ih:=aP2 ws (aF6 kvs [(v.1:Int),(v.2:Int)] (.bool true))
  have:=cJ1 kvs [(v.1:Int),(v.2:Int)] (.bool true)
  show(aV4 (aF6 kvs [(v.1:Int),(v.2:Int)] (.bool true)) ws).length<=_
  rw[List.length_cons];omega
def pre (r:Nat->List Nat)(i j:Nat):List (Nat×Nat):=TT.gps r i++((r i).take j).map λq=>(i,q)
theorem cL7 (r:Nat->List Nat)(i:Nat):pre r i 0=TT.gps r i:=by simp[pre]
theorem dL2 (r:Nat->List Nat){i j q:Nat}(h:(r i)[j]? = some q):pre r i (j+1)=pre r i j++[(i,q)]:=by
 unfold pre;rw[List.take_succ,h];simp
theorem bC8 (r:Nat->List Nat)(i:Nat):pre r i (r i).length=TT.gps r (i+1):=by
 unfold pre TT.gps;rw[List.take_length,List.range_succ];simp
theorem mem_gps {r:Nat->List Nat}{n:Nat}{x:Nat×Nat}:x∈TT.gps r n↔x.1<n/\x.2∈r x.1:=by
 unfold TT.gps;simp only[List.mem_flatten,Aa8,Ab5];constructor
 ·rintro ⟨l,⟨p,hp,rfl⟩,hx⟩;obtain ⟨q,hq,rfl⟩:=Aa8.mp hx;exact⟨hp,hq⟩
 ·intro h;exact⟨_,⟨x.1,h.1,rfl⟩,Aa8.mpr ⟨x.2,h.2,rfl⟩⟩
def W2 (r:Nat->List Nat)(x:Nat×Nat):List Nat:=[x.1,x.2,TT.th r x.1 x.2]
def KS (r:Nat->List Nat)(kvs:List (List Int×PyData))(ps:List (Nat×Nat)):Prop:=
 ∀x y:Nat,y∈r x->(kvs.any (λz=>decide (z.1=[(x:Int),(y:Int)]))=true↔∃z∈ps,TT.low r z=true/\TT.lnd r x y=W2 r z)
theorem aO3 {r:Nat->List Nat}{z:Nat×Nat}(h:TT.low r z=true):TT.lnd r z.1 z.2=W2 r z:=by
 unfold TT.low at h;simp only[Bool.and_eq_true,decide_eq_true_eq]at h;unfold TT.lnd TT.nrm W2;rw[if_pos h]
theorem cG7 {r:Nat->List Nat}{x y:Nat×Nat}(h:W2 r x=W2 r y):x=y:=by
 unfold W2 at h;simp only[List.cons.injEq]at h;exact Prod.ext h.1 h.2.1
theorem dD1 {n:Nat}{r:Nat->List Nat}(G:TT.Good n r){kvs:List (List Int×PyData)}{i j q:Nat}(h:(r i)[j]? = some q)(ks:KS r kvs (pre r i j)):kvs.any (λz=>decide (z.1=[(i:Int),(q:Int)])) = !TT.low r (i,q):=by
 have hq:q∈r i:=List.mem_of_getElem? h
 have k:=ks i q hq
 cases hl:TT.low r (i,q) with
 | true=>
  rw[Bool.not_true,Bool.eq_false_iff];intro z;obtain ⟨z,hz,h1,h2⟩:=k.mp z
  have:z=(i,q):=(cG7 ((aO3 hl).symm.trans h2)).symm
  subst this;unfold pre at hz;rcases Aa0.mp hz with hz | hz
  ·have:=(mem_gps.mp hz).1;simp at this
  ·obtain ⟨q',hq',e⟩:=Aa8.mp hz;have e2:q'=q:=congrArg Prod.snd e;subst e2;obtain ⟨j',hj',e'⟩:=List.getElem_of_mem hq';have l1:j'<j:=by simp at hj';omega
   have l2:j<(r i).length:=(Ab0.mp h).1
   rw[List.getElem_take]at e'
   have:=TT.dB0 (G.nd i) (j:=j') (k:=j) (by omega) l2 (by
    unfold TT.gi;rw[Ac0,Ac0,h,Aa2 (by omega),e'])
   omega
 | false=>
  rw[Bool.not_false];refine k.mpr ?_;obtain ⟨a,b,c⟩:=G.th_ne hq;obtain ⟨m1,m2⟩:=G.th_mem hq;have r1:=G.th_rot hq;have r2:=G.th_rot2 hq;have hl:¬(i<q/\i<TT.th r i q):=λz=>by
   have:TT.low r (i,q)=true:=by simp[TT.low,z]
   rw[hl]at this;cases this
  unfold TT.lnd TT.nrm W2;rw[if_neg hl];by_cases h2:q<TT.th r i q/\q<i
  ·rw[if_pos h2];exact⟨(q,TT.th r i q),List.mem_append_left _ (mem_gps.mpr ⟨h2.2,m1⟩),by simp[TT.low,r1,h2],by simp[r1]⟩
  ·rw[if_neg h2];exact⟨(TT.th r i q,i),List.mem_append_left _ (mem_gps.mpr ⟨by show TT.th r i q<i;omega,m2⟩),by simp[TT.low,r2];omega,by simp[r2]⟩
theorem dB9 {r:Nat->List Nat}{kvs:List (List Int×PyData)}{ps:List (Nat×Nat)}{x:Nat×Nat}(ks:KS r kvs ps)(h:TT.low r x=false):KS r kvs (ps++[x]):=λa b hb=>by
 rw[ks a b hb];constructor
 ·rintro ⟨z,hz,k⟩;exact⟨z,List.mem_append_left _ hz,k⟩
 ·rintro ⟨z,hz,h1,h2⟩;rcases Aa0.mp hz with hz | hz
  ·exact⟨z,hz,h1,h2⟩
  ·rw[Ad6.mp hz,h]at h1;cases h1
theorem dB3 {n:Nat}{r:Nat->List Nat}(G:TT.Good n r){kvs:List (List Int×PyData)}{ps:List (Nat×Nat)}{x:Nat×Nat}(hx:x.2∈r x.1)(ks:KS r kvs ps)(h:TT.low r x=true):KS r (aV4 kvs (TT.wys (W2 r x))) (ps++[x]):=λa b hb=>by
 rw[bG6,Bool.or_eq_true,ks a b hb,decide_eq_true_iff,<- aO3 h];have w:(a,b)∈TT.wys (TT.lnd r x.1 x.2)↔TT.lnd r a b=TT.lnd r x.1 x.2:=⟨λz=>(G.wys_back hx z).2,λz=>by
  rw[G.wys_lnd hx];rcases G.lnd_eq hx hb z.symm with ⟨h1,h2⟩ | ⟨h1,h2⟩ | ⟨h1,h2⟩
  ·exact .inl (by rw[h1,h2])
  ·exact .inr (.inl (by rw[h1,h2]))
  ·exact .inr (.inr (by rw[h1,h2]))⟩
 rw[w];constructor
 ·rintro (⟨z,hz,k⟩ | e)
  ·exact⟨z,List.mem_append_left _ hz,k⟩
  ·exact⟨x,by simp,h,e.trans (aO3 h)⟩
 ·rintro ⟨z,hz,h1,h2⟩;rcases Aa0.mp hz with hz | hz
  ·exact .inl ⟨z,hz,h1,h2⟩
  ·rw[Ad6.mp hz]at h2;exact .inr (h2.trans (aO3 h).symm)
def cY2 (ds es:List PyData):Prop:=∃(m:Nat) (dr tr:List (List Nat)),Dw m dr tr/\ds=[.tuple (dr.map tN)]/\es=(TT.rds (TT.trn dr) (m+3)).map tN
theorem Dw.plen {m:Nat}{dr tr:List (List Nat)}(h:Dw m dr tr):∀i,(TT.gps (TT.trn dr) i).length<=10*i
 | 0=>by simp[TT.gps]
 | i+1=>by
  have:=h.plen i
  have:=h.tle i
  rw[<- bC8];unfold pre;rw[Ab7,Aa3,List.take_length];omega
section
variable {P:Program}{w:World}{K:PySem.W.Frag}{mg:Str->Option Value}{base:Heap}{a:Ad}
theorem cC7 (T:Tx K mg a):E3 P w K mg base CX0 3 a.w4 a.v5 ["turns"] (spL K cY2):=by
 have G_round_from:E3 P w K mg base CX0 2 _ _ _ _:=cH8 T
 have G_ways_round:E3 P w K mg base CX0 1 _ _ _ _:=cV3 T
 refine T.aJ9.ok sc_all_rounds (bS0 λds d ⟨_,_,_,_,e,_⟩=>by rw[e];rfl) (λcdv A outer s H vs Q E hr h=>?_)
 obtain ⟨ds,S,es,hS,r,⟨m,dr,tr,dw,rfl,rfl⟩,q⟩:=h;refine⟨_,(A4 (B5 (i:=1) sc_all_rounds.nd rfl (Or.inl rfl) cB4)
   (A4 (B5 (i:=2) sc_all_rounds.nd rfl (Or.inl rfl) (C5 A3))
   (A4 (L6 PassesOwn.never rfl (cN2 K rfl T.W3 (A0 (pv 0) A3)) (bQ4 (n:=2) rfl (Y9 (B9 (i:=3) sc_all_rounds.nd rfl (Or.inl rfl)) (Y9 (B9 (i:=4) sc_all_rounds.nd rfl (Or.inl rfl)) bE6))) (A9 (L6 PassesOwn.never rfl (bP7 (pv 4)) (B9 (i:=5) sc_all_rounds.nd rfl (Or.inl rfl)) (A9 (Y2 (G7 (bJ2 K hr) (J0 (A0 (pv 3) (A0 (pv 5) A3))) (pv 1) rfl) (A4 (B5 (i:=6) sc_all_rounds.nd rfl (Or.inl rfl) (C1 G_round_from (hr.mono (by decide)) rfl T.bC4 T.aK0.kp T.aZ5 .nil G6 (A0 (pv 0) (A0 (pv 3) (A0 (pv 5) A3)))))
   (A4 (L6 PassesOwn.never rfl (Z9 (C1 G_ways_round (hr.mono (by decide)) rfl T.bD1 T.aG5.kp T.bB3 .nil G6 (A0 (pv 6) A3))) (B9 (i:=7) sc_all_rounds.nd rfl (Or.inl rfl)) (A9 (cB2 K hr (pv 1) (pv 7) Z8)))
   (A9 (G3 (N6 Ab1 PySem.F.slot_list_append PySem.F.type_list_append D5 (pv 2) (A0 (pv 6) A3)))))) N4)))))
   (A9 (E2 (pv 2)))))),aF7 hS r ?_ q⟩
 have G:=dw.good
 have m7:=dw.m7
 have hdl:=dw.len
 refine B0 (bA4 bQ3 ?_ (show 1<8 by decide))
 refine B0 (M2 (G8 A7) ?_ (show 2<8 by decide))
 refine B0 (R6 (cT3 (ds:=dr.map tN) (A2 (A1 rfl) A7)) (λi ρ=>∃kvs x3 x4 x5 x6 x7,(x3.nb=true/\x4.nb=true/\x5.nb=true/\x6.nb=true/\x7.nb=true)/\KS (TT.trn dr) kvs (TT.gps (TT.trn dr) i)/\kvs.length<=3*(TT.gps (TT.trn dr) i).length/\ρ=[.val (.tuple (dr.map tN)),.tr (.dic kvs),.own (((((TT.gps (TT.trn dr) i).filter (TT.low (TT.trn dr))).map (W2 (TT.trn dr)))).map tN),x3,x4,x5,x6,x7]) ⟨[],.no,.no,.no,.no,.no,⟨rfl,rfl,rfl,rfl,rfl⟩,λx y _=>by simp[TT.gps],by simp,rfl⟩ ?_ ?_)
 ·rintro i d _ hd ⟨kvs,x3,x4,x5,x6,x7,⟨b3,b4,b5,b6,b7⟩,hks,hkl,rfl⟩;obtain ⟨y,hy,rfl⟩:=bO6 hd;rw[Aa9]at hy;obtain ⟨row,h1,rfl⟩:=Option.map_eq_some_iff.mp hy;have hi:i<dr.length:=(Ab0.mp h1).1;have er:TT.trn dr i=row:=by unfold TT.trn;rw[h1];rfl
  have hp:=dw.plen i
  refine⟨_,cF7 (aA0 D1 (aA0 D1 bR3)),?_⟩;rw[<- er];show W K _ [.val (.tuple (dr.map tN)),.tr (.dic kvs),.own (((((TT.gps (TT.trn dr) i).filter (TT.low (TT.trn dr))).map (W2 (TT.trn dr)))).map tN),.val (.int (i:Int)),.val (tN (TT.trn dr i)),x5,x6,x7] _;refine R6 (cM3 (ds:=nI (TT.trn dr i)) (A1 (i:=4) rfl)) (λj ρ=>∃kvs x5 x6 x7,(x5.nb=true/\x6.nb=true/\x7.nb=true)/\KS (TT.trn dr) kvs (pre (TT.trn dr) i j)/\kvs.length<=3*(pre (TT.trn dr) i j).length/\ρ=[.val (.tuple (dr.map tN)),.tr (.dic kvs),.own (((((pre (TT.trn dr) i j).filter (TT.low (TT.trn dr))).map (W2 (TT.trn dr)))).map tN),.val (.int (i:Int)),.val (tN (TT.trn dr i)),x5,x6,x7]) ⟨kvs,x5,x6,x7,⟨b5,b6,b7⟩,by rw[cL7];exact hks,by rw[cL7];exact hkl,by rw[cL7]⟩ ?_ ?_
  ·rintro j d _ hd ⟨kvs,x5,x6,x7,⟨b5,b6,b7⟩,hks,hkl,rfl⟩;unfold nI at hd;rw[Aa9]at hd;obtain ⟨q',hq',rfl⟩:=Option.map_eq_some_iff.mp hd;have hq:q'∈TT.trn dr i:=List.mem_of_getElem? hq';have hj:j<(TT.trn dr i).length:=(Ab0.mp hq').1;have htl:=dw.tle i;have lowq:=dD1 G hq' hks;have hps:=dL2 (TT.trn dr) hq';have hpl:(pre (TT.trn dr) i j).length<=110:=by
    unfold pre;rw[Ab7,Aa3,Ad0];omega
   refine⟨_,D1,?_⟩;generalize hF:((pre (TT.trn dr) i j).filter (TT.low (TT.trn dr))).map (W2 (TT.trn dr))=F;have hFl:F.length<=110:=by rw[<- hF,Aa3];exact Nat.le_trans (List.length_filter_le _ _) hpl
   show W K _ [.val (.tuple (dr.map tN)),.tr (.dic kvs),.own (F.map tN),.val (.int (i:Int)),.val (tN (TT.trn dr i)),.val (.int (q':Int)),x6,x7] _
   have tst:=cW3 (K:=K) (m:=false) (neg:=true) (i:=1) (kvs:=kvs) (ks:=[(i:Int),(q':Int)]) (ρ:=[.val (.tuple (dr.map tN)),.tr (.dic kvs),.own (F.map tN),.val (.int (i:Int)),.val (tN (TT.trn dr i)),.val (.int (q':Int)),x6,x7]) (U5 (A2 (A1 (i:=3) rfl) (A2 (A1 (i:=5) rfl) A7))) rfl
   rw[lowq]at tst;have e:(true ^^ !TT.low (TT.trn dr) (i,q'))=TT.low (TT.trn dr) (i,q'):=by cases TT.low (TT.trn dr) (i,q') <;> rfl
   rw[e]at tst;refine aE6 (G4 tst) (λhl=>?_) (λhl=>R8 ⟨kvs,.val (.int (q':Int)),x6,x7,⟨rfl,b6,b7⟩,by rw[hps];exact dB9 hks hl,by rw[hps,Ab7];omega,by rw[hps,List.filter_append];simp[hl,hF]⟩)
   refine B0 (L4 (d:=tN (W2 (TT.trn dr) (i,q'))) (G1 (A2 (A1 (i:=0) rfl) (A2 (A1 (i:=3) rfl) (A2 (A1 (i:=5) rfl) A7))) ⟨m,dr,tr,i,q',dw,hq,rfl,rfl⟩) ?_);show W K _ [.val (.tuple (dr.map tN)),.tr (.dic kvs),.own (F.map tN),.val (.int (i:Int)),.val (tN (TT.trn dr i)),.val (.int (q':Int)),.val (tN (W2 (TT.trn dr) (i,q'))),x7] _;have hw:(wys (i:Int) (q':Int) (TT.th (TT.trn dr) i q':Int)).map pD=(TT.wys (W2 (TT.trn dr) (i,q'))).map λx=>pD (cI x):=rfl
   refine B0 (R6 (aB4 (ds:=(TT.wys (W2 (TT.trn dr) (i,q'))).map λx=>pD (cI x)) (EF.e' (Z4 (A2 (A1 (i:=6) rfl) A7) ⟨(i:Int),(q':Int),(TT.th (TT.trn dr) i q':Int),rfl,hw.symm⟩))) (λl ρ=>∃x7,x7.nb=true/\ρ=[.val (.tuple (dr.map tN)),.tr (.dic (aV4 kvs ((TT.wys (W2 (TT.trn dr) (i,q'))).take l))),.own (F.map tN),.val (.int (i:Int)),.val (tN (TT.trn dr i)),.val (.int (q':Int)),.val (tN (W2 (TT.trn dr) (i,q'))),x7]) ⟨x7,b7,rfl⟩ ?_ ?_)
   ·rintro l d _ hd ⟨x7,b7,rfl⟩;rw[Aa9]at hd;obtain ⟨v,hv,rfl⟩:=Option.map_eq_some_iff.mp hd;have hvl:l<3:=(Ab0.mp hv).1;refine⟨_,D1,?_⟩;have hkp:=aP2 ((TT.wys (W2 (TT.trn dr) (i,q'))).take l) kvs;rw[Ad0]at hkp;refine cF9 (ks:=[(v.1:Int),(v.2:Int)]) aP7 (i:=1) rfl (LV.E.imm (m:=false) (A1 (i:=7) rfl)) (by unfold PySem.sizeLine;omega) ⟨.val (pD (cI v)),rfl,?_⟩
    rw[List.take_succ,hv];unfold aV4;rw[List.foldl_append];rfl
   ·rintro _ ⟨x7,b7,rfl⟩;have hkp:=aP2 (TT.wys (W2 (TT.trn dr) (i,q'))) kvs;have e3:(TT.wys (W2 (TT.trn dr) (i,q'))).length=3:=rfl;rw[Aa3,List.take_length];refine O0 (d:=tN (W2 (TT.trn dr) (i,q'))) rfl (A1 (i:=6) rfl) (by rw[Aa3];unfold PySem.sizeLine;omega) ⟨aV4 kvs (TT.wys (W2 (TT.trn dr) (i,q'))),.val (.int (q':Int)),.val (tN (W2 (TT.trn dr) (i,q'))),x7,⟨rfl,rfl,b7⟩,by rw[hps];exact dB3 G hq hks hl,by rw[hps,Ab7,List.length_singleton];omega,?_⟩ (by cases x7 <;> first | rfl | cases b7)
    rw[hps,List.filter_append,Ad1,Ad1,hF]
    simp[hl]
  ·rintro _ ⟨kvs,x5,x6,x7,⟨b5,b6,b7⟩,hks,hkl,rfl⟩;rw[M0]at *;rw[bC8]at hks hkl;exact⟨kvs,_,_,x5,x6,x7,⟨rfl,rfl,b5,b6,b7⟩,hks,hkl,by rw[bC8]⟩
 rintro _ ⟨kvs,x3,x4,x5,x6,x7,_,_,_,rfl⟩;rw[bZ8,Aa3,hdl];exact bO9 rfl rfl
end
end K01
set_option maxHeartbeats 4000000
namespace K01
open PySem L2 LV PyProof.Rows
theorem cR5:D6 ["drawing"] ["drawing"] (A6 aC9):=⟨rfl,rfl,rfl,by decide +kernel,rfl,by decide +kernel,by decide +kernel⟩
def cL (l:List Nat):List Int:=l.map λ(x:Nat)=>(x:Int)
theorem cZ5 (l:List Nat):tN l=tI (cL l):=aS0 l
theorem cJ4 (L:List (List Nat)):L.map tN=(L.map cL).map tI:=by rw[Ae0];exact List.map_congr_left λl _=>cZ5 l
theorem dE3 {a b:List Nat}(h:cL a=cL b):a=b:=by
 unfold cL at h
 have:=congrArg (List.map Int.toNat) h
 simpa[Ae0,Function.comp_def]using this
theorem bT8 (a b:List Int):PyData.eqv (tI a) (tI b)=decide (a=b):=by
 unfold tI;rw[PyData.eqv];exact y4 (f:=PyData.int) aO4 a b
def cY3 (ds es:List PyData):Prop:=∃(m:Nat) (dr tr:List (List Nat)),Dw m dr tr/\ds=[.tuple (dr.map tN)]/\es=(cE5 ((TT.rds (TT.trn dr) (m+3)).map cL)).map tI
def dN3 (ds es:List PyData):Prop:=∃(m:Nat) (dr tr:List (List Nat)),Dw m dr tr/\ds=[.tuple (dr.map tN)]/\es=((cE5 ((TT.rds (TT.trn dr) (m+3)).map cL)).filter λl=>decide (l≠[0,2,1])).map tI
def fIn (d:PyData):Option PyData:=if PyData.eqv d (tI [0,2,1]) then none else some d
theorem bX0 (L:List (List Int)):(L.map tI).filterMap fIn=(L.filter λl=>decide (l≠[0,2,1])).map tI:=by
 induction L with
 | nil=>rfl
 | cons l L ih=>
  have e:fIn (tI l)=if l=[0,2,1] then none else some (tI l):=by
   unfold fIn;rw[bT8];by_cases h:l=[0,2,1] <;> simp[h]
  rw[Ac6,List.filterMap_cons,e,List.filter_cons];by_cases h:l=[0,2,1]
  ·rw[if_pos h,if_neg (by simp[h])];exact ih
  ·rw[if_neg h,if_pos (by simp[h]),Ac6]
   show _::_=_::_
   rw[ih]
section
variable {P:Program}{w:World}{K:PySem.W.Frag}{mg:Str->Option Value}{base:Heap}{a:Ad}
theorem bL7 (T:Tx K mg a):E3 P w K mg base CX0 4 a.bG5 a.bG1 ["drawing"] (spL K cY3):=by
 have G_all_rounds:E3 P w K mg base CX0 3 _ _ _ _:=cC7 T
 refine T.bD0.ok cR5 (bS0 λds d ⟨_,_,_,_,e,_⟩=>by rw[e];rfl) (λcdv A outer s H vs Q E hr h=>?_)
 obtain ⟨ds,S,es,hS,r,⟨m,dr,tr,dw,rfl,rfl⟩,q⟩:=h;refine⟨_,(A9 (E2 (B6 (aR0 K) (by rfl) T.W0 boot_sorted (A0 (C1 G_all_rounds (hr.mono (by decide)) rfl T.bE8 T.aJ9.kp T.bE2 .nil G6 (A0 (pv 0) A3)) A3)))),aF7 hS r ?_ q⟩
 have hl:=dw.good.rds_len
 have m7:=dw.m7
 have ec:=Z4 (K:=K) (pre:=cY2) (X:=E0) (ρ:=sl0 ["drawing"].length [.tuple (dr.map tN)]) (A2 (A1 (i:=0) rfl) A7) ⟨m,dr,tr,dw,rfl,rfl⟩
 rw[cJ4 (TT.rds (TT.trn dr) (m+3))]at ec;refine aP9 (bJ8 (ts:=(TT.rds (TT.trn dr) (m+3)).map cL) (A2 (EF.e' ec) A7) (λt ht=>?_) (by rw[Aa3];omega) (V5 _) (aY5 _)) rfl
 obtain ⟨l,hl,rfl⟩:=Aa8.mp ht;obtain ⟨p,q',_,rfl⟩:=dw.good.rds_mem.mp hl;unfold TT.lnd;rcases TT.X3 p q' (TT.th (TT.trn dr) p q') with e | e | e <;> rw[e] <;> simp[cL]
end
end K01
namespace TT
section
variable {n:Nat}{r:Nat->List Nat}
theorem aZ4 {α:Type}[DecidableEq α]{l m:List α}(hl:l.Nodup)(hm:m.Nodup)(h:∀x,x∈l↔x∈m):l.Perm m:=(List.perm_ext_iff_of_nodup hl hm).mpr h
theorem cQ4 {α β:Type}{f:α->β}{l:List α}(nd:l.Nodup)(h:∀x∈l,∀y∈l,f x=f y->x=y):(l.map f).Nodup:=by
 rw[Ac5,Ad8];exact(Ac5.mp nd).imp_of_mem λ{a b} ha hb hne e=>hne (h a ha b hb e)
theorem Good.gps_swap (G:Good n r):((gps r n).map λx=>(x.2,x.1)).Perm (gps r n):=by
 refine aZ4 (cQ4 G.gps_nd λx _ y _ e=>?_) G.gps_nd λx=>?_
 ·have h1:=congrArg Prod.fst e
  have h2:=congrArg Prod.snd e
  exact Prod.ext h2 h1
 ·rw[Aa8,G.gps_mem];constructor
  ·rintro ⟨y,hy,rfl⟩;exact G.sym (G.gps_mem.mp hy)
  ·intro h;exact⟨(x.2,x.1),G.gps_mem.mpr (G.sym h),rfl⟩
theorem Good.ties (G:Good n r):((gps r n).filter λx=>decide (x.1<x.2)&&decide (3<=x.2)).length+9=3*n:=by
 have tot:=G.gps_len
 have sp:∀(f:Nat×Nat->Bool) (l:List (Nat×Nat)),(l.filter f).length+(l.filter λx => !f x).length=l.length:=λf l=>by
  rw[<- Ab7];exact(List.filter_append_perm f l).length_eq
 have s1:=sp (λx=>decide (x.1<x.2)) (gps r n)
 have eq:((gps r n).filter λx => !decide (x.1<x.2)).length=((gps r n).filter λx=>decide (x.1<x.2)).length:=by
  have:=(G.gps_swap.filter λx=>decide (x.1<x.2)).length_eq
  rw[<- this,List.filter_map,Aa3]
  congr 1
  refine List.filter_congr λx hx=>?_
  have:=(G.th_ne (G.gps_mem.mp hx)).1
  rw[Bool.eq_iff_iff]
  simp[Function.comp]
  omega
 have s2:=sp (λx=>decide (3<=x.2)) ((gps r n).filter λx=>decide (x.1<x.2))
 rw[List.filter_filter,List.filter_filter]at s2;have c3:((gps r n).filter λx => !decide (3<=x.2)&&decide (x.1<x.2)).length=3:=by
  have a01:=(W8 G.out).1
  have a02:=(W8 G.out).2
  have a12:=(W8 (G.tri _ _ _ G.out)).1
  have p:((gps r n).filter λx => !decide (3<=x.2)&&decide (x.1<x.2)).Perm [(0,1),(0,2),(1,2)]:=by
   refine aZ4 (G.gps_nd.filter _) (by decide) λx=>?_
   rw[List.mem_filter,G.gps_mem];constructor
   ·rintro ⟨h,hb⟩;simp at hb;obtain ⟨x1,x2⟩:=x
    have:(x1=0/\x2=1)\/(x1=0/\x2=2)\/(x1=1/\x2=2):=by simp at hb;omega
    rcases this with ⟨rfl,rfl⟩ | ⟨rfl,rfl⟩ | ⟨rfl,rfl⟩ <;> simp
   ·intro h;simp at h;rcases h with rfl | rfl | rfl
    ·exact⟨G.sym a12,by decide⟩
    ·exact⟨G.sym a02,by decide⟩
    ·exact⟨G.sym a01,by decide⟩
  exact p.length_eq
 have e3:((gps r n).filter λx=>decide (3<=x.2)&&decide (x.1<x.2))=(gps r n).filter λx=>decide (x.1<x.2)&&decide (3<=x.2):=List.filter_congr λx _=>Bool.and_comm _ _
 rw[e3]at s2;omega
def srN (l:List Nat):List Nat:=l.mergeSort λa b=>decide (a<=b)
theorem Y7 (l:List Nat):(srN l).Perm l:=List.mergeSort_perm _ _
theorem bN4 (l:List Nat):(srN l).Pairwise (· <= ·):=by
 have:=List.pairwise_mergeSort (le:=λa b:Nat=>decide (a<=b)) (by intro a b c;simp;omega) (by intro a b;simp;omega) l
 exact this.imp λh=>of_decide_eq_true h
def iti (r:Nat->List Nat)(p:Nat):List (Nat×Nat):=((srN (r p)).filter λq=>decide (p<q)&&decide (3<=q)).map λq=>(p,q)
theorem Good.iti_len (G:Good n r):(((List.range n).map λp=>iti r p).flatten).length+9=3*n:=by
 rw[<- G.ties];unfold gps iti;rw[List.filter_flatten,List.length_flatten,List.length_flatten,Ae0,Ae0,Ae0]
 congr 2
 refine List.map_congr_left λp _=>?_
 simp only[Function.comp];rw[List.filter_map,Aa3,Aa3];exact((Y7 (r p)).filter _).length_eq
end
end TT
namespace LH
open PySem PySem.SetTable
def stp (mask i:Nat):Nat:=(i*5+1) % (mask+1)
def itr (mask:Nat):Nat->Nat->Nat
 | 0,i=>i
 | n+1,i=>itr mask n (stp mask i)
def Full (mask:Nat):Prop:=∀i,i<=mask->∀j,j<=mask->∃n,n<=mask/\itr mask n i=j
theorem full7:Full 7:=by
 have:∀i,i<8->∀j,j<8->∃n,n<8/\itr 7 n i=j:=by decide +kernel
 intro i hi j hj;obtain ⟨n,h1,h2⟩:=this i (by omega) j (by omega)
 exact⟨n,by omega,h2⟩
theorem full31:Full 31:=by
 have:∀i,i<32->∀j,j<32->∃n,n<32/\itr 31 n i=j:=by decide +kernel
 intro i hi j hj;obtain ⟨n,h1,h2⟩:=this i (by omega) j (by omega)
 exact⟨n,by omega,h2⟩
def run (mask:Nat):Nat->Nat->Nat->Nat
 | 0,i,_=>i
 | n+1,i,p=>run mask n (leap mask i p).1 (leap mask i p).2
theorem bU2 (mask i p:Nat):(leap mask i p).1<=mask:=Nat.le_of_lt_succ (Nat.mod_lt _ (by omega))
theorem dJ9 (mask:Nat):∀n i,run mask n i 0=itr mask n i
 | 0,_=>rfl
 | n+1,i=>by
  show run mask n ((i*5+1+0 / 32) % (mask+1)) (0 / 32)=itr mask n ((i*5+1) % (mask+1))
  rw[Nat.zero_div,Nat.add_zero];exact dJ9 mask n _
theorem bW2 (mask:Nat):∀k i p,p<32^k->∃i',(i<=mask->i'<=mask)/\∀n,run mask (k+n) i p=run mask n i' 0
 | 0,i,p,h=>by
  obtain rfl:p=0:=by simp at h;omega
  exact⟨i,id,λn=>by rw[Nat.zero_add]⟩
 | k+1,i,p,h=>by
  obtain ⟨i',h1,h2⟩:=bW2 mask k (leap mask i p).1 (p / 32) (by
   rw[Nat.pow_succ]at h;exact Nat.div_lt_of_lt_mul (by omega))
  refine⟨i',λ_=>h1 (bU2 _ _ _),λn=>?_⟩
  rw[show k+1+n=(k+n)+1 by omega]
  exact h2 n
theorem bU0 {mask:Nat}(F:Full mask){i p j:Nat}(hi:i<=mask)(hp:p<2^64)(hj:j<=mask):∃n,n<=mask+13/\run mask n i p=j:=by
 obtain ⟨i',h1,h2⟩:=bW2 mask 13 i p (Ab8 hp (by decide))
 obtain ⟨n,h3,h4⟩:=F i' (h1 hi) j hj;exact⟨13+n,by omega,by rw[h2,dJ9,h4]⟩
def adv (t:SetTable):Nat->Probe->Probe
 | 0,p=>p
 | n+1,p=>adv t n (t.advance p)
def beg (mask i p:Nat)(d:Option Nat):Probe:={j:=i,more:=runEnd mask i-i,i,perturb:=p,dummy:=d}
theorem cB6 (mask i:Nat):runEnd mask i-i<=9:=by unfold runEnd;split <;> omega
theorem bE1 (t:SetTable):∀(k j i p:Nat) (d:Option Nat),adv t (k+1) {j,more:=k,i,perturb:=p,dummy:=d}=beg t.mask (leap t.mask i p).1 (leap t.mask i p).2 d
 | 0,j,i,p,d=>rfl
 | k+1,j,i,p,d=>by
  show adv t (k+1) (t.advance _)=_
  have:t.advance {j,more:=k+1,i,perturb:=p,dummy:=d}={j:=j+1,more:=k,i,perturb:=p,dummy:=d}:=by
   unfold advance;rw[if_pos (show k+1>0 by omega)];rfl
  rw[this];exact bE1 t k (j+1) i p d
theorem aI6 (t:SetTable):∀a b p,adv t (a+b) p=adv t b (adv t a p)
 | 0,b,p=>by rw[Nat.zero_add];rfl
 | a+1,b,p=>by rw[show a+1+b=(a+b)+1 by omega];exact aI6 t a b _
theorem bN6 (t:SetTable):∀n i p d,∃k,k<=10*n/\(adv t k (beg t.mask i p d)).j=run t.mask n i p
 | 0,i,p,d=>⟨0,by omega,rfl⟩
 | n+1,i,p,d=>by
  obtain ⟨k,h1,h2⟩:=bN6 t n (leap t.mask i p).1 (leap t.mask i p).2 d
  have:=cB6 t.mask i
  refine⟨(runEnd t.mask i-i+1)+k,by omega,?_⟩
  rw[aI6,show adv t (runEnd t.mask i-i+1) (beg t.mask i p d)=_ from bE1 t _ _ _ _ _]
  exact h2
def Rch (t:SetTable)(p:Probe)(n:Nat):Prop:=p.dummy=none/\∃k,k<=n/\t.slot (adv t k p).j=.empty
theorem bD3 {t:SetTable}{j:Nat}(hd:t.dummies = #[])(h:j∉t.place):t.slot j=.empty:=by
 unfold slot
 have:¬(t.place[below t.place j]? == some j)=true:=λz=>h (Array.mem_of_getElem? (beq_iff_eq.mp z))
 rw[if_neg this,hd,if_neg];unfold has;simp
theorem aQ1 {t:SetTable}{j:Nat}(hd:t.dummies = #[]):t.slot j=.empty\/∃i,t.place[i]? = some j/\t.slot j=.live i:=by
 by_cases h:t.place[below t.place j]? = some j
 ·exact .inr ⟨_,h,by unfold slot;rw[if_pos (beq_iff_eq.mpr h)]⟩
 ·refine .inl ?_;unfold slot;rw[if_neg (λz=>h (beq_iff_eq.mp z)),hd,if_neg]
  unfold has;simp
theorem rch_start {t:SetTable}(F:Full t.mask)(hd:t.dummies = #[]){j:Nat}(hj:j<=t.mask)(h:j∉t.place)(x:Int):Rch t (t.probeStart x) (10*(t.mask+13)):=by
 have hb:bits x<2^64:=by unfold bits;omega
 obtain ⟨n,h1,h2⟩:=bU0 F (i:=bits x % (t.mask+1)) (Nat.le_of_lt_succ (Nat.mod_lt _ (by omega))) hb hj
 obtain ⟨k,h3,h4⟩:=bN6 t n (bits x % (t.mask+1)) (bits x) none;refine⟨rfl,k,by omega,?_⟩
 have:t.probeStart x=beg t.mask (bits x % (t.mask+1)) (bits x) none:=rfl
 rw[this,h4,h2];exact bD3 hd h
theorem cD9 (t:SetTable)(p:Probe):(t.advance p).dummy=p.dummy:=by
 unfold advance;split <;> rfl
inductive Mt (t:SetTable)(n:Nat):Met->Prop
 | emp {j}:Mt t n (.empty j none)
 | cand {j i next n'}:t.slot j=.live i->t.place[i]? = some j->n'<n->Rch t next n'->Mt t n (.candidate j i next)
theorem cR1 {t:SetTable}(hd:t.dummies = #[])(f:Nat->Int)(h:Int):∀(fuel n:Nat) (p:Probe),Rch t p n->n<fuel->∃m,probe.go t f h fuel p=some m/\Mt t n m
 | 0,n,p,_,hf=>absurd hf (by omega)
 | fuel+1,n,p,⟨hn,k,hk,he⟩,hf=>by
  unfold probe.go;rcases aQ1 (j:=p.j) hd with e | ⟨i,e1,e2⟩
  ·rw[e];exact⟨_,rfl,by rw[hn];exact .emp⟩
  ·rw[e2];have hr:∃n',n=n'+1/\Rch t (t.advance p) n':=by
    cases k with
    | zero=>rw[show adv t 0 p=p from rfl,e2]at he;cases he
    | succ k=>exact⟨n-1,by omega,by rw[cD9];exact hn,k,by omega,he⟩
   obtain ⟨n',rfl,hr⟩:=hr;dsimp only;split
   ·exact⟨_,rfl,.cand e2 e1 (by omega) hr⟩
   ·obtain ⟨m,h1,h2⟩:=cR1 hd f h fuel n' _ hr (by omega)
    refine⟨m,h1,?_⟩;cases h2 with
    | emp=>exact .emp
    | cand a b c d=>exact .cand a b (by omega) d
theorem probe_met {t:SetTable}(hd:t.dummies = #[])(f:Nat->Int)(h:Int){p:Probe}{n:Nat}(hr:Rch t p n)(hn:n<=10*(t.mask+13)):∃m,t.probe f h p=some m/\Mt t n m:=
 cR1 hd f h _ n p hr (by unfold turns;omega)
theorem nodup_le {α:Type}:∀{l l':List α},l.Nodup->(∀x∈l,x∈l')->l.length<=l'.length:=λ{l l'} hn hs=>by
 classical
 induction l generalizing l' with
 | nil=>simp
 | cons a l ih=>
  have ha:=hs a List.mem_cons_self
  rw[Aa5]at hn
  have:=ih (l':=l'.erase a) hn.2 (λx hx=>(List.mem_erase_of_ne (λ(e:x=a)=>hn.1 (e▸hx))).mpr (hs x (Ad3 _ hx)))
  rw[List.length_erase_of_mem ha]at this
  have:=List.length_pos_of_mem ha
  simp;omega
theorem place_free {t:SetTable}(h:t.place.size<=t.mask):∃j,j<=t.mask/\j∉t.place:=by
 apply Classical.byContradiction
 intro hc
 have:=nodup_le (l:=List.range (t.mask+1)) (l':=t.place.toList) List.nodup_range (λx hx=>by
  have hx:=Ab5.mp hx
  exact Classical.byContradiction λz=>hc ⟨x,by omega,λy=>z (Array.mem_toList_iff.mpr y)⟩)
 rw[List.length_range,Array.length_toList]at this;omega
theorem cP7 {α β:Type}(f:α->Option β):∀L:List α,(∀x∈L,f x≠none)->(L.filterMap f).length=L.length
 | [],_=>rfl
 | x::L,h=>by
  cases e:f x with
  | none=>exact absurd e (h x List.mem_cons_self)
  | some y=>rw[List.filterMap_cons,e];simp[cP7 f L λz hz=>h z (Ad3 _ hz)]
theorem aL9 {α β:Type}{f g:α->Option β}:∀{L:List α},(∀x∈L,f x=g x)->L.filterMap f=L.filterMap g
 | [],_=>rfl
 | x::L,h=>by rw[List.filterMap_cons,List.filterMap_cons,h x List.mem_cons_self,aL9 λz hz=>h z (Ad3 _ hz)]
theorem cG1 {β:Type}{f f':Nat->Option β}{j:Nat}{k:β}(h0:f j=none)(h1:f' j=some k)(h2:∀x,x≠j->f' x=f x):∀{L:List Nat},L.Nodup->j∈L->(L.filterMap f').Perm (k::L.filterMap f)
 | [],_,h=>by cases h
 | x::L,nd,h=>by
  rw[Aa5]at nd;rw[List.filterMap_cons,List.filterMap_cons];by_cases e:x=j
  ·subst e;rw[h1,h0,aL9 (g:=f) λz hz=>h2 z λe=>nd.1 (e▸hz)]
  ·rw[h2 x e];have ih:=cG1 h0 h1 h2 nd.2 ((Aa1.mp h).resolve_left λz=>e z.symm)
   cases f x with
   | none=>exact ih
   | some y=>exact(ih.cons y).trans (List.Perm.swap _ _ _)
def own (mask:Nat)(o:Array (Option Nat)):List Nat:=(List.range (mask+1)).filterMap λj=>o.getD j none
theorem aW1 (mask:Nat)(o:Array (Option Nat)){j:Nat}(hj:(o.getD j (some 0)).isNone=true):∀(n fuel i p:Nat),run mask n i p=j->n<fuel->∃j',layClean.free mask o fuel i p=some j'/\(o.getD j' (some 0)).isNone=true
 | n,0,i,p,_,h=>absurd h (by omega)
 | n,fuel+1,i,p,hr,h=>by
  unfold layClean.free;cases e:(List.range (runEnd mask i+1-i)).find? λk=>(o.getD (i+k) (some 0)).isNone with
  | some k=>
   have:=List.find?_some e
   exact⟨i+k,rfl,this⟩
  | none=>
   cases n with
   | zero=>
    have hi:i=j:=hr
    have:=List.find?_eq_none.mp e 0 (Ab5.mpr (by unfold runEnd;split <;> omega))
    rw[Nat.add_zero,hi]at this;exact absurd hj this
   | succ n=>exact aW1 mask o hj n fuel _ _ hr (by omega)
theorem getD_none {o:Array (Option Nat)}{j:Nat}(h:(o.getD j (some 0)).isNone=true):j<o.size/\o[j]? = some none:=by
 rw[Array.getD_eq_getD_getElem?]at h;cases e:o[j]? with
 | none=>rw[e]at h;cases h
 | some x=>
  rw[e]at h;cases x with
  | none=>exact⟨(Array.getElem?_eq_some_iff.mp e).1,rfl⟩
  | some _=>cases h
theorem aT0 {mask:Nat}(F:Full mask):∀(hs:List Int) (o:Array (Option Nat)) (k:Nat),o.size=mask+1->(own mask o).Perm (List.range k)->k+hs.length<=mask ->
  ∃o',hs.foldl (λacc h=>do
   let (owner,k) <- acc
   let j <- layClean.free mask owner (turns mask) (bits h % (mask+1)) (bits h)
   pure (owner.setIfInBounds j (some k),k+1)) (some (o,k))=some (o',k+hs.length)/\o'.size=mask+1/\(own mask o').Perm (List.range (k+hs.length))
 | [],o,k,h1,h2,_=>⟨o,rfl,h1,h2⟩
 | h::hs,o,k,h1,h2,h3=>by
  rw[List.length_cons]at h3;have hex:∃j,j<=mask/\(o.getD j (some 0)).isNone=true:=by
   apply Classical.byContradiction
   intro hc
   have:=cP7 (λj=>o.getD j none) (List.range (mask+1)) (λx hx e=>hc ⟨x,by have:=Ab5.mp hx;omega,by
    have hx:=Ab5.mp hx
    rw[Array.getD_eq_getD_getElem?,Array.getElem?_eq_getElem (by omega)]at e ⊢
    have e:o[x]=none:=e
    show(o[x]).isNone=true
    rw[e];rfl⟩)
   have e2:=h2.length_eq
   unfold own at e2;rw[this,List.length_range,List.length_range]at e2;omega
  obtain ⟨j,hj,hn⟩:=hex;have hb:bits h<2^64:=by unfold bits;omega
  obtain ⟨n,h4,h5⟩:=bU0 F (i:=bits h % (mask+1)) (Nat.le_of_lt_succ (Nat.mod_lt _ (by omega))) hb hj
  obtain ⟨j',h6,h7⟩:=aW1 mask o hn n (turns mask) _ _ h5 (by unfold turns;omega)
  obtain ⟨h8,h9⟩:=getD_none h7;have hs':(o.setIfInBounds j' (some k)).size=mask+1:=by rw[Array.size_setIfInBounds];exact h1
  have hp:(own mask (o.setIfInBounds j' (some k))).Perm (List.range (k+1)):=by
   refine(cG1 (f:=λj=>o.getD j none) (j:=j') (k:=k) ?_ ?_ ?_ List.nodup_range (Ab5.mpr (by omega))).trans ?_
   ·show o.getD j' none=none
    rw[Array.getD_eq_getD_getElem?,h9];rfl
   ·show(o.setIfInBounds j' (some k)).getD j' none=some k
    rw[Array.getD_eq_getD_getElem?,Array.getElem?_setIfInBounds_self_of_lt h8];rfl
   ·intro x hx;show(o.setIfInBounds j' (some k)).getD x none=o.getD x none;rw[Array.getD_eq_getD_getElem?,Array.getD_eq_getD_getElem?,Array.getElem?_setIfInBounds_ne (λe=>hx e.symm)]
   ·refine(h2.cons k).trans ?_;rw[List.range_succ];exact(List.perm_append_singleton _ _).symm
  obtain ⟨o',g1,g2,g3⟩:=aT0 F hs _ (k+1) hs' hp (by omega)
  refine⟨o',?_,g2,by rw[List.length_cons,show k+(hs.length+1)=k+1+hs.length by omega];exact g3⟩
  rw[List.foldl_cons,List.length_cons,show k+(hs.length+1)=k+1+hs.length by omega,<- g1]
  congr 1
  show(layClean.free mask o (turns mask) (bits h % (mask+1)) (bits h)).bind _=_
  rw[h6];rfl
theorem laid_some {mask:Nat}(F:Full mask)(hs:Array Int)(hn:hs.size<=mask)(finger moves:Nat)(led plain:Bool):∃t order,laid mask finger moves led plain hs=some (t,order)/\t.mask=mask/\t.dummies = #[]/\t.place.size=hs.size/\order.toList.Perm (List.range hs.size):=by
 obtain ⟨o',g1,g2,g3⟩:=aT0 F hs.toList (Array.replicate (mask+1) none) 0 (by simp) (by
  have:own mask (Array.replicate (mask+1) none)=[]:=by
   unfold own;rw[List.filterMap_eq_nil_iff];intro x hx;rw[Array.getD_eq_getD_getElem?,Array.getElem?_replicate,if_pos (Ab5.mp hx)];rfl
  rw[this];exact List.Perm.refl _) (by rw[Array.length_toList];omega)
 rw[Nat.zero_add,Array.length_toList]at g1 g3;have hl:layClean mask hs=some o':=by
  unfold layClean;rw[<- Array.foldl_toList,g1];rfl
 have hm:(((List.range (mask+1)).filterMap λj=>(o'.getD j none).map (j,·)).map (·.2))=own mask o':=by
  rw[List.map_filterMap];refine aL9 λx _=>?_
  cases o'.getD x none <;> rfl
 refine⟨_,_,by unfold laid;rw[hl];rfl,rfl,rfl,?_,?_⟩
 ·show((List.map _ _).toArray).size=_
  rw[Ab2,Aa3,<- Aa3 (f:=(·.2)),hm,g3.length_eq,List.length_range]
 ·show((List.map _ _).toArray).toList.Perm _
  rw[List.toList_toArray,hm];exact g3
end LH
namespace L2
open PySem PySem.Spec PyProof.Rows
structure TabOk (t:SetTable)(n:Nat):Prop where
 dm:t.dummies = #[]
 sz:t.place.size=n
 mq:(t.mask=7/\n<=4)\/(t.mask=31/\n<=17)
theorem TabOk.full {t:SetTable}{n:Nat}(h:TabOk t n):LH.Full t.mask:=by
 rcases h.mq with h | h <;> rw[h.1]
 ·exact LH.full7
 ·exact LH.full31
theorem TabOk.fits {t:SetTable}{n:Nat}(h:TabOk t n):t.fits n=true:=by
 unfold SetTable.fits SetTable.fill;rw[h.dm,h.sz]
 have:=h.mq
 simp;omega
theorem TabOk.rch {t:SetTable}{n:Nat}(h:TabOk t n)(x:Int):LH.Rch t (t.probeStart x) (10*(t.mask+13)):=by
 obtain ⟨j,h1,h2⟩:=LH.place_free (t:=t) (by rw[h.sz];have:=h.mq;omega)
 exact LH.rch_start h.full h.dm h1 h2 x
theorem TabOk.put {t:SetTable}{n:Nat}(h:TabOk t n)(j:Nat):(t.put j).1.dummies = #[]/\(t.put j).1.place.size=n+1/\(t.put j).1.mask=t.mask:=by
 unfold SetTable.put;refine⟨?_,?_,rfl⟩
 ·show(if SetTable.has t.dummies j then _ else t.dummies) = #[]
  rw[h.dm];rfl
 ·show(SetTable.insertAt t.place _ j).size=_
  rw[<- Array.length_toList,(SetTable.insertAt_perm _ _ _).length_eq];simp[h.sz]
section
variable {prog:Program}{w:World}{A:Around}{E:Value->Shared->Prop}{s:Shared}
theorem aX1 {ks:List Int}{vs:List Value}(h:ItemsAre (intKind prog w) ks vs):∀v∈vs,∃k t,v=.int k t:=by
 induction h with
 | nil=>intro v hv;cases hv
 | @cons k v ks vs h1 _ ih=>
  intro u hu;rcases Aa1.mp hu with rfl | hu
  ·have h1:Value.isInt k u=true:=h1
   cases u <;> first | exact⟨_,_,rfl⟩ | (simp[Value.isInt]at h1)
  ·exact ih u hu
theorem aQ0 {ks:List Int}{a:Addr}{Q:Bool->Shared->Prop}(hk:IsTupleKey (intKind prog w) s.heap ks a)(h:Q false s):wpAny (model prog w) A (ofAClassStatement 8 (.ref a)) Q E s:=by
 have hT:=hk.typeIs
 obtain ⟨o,items,n,ho,_,hd,hi⟩:=hk;unfold ofAClassStatement;refine wpAny_bind (wpAny_typeOf hT ?_);dsimp only;refine wpAny_bind ?_;refine wpAny_pure ?_;simp only[Bool.not_true,Bool.false_eq_true,if_false];refine wpAny_bind (wpAny_seqItems ho hd ?_);dsimp only;refine wpAny_bind ?_;rw[<- Array.forIn_toList];refine wpAny_forIn_list _ (λrest r s'=>r.1=none/\s'=s/\∀v∈rest,∃k t,v=.int k t) _ ?_ ?_ _ _ ⟨rfl,rfl,aX1 hi⟩
 ·rintro v rest r s' ⟨hr,rfl,hall⟩;obtain ⟨k,t,rfl⟩:=hall v List.mem_cons_self;refine wpAny_bind (wpAny_of_eq (a:=false) (by unfold ofAClassStatement;rfl) ?_)
  simp only[Bool.false_eq_true,if_false];exact wpAny_pure ⟨rfl,rfl,λu hu'=>hall u (Ad3 _ hu')⟩
 ·rintro ⟨r1,r2⟩ s' ⟨hr,rfl,_⟩;simp only at hr;subst hr;exact wpAny_pure h
theorem cE4 {ks:List Int}{a:Addr}{Q:Bool->Shared->Prop}(hk:IsTupleKey (intKind prog w) s.heap ks a)(h:Q true s):wpAny (model prog w) A (hashByValue 8 (.ref a)) Q E s:=by
 have hT:=hk.typeIs
 obtain ⟨o,items,n,ho,_,hd,hi⟩:=hk;unfold hashByValue;refine wpAny_bind (wpAny_specialOf hT F.slot_tuple_hash.lookup ?_);show wpAny _ _ (seqItems? (.ref a) >>= _) _ _ s;refine wpAny_bind (wpAny_seqItems ho hd ?_);refine wpAny_bind ?_;show wpAny _ _ (forIn items _ _) _ _ s;rw[<- Array.forIn_toList];refine wpAny_forIn_list _ (λrest r s'=>r.1=none/\s'=s/\∀v∈rest,∃k t,v=.int k t) _ ?_ ?_ _ _ ⟨rfl,rfl,aX1 hi⟩
 ·rintro v rest r s' ⟨hr,rfl,hall⟩;obtain ⟨k,t,rfl⟩:=hall v List.mem_cons_self;refine wpAny_bind (wpAny_of_eq (a:=true) (by unfold hashByValue;rfl) ?_)
  simp only[Bool.not_true,Bool.false_eq_true,if_false];exact wpAny_pure ⟨rfl,rfl,λu hu'=>hall u (Ad3 _ hu')⟩
 ·rintro ⟨r1,r2⟩ s' ⟨hr,rfl,_⟩;simp only at hr;subst hr;exact wpAny_pure h
theorem bY0 {h:Heap}{S:Addr}{o:Obj}{es:Array (Int×Value)}{ep:Nat}{t:SetTable}(ho:h.get? S=some o)(hd:o.data=.set es ep t)(es':Array (Int×Value))(t':SetTable):(h.update S (Obj.putSet es' t')).get? S=some {o with data:=.set es' (ep+1) t'}:=by
 have:=Heap.get?_update_self (Obj.putSet es' t') ho (by rw[putSet_of es' t' hd];rfl)
 rw[putSet_of es' t' hd]at this;exact this
end
end L2
namespace LH
open PySem PySem.SetTable
def Inc (xs:Array Nat):Prop:=∀i j (hj:j<xs.size) (h:i<j),xs[i]'(Nat.lt_trans h hj)<xs[j]
theorem aS8 {xs:Array Nat}(h:Inc xs)(j:Nat):∀(fuel lo hi:Nat),hi<=xs.size->hi-lo<=fuel->lo<=hi->(∀i (hi:i<xs.size),i<lo->xs[i]<j)->(∀i (hi':i<xs.size),hi<=i->j<=xs[i]) ->
  below.go xs j fuel lo hi<=xs.size/\(∀i (hi':i<xs.size),i<below.go xs j fuel lo hi->xs[i]<j)/\(∀i (hi':i<xs.size),below.go xs j fuel lo hi<=i->j<=xs[i])
 | 0,lo,hi,h1,h2,h3,h4,h5=>by
  have e:lo=hi:=by omega
  subst e;unfold below.go;exact⟨h1,h4,h5⟩
 | fuel+1,lo,hi,h1,h2,h3,h4,h5=>by
  unfold below.go;by_cases hl:lo<hi
  ·rw[if_pos hl];dsimp only;have hm:(lo+hi) / 2<xs.size:=by omega
   have eg:xs.getD ((lo+hi) / 2) j=xs[(lo+hi) / 2]:=by rw[Array.getD_eq_getD_getElem?,Array.getElem?_eq_getElem hm];rfl
   rw[eg];split
   ·rename_i hc;refine aS8 h j fuel ((lo+hi) / 2+1) hi h1 (by omega) (by omega) (λi hi' hlt=>?_) h5
    rcases Nat.lt_or_ge i ((lo+hi) / 2) with z | z
    ·exact Nat.lt_trans (h i _ hm z) hc
    ·have:i=(lo+hi) / 2:=by omega
     subst this;exact hc
   ·rename_i hc;refine aS8 h j fuel lo ((lo+hi) / 2) (by omega) (by omega) (by omega) h4 (λi hi' hge=>?_)
    rcases Nat.lt_or_ge ((lo+hi) / 2) i with z | z
    ·have:=h _ i hi' z;omega
    ·have:i=(lo+hi) / 2:=by omega
     subst this;omega
  ·rw[if_neg hl];have e:lo=hi:=by omega
   subst e;exact⟨h1,h4,h5⟩
theorem X9 {xs:Array Nat}(h:Inc xs)(j:Nat):below xs j<=xs.size/\(∀i (hi:i<xs.size),i<below xs j->xs[i]<j)/\(∀i (hi:i<xs.size),below xs j<=i->j<=xs[i]):=
 aS8 h j xs.size 0 xs.size (Aa7 _) (by omega) (by omega) (λi _ z=>absurd z (by omega)) (λi hi z=>absurd hi (by omega))
theorem below_next {xs:Array Nat}(h:Inc xs){i:Nat}(hi:i<xs.size):below xs (xs[i]+1)=i+1:=by
 obtain ⟨h1,h2,h3⟩:=X9 h (xs[i]+1);rcases Nat.lt_trichotomy (below xs (xs[i]+1)) (i+1) with z | z | z
 ·have:=h3 i hi (by omega);omega
 ·exact z
 ·have hlt:i+1<xs.size:=by omega
  have:=h2 (i+1) hlt z
  have:=h i (i+1) hlt (by omega)
  omega
theorem below_zero (xs:Array Nat)(h:Inc xs):below xs 0=0:=by
 obtain ⟨h1,h2,h3⟩:=X9 h 0;rcases Nat.eq_zero_or_pos (below xs 0) with z | z
 ·exact z
 ·exact absurd (h2 0 (by omega) z) (by omega)
theorem slot_free {t:SetTable}{j:Nat}(hi:Inc t.place)(h:t.slot j=.empty):j∉t.place:=by
 intro hm;obtain ⟨i,hi',e⟩:=Array.mem_iff_getElem.mp hm;obtain ⟨h1,h2,h3⟩:=X9 hi j;have hb:below t.place j=i:=by
  rcases Nat.lt_trichotomy (below t.place j) i with z | z | z
  ·have:=hi _ i hi' z
   have:=h3 _ (by omega) (Aa7 (below t.place j))
   omega
  ·exact z
  ·have:=h2 i hi' z;omega
 unfold slot at h;dsimp only at h;rw[hb,Array.getElem?_eq_getElem hi',e,if_pos (by simp)]at h
 cases h
theorem inc_iff {xs:Array Nat}:Inc xs↔xs.toList.Pairwise (· < ·):=by
 rw[List.pairwise_iff_getElem];constructor
 ·intro h i j hi hj hij;exact h i j (by simpa using hj) hij
 ·intro h i j hj hij;exact h i j (by simp;omega) (by simpa using hj) hij
theorem put_inc {t:SetTable}{j:Nat}(hi:Inc t.place)(h:j∉t.place):Inc (t.put j).1.place:=by
 show Inc (insertAt t.place (below t.place j) j)
 obtain ⟨h1,h2,h3⟩:=X9 hi j;rw[inc_iff,SetTable.toList_insertAt];have hp:=inc_iff.mp hi;have e:t.place.toList=t.place.toList.take (below t.place j)++t.place.toList.drop (below t.place j):=(Ad2 _ _).symm;rw[e]at hp;obtain ⟨p1,p2,p3⟩:=List.pairwise_append.mp hp;have hlow:∀x∈t.place.toList.take (below t.place j),x<j:=λx hx=>by
  obtain ⟨i,hi',rfl⟩:=List.mem_take_iff_getElem.mp hx;have hi2:i<t.place.size:=by simp at hi';omega
  have:=h2 i hi2 (by omega)
  simpa using this
 have hhigh:∀x∈t.place.toList.drop (below t.place j),j<x:=λx hx=>by
  obtain ⟨i,hi',rfl⟩:=List.mem_drop_iff_getElem.mp hx;have hi2:below t.place j+i<t.place.size:=by simp at hi';omega
  have h4:=h3 _ hi2 (by omega)
  have h5:t.place[below t.place j+i]≠j:=λz=>h (z▸Array.getElem_mem hi2)
  simp only[Array.getElem_toList];omega
 refine List.pairwise_append.mpr ⟨p1,List.pairwise_cons.mpr ⟨hhigh,p2⟩,λx hx y hy=>?_⟩
 rcases Aa1.mp hy with rfl | hy
 ·exact hlow x hx
 ·exact p3 x hx y hy
theorem laid_inc {mask finger moves:Nat}{led plain:Bool}{hs:Array Int}{t:SetTable}{order:Array Nat}(h:laid mask finger moves led plain hs=some (t,order)):Inc t.place:=by
 unfold laid at h;cases e:layClean mask hs with
 | none=>rw[e]at h;cases h
 | some o=>
  rw[e]at h;have h:=Ab4 h;rw[<- (Prod.mk.inj h).1];show Inc (List.map _ _).toArray;rw[inc_iff,List.toList_toArray,Ad8,List.pairwise_filterMap];refine List.pairwise_lt_range.imp λ{a b} hab x hx y hy=>?_
  have h1:x.1=a:=by
   cases e1:o.getD a none with
   | none=>rw[e1]at hx;cases hx
   | some u=>rw[e1]at hx;cases hx;rfl
  have h2:y.1=b:=by
   cases e1:o.getD b none with
   | none=>rw[e1]at hy;cases hy
   | some u=>rw[e1]at hy;cases hy;rfl
  rw[h1,h2];exact hab
end LH
namespace L2
open PySem PySem.Spec PyProof.Rows
end L2
namespace LH
open PySem
theorem Z3 {α:Type}:∀(l:List α) (i:Nat) (h:i<l.length),(l[i]::l.eraseIdx i).Perm l
 | a::l,0,_=>List.Perm.refl _
 | a::l,i+1,h=>by
  show(l[i]'(by simpa using h)::a::l.eraseIdx i).Perm (a::l)
  exact(List.Perm.swap _ _ _).trans ((Z3 l i (by simpa using h)).cons a)
theorem bV5 {α:Type}(next:Nat->Nat):∀(fuel k:Nat) (left:List α) (out:Array α),left.length<=fuel->(pickOrder.go next fuel k left out).toList.Perm (out.toList++left)
 | 0,k,left,out,h=>by
  have:left=[]:=List.eq_nil_of_length_eq_zero (by omega)
  subst this;unfold pickOrder.go;rw[List.append_nil]
 | fuel+1,k,left,out,h=>by
  unfold pickOrder.go;cases left with
  | nil=>
   rw[List.append_nil];split
   ·rename_i e;simp at e
   ·exact List.Perm.refl _
  | cons a l=>
   have hlt:next k % (a::l).length<(a::l).length:=Nat.mod_lt _ (by simp)
   rw[Aa2 hlt];dsimp only;refine(bV5 next fuel (k+1) _ _ (by rw[List.length_eraseIdx_of_lt hlt];omega)).trans ?_
   rw[Array.toList_push,Ad5,List.singleton_append];refine List.Perm.append_left _ ?_;exact Z3 _ _ hlt
theorem pick_perm {α:Type}(next:Nat->Nat)(xs:Array α):(pickOrder next xs).toList.Perm xs.toList:=by
 unfold pickOrder;exact(bV5 next xs.size 0 xs.toList #[] (by simp)).trans (by simp)
end LH
namespace L2
open PySem PySem.Spec PyProof.Rows
theorem slot_setit_next:Slot "set_iterator" "__next__" "set_iterator.__next__" :=
 .of (owner := "set_iterator") (n := "__next__") (by rw[typeLookup_type,builtinLookup_eq_fast];kernel_rfl) (by decide +kernel) (by decide +kernel) (by decide +kernel)
  (by first | exact .inl (by decide +kernel) | exact .inr (by decide +kernel)) (by rw[isSubtype_type];kernel_rfl)
theorem m6:entryFor table "set_iterator.__next__" = some Builtin.«set_iterator.__next__» := entryFor_of_tree (by kernel_rfl)
theorem aB0 (a:Value):argsOk "set_iterator.__next__" ⟨[a],[]⟩:=by
 unfold argsOk;kernel_rfl
def SetIt (h:Heap)(I S:Addr)(slot given n ep:Nat):Prop:=∃o,h.get? I=some o/\o.cls=.type "set_iterator" /\ o.data=.fields #[.int slot 0,.int given 0,.ref S,.int n 0,.int ep 0]
theorem SetIt.typeIs {s:Shared}{I S:Addr}{sl g n ep:Nat}(x:SetIt s.heap I S sl g n ep):s.TypeIs (.ref I) "set_iterator" := let ⟨o,ho,hc,_⟩:=x;⟨o,ho,hc⟩
def aG3 (w:World)(S:Addr)(ep:Nat)(es:Array (Int×Value)):Array (Int×Value):=if w.params.followText "set-order" then pickOrder (w.params.setOrder S ep) es else es
theorem o8 (w:World)(S:Addr)(ep:Nat)(es:Array (Int×Value)):(aG3 w S ep es).toList.Perm es.toList:=by
 unfold aG3;split
 ·exact LH.pick_perm _ _
 ·exact List.Perm.refl _
def aF8 (w:World)(t:SetTable)(i:Nat):Nat:=if w.params.followText "set-order" then 0 else if i=0 then 0 else t.place.getD (i-1) 0+1
section
variable {prog:Program}{w:World}{A:Around}{E:Value->Shared->Prop}{s:Shared}
theorem aR3 {S:Addr}{o:Obj}{es:Array (Int×Value)}{ep:Nat}{t:SetTable}{i:Nat}{Q:Option (Value×Nat)->Shared->Prop}(ho:s.heap.get? S=some o)(hd:o.data=.set es ep t)(T:TabOk t es.size)(hin:LH.Inc t.place)(hpl:t.plain=true)(hled:t.led = !(w.params.followText "set-order"))
  (hi:i<=es.size) (h:Q (((aG3 w S ep es)[i]?).map λe=>(e.2,aF8 w t (i+1))) s):wpAny (model prog w) A (setNext S (aF8 w t i) i ep) Q E s:=by
 unfold setNext;refine wpAny_bind (wpAny_setState_of ho hd T.fits ?_);dsimp only;refine wpAny_bind (m:=setsByText) ?_;unfold setsByText;refine wpAny_bind (wpAny_askSetting (wpAny_pure ?_));by_cases hb:w.params.followText "set-order" = true
 ·have hb':(model prog w).w.params.followText "set-order" = true:=hb
  dsimp only
  rw[if_pos hb'];rw[if_neg (by simp)]
  refine wpAny_bind ?_;unfold setWalk;refine wpAny_bind (wpAny_setState_of ho hd T.fits ?_);dsimp only;refine wpAny_bind (m:=setsByText) ?_;unfold setsByText;refine wpAny_bind (wpAny_askSetting (wpAny_pure ?_));dsimp only;rw[if_pos hb'];refine wpAny_bind (wpAny_askSetting (wpAny_pure (wpAny_pure ?_)));unfold aG3 aF8 at h;simp only[hb,if_true]at h;unfold aF8;simp only[hb,if_true];exact h
 ·have hb':¬(model prog w).w.params.followText "set-order" = true:=hb
  dsimp only
  rw[if_neg hb'];have hl:t.led=true:=by rw[hled];simpa using hb
  show wpAny _ _ (if(!t.plain&&decide (es.size>1))=true then _ else _) _ _ _
  rw[if_neg (by rw[hpl];simp)]
  refine wpAny_bind (wpAny_of_eq (a:=()) ?_ ?_)
  ·show(if(!t.led && !es.isEmpty)=true then _ else _)=_
   rw[if_neg (by rw[hl];simp)]
  have hbl:SetTable.below t.place (aF8 w t i)=i:=by
   unfold aF8;rw[if_neg hb];by_cases h0:i=0
   ·rw[if_pos h0,h0];exact LH.below_zero _ hin
   ·rw[if_neg h0];have hlt:i-1<t.place.size:=by rw[T.sz];omega
    rw[Array.getD_eq_getD_getElem?,Array.getElem?_eq_getElem hlt]
    have:=LH.below_next hin hlt
    show SetTable.below t.place (t.place[i-1]+1)=i
    omega
  refine wpAny_pure ?_;rw[hbl];unfold aG3 at h;rw[if_neg hb]at h;by_cases hlt:i<es.size
  ·have hlt':i<t.place.size:=by rw[T.sz];exact hlt
   rw[Array.getElem?_eq_getElem hlt,Array.getElem?_eq_getElem hlt'];rw[Array.getElem?_eq_getElem hlt]at h;unfold aF8 at h;rw[if_neg hb,if_neg (by omega),Nat.add_sub_cancel,Array.getD_eq_getD_getElem?,Array.getElem?_eq_getElem hlt']at h
   exact h
  ·rw[Array.getElem?_eq_none (by omega)]at h ⊢
   exact h
theorem cP9 {h:Heap}{I S:Addr}{sl g n ep:Nat}(x:SetIt h I S sl g n ep)(sl' g':Nat):∃o o',h.get? I=some o/\o.data=.fields #[.int sl 0,.int g 0,.ref S,.int n 0,.int ep 0]/\(h.update I (Obj.mapFields (·.setIfInBounds 0 (rawInt sl')))).get? I=some o'/\o'.data=.fields #[.int sl' 0,.int g 0,.ref S,.int n 0,.int ep 0]/\SetIt ((h.update I (Obj.mapFields (·.setIfInBounds 0 (rawInt sl')))).update I (Obj.mapFields (·.setIfInBounds 1 (rawInt g')))) I S sl' g' n ep:=by
 obtain ⟨o,ho,hc,hd⟩:=x;have h1:=Heap.get?_update_self (Obj.mapFields (·.setIfInBounds 0 (rawInt sl'))) ho (Obj.isFreed_of_fields (Obj.data_mapFields hd _));have d1:(Obj.mapFields (·.setIfInBounds 0 (rawInt sl')) o).data=.fields #[.int sl' 0,.int g 0,.ref S,.int n 0,.int ep 0]:=by
  rw[Obj.data_mapFields hd];simp[rawInt]
 have h2:=Heap.get?_update_self (Obj.mapFields (·.setIfInBounds 1 (rawInt g'))) h1 (Obj.isFreed_of_fields (Obj.data_mapFields d1 _))
 refine⟨o,_,ho,hd,h1,d1,_,h2,(Obj.cls_mapFields ..).trans ((Obj.cls_mapFields ..).trans hc),?_⟩;rw[Obj.data_mapFields d1];simp[rawInt]
theorem bB9 {I S:Addr}{o:Obj}{es:Array (Int×Value)}{ep:Nat}{t:SetTable}{i:Nat}{v:Int×Value}{Q:Option Value->Shared->Prop}(hne:S≠I)(hit:SetIt s.heap I S (aF8 w t i) i es.size ep)(ho:s.heap.get? S=some o)(hd:o.data=.set es ep t)(T:TabOk t es.size)(hin:LH.Inc t.place)(hpl:t.plain=true)(hled:t.led = !(w.params.followText "set-order"))
  (hv:(aG3 w S ep es)[i]? = some v) (hQ:∀h',SetIt h' I S (aF8 w t (i+1)) (i+1) es.size ep->Heap.SameBut I s.heap h'->Q (some v.2) {s with heap:=h'}):wpAny (model prog w) A (pyNext (.ref I)) Q E s:=by
 have hi:i<es.size:=by
  have:=(Array.getElem?_eq_some_iff.mp hv).1
  rw[<- Array.length_toList,(o8 w S ep es).length_eq,Array.length_toList]at this;exact this
 obtain ⟨oi,oi',g1,g2,g3,g4,g5⟩:=cP9 hit (aF8 w t (i+1)) (i+1);unfold pyNext;refine wpAny_bind (wpAny_attempt (wpAny_callSpecial?_slot (name:=Str.ofString "__next__") hit.typeIs slot_setit_next
  (wpAny_call_entry slot_setit_next hit.typeIs m6 ?_ (aB0 _))))
 show wpAny _ _ (fieldsOf (.ref I) >>= _) _ _ s
 refine wpAny_bind (wpAny_fieldsOf g1 g2 ?_);dsimp only;refine wpAny_bind (m:=setEntries S) ?_;unfold setEntries;refine wpAny_bind (wpAny_setState_of ho hd T.fits (wpAny_pure ?_));dsimp only;rw[if_neg (by simp)]
 simp only[Ac7];refine wpAny_bind (aR3 ho hd T hin hpl hled (Nat.le_of_lt hi) ?_);rw[hv];dsimp only[Option.map_some];refine wpAny_bind (wpAny_setField g1 g2 (by simp) ?_)
 refine wpAny_bind (wpAny_setField g3 g4 (by simp) (wpAny_pure ⟨v.2,rfl,wpAny_pure ?_⟩))
 have hsb:=(Heap.SameBut.update s.heap I (Obj.mapFields (·.setIfInBounds 0 (rawInt (aF8 w t (i+1):Nat))))).trans (Heap.SameBut.update _ I (Obj.mapFields (·.setIfInBounds 1 (rawInt ((i:Int)+1)))))
 exact hQ _ g5 hsb
theorem bK9 {I S:Addr}{o:Obj}{es:Array (Int×Value)}{ep:Nat}{t:SetTable}{Q:Option Value->Shared->Prop}(hh:A.handled=none)(hne:S≠I)(hit:SetIt s.heap I S (aF8 w t es.size) es.size es.size ep)(ho:s.heap.get? S=some o)(hd:o.data=.set es ep t)(T:TabOk t es.size)(hin:LH.Inc t.place)(hpl:t.plain=true)(hled:t.led = !(w.params.followText "set-order"))
  (hQ:∀h',Heap.ExtBut I s.heap h'->Q none {s with heap:=h'}):wpAny (model prog w) A (pyNext (.ref I)) Q E s:=by
 obtain ⟨oi,oi',g1,g2,g3,g4,g5⟩:=cP9 hit 0 0;have hv:(aG3 w S ep es)[es.size]? = none:=Array.getElem?_eq_none (by rw[<- Array.length_toList,(o8 w S ep es).length_eq,Array.length_toList];exact Aa7 _)
 unfold pyNext;refine wpAny_bind (wpAny_attempt (wpAny_callSpecial?_slot (name:=Str.ofString "__next__") hit.typeIs slot_setit_next
  (wpAny_call_entry slot_setit_next hit.typeIs m6 ?_ (aB0 _))))
 show wpAny _ _ (fieldsOf (.ref I) >>= _) _ _ s
 refine wpAny_bind (wpAny_fieldsOf g1 g2 ?_);dsimp only;refine wpAny_bind (m:=setEntries S) ?_;unfold setEntries;refine wpAny_bind (wpAny_setState_of ho hd T.fits (wpAny_pure ?_));dsimp only;rw[if_neg (by simp)]
 simp only[Ac7];refine wpAny_bind (aR3 ho hd T hin hpl hled (Aa7 _) ?_);rw[hv];dsimp only[Option.map_none];refine wpAny_bind (wpAny_setField g1 g2 (by simp) ?_)
 refine wpAny_bind ?_;simp only[newExc,newTuple];refine wpAny_bind (wpAny_newObj_type ?_ (by size_fits))
 refine wpAny_bind (m:=firstArgMember _ _) (wpAny_of_eq (a:=Value.none) (by first | rfl | (simp only[firstArgMember];rfl)) ?_)
 refine wpAny_newObj_type ?_ (by size_fits)
 simp only[raiseNew];refine wpAny_bind (wpAny_handled ?_);first | rw[show A.in1.handled=none from hh] | rw[hh]
 refine wpAny_bind (wpAny_pure (wpAny_throw ?_));refine wpAny_bind (wpAny_isInstance (T := "StopIteration") (b:=true) ⟨_,Ac3 _ rfl,rfl⟩ isSubtype_stop ?_);exact wpAny_pure (hQ _ (((Heap.SameBut.update ..).extBut.push _).push _))
end
theorem aA9:Slot "set_iterator" "__iter__" "set_iterator.__iter__" :=
 .of (owner := "set_iterator") (n := "__iter__") (by rw[typeLookup_type,builtinLookup_eq_fast];kernel_rfl) (by decide +kernel) (by decide +kernel) (by decide +kernel)
  (by first | exact .inl (by decide +kernel) | exact .inr (by decide +kernel)) (by rw[isSubtype_type];kernel_rfl)
theorem aN4 (a:Value):argsOk "set_iterator.__iter__" ⟨[a],[]⟩:=by
 unfold argsOk;kernel_rfl
theorem SetIt.at_ {h h':Heap}{I S:Addr}{sl g n ep:Nat}(x:SetIt h I S sl g n ep)(e:∀o,h.get? I=some o->h'.get? I=some o):SetIt h' I S sl g n ep:=by
 obtain ⟨o,ho,r⟩:=x;exact⟨o,e o ho,r⟩
section
variable {prog:Program}{w:World}{A:Around}{E:Value->Shared->Prop}{s:Shared}
theorem aL4:entryFor table "set_iterator.__iter__" = some Builtin.«dict_keyiterator.__iter__» :=
 entryFor_alias (id' := "dict_keyiterator.__iter__") (by kernel_rfl) rfl (by decide +kernel) (by kernel_rfl)
theorem bQ0 {I S:Addr}{sl g n ep:Nat}{Q:Value->Shared->Prop}(hit:SetIt s.heap I S sl g n ep)(h:Q (.ref I) s):wpAny (model prog w) A (pyIter (.ref I)) Q E s:=by
 refine wpAny_pyIter_slot hit.typeIs aA9 (wpAny_call_entry aA9 hit.typeIs aL4 ?_ (aN4 _));show wpAny _ _ (ret (.ref I)) _ _ s;exact wpAny_pure ⟨_,rfl, "set_iterator",_,hit.typeIs,slot_setit_next.lookup,h⟩
theorem cI2 (hh:A.handled=none)(I S:Addr)(hne:S≠I){es:Array (Int×Value)}{ep:Nat}{t:SetTable}(T:TabOk t es.size)(hin:LH.Inc t.place)(hpl:t.plain=true)(hled:t.led = !(w.params.followText "set-order")) :
  Walks prog w A I [I,S] [I] es.size (λi v=>∃e,(aG3 w S ep es)[i]? = some e/\v=e.2) (λi h=>SetIt h I S (aF8 w t i) i es.size ep/\∃o,h.get? S=some o/\o.data=.set es ep t) where
 sub:=λb hb=>by simp at hb;simp[hb]
 frame:=λ_ _ _ st hk=>⟨st.1.at_ λo e=>hk I (by simp) o e,by
  obtain ⟨o,ho,hd⟩:=st.2;exact⟨o,hk S (by simp) o ho,hd⟩⟩
 item:=λi s Q E hi st hQ=>by
  obtain ⟨o,ho,hd⟩:=st.2;have hlt:i<(aG3 w S ep es).size:=by rw[<- Array.length_toList,(o8 w S ep es).length_eq,Array.length_toList];exact hi
  refine bB9 hne st.1 ho hd T hin hpl hled (Array.getElem?_eq_getElem hlt) λh' hit' hs'=>?_
  exact hQ _ h' s.toks ⟨_,Array.getElem?_eq_getElem hlt,rfl⟩ ⟨hit',o,(hs'.2 S hne).trans ho,hd⟩ λb o hb e=>hs'.extBut b o (λh=>hb (by simp[h])) e
 done:=λs Q E st hQ=>by
  obtain ⟨o,ho,hd⟩:=st.2;exact bK9 hh hne st.1 ho hd T hin hpl hled λh' he'=>hQ h' s.toks λb o hb e=>he' b o (λh=>hb (by simp[h])) e
 self:=λi s Q E st hQ=>bQ0 st.1 hQ
theorem aN9:entryFor table "set.__iter__" = some Builtin.«frozenset.__iter__» :=
 entryFor_alias (id' := "frozenset.__iter__") (by kernel_rfl) rfl (by decide +kernel) (by kernel_rfl)
theorem bN3 {S:Addr}{o:Obj}{es:Array (Int×Value)}{ep:Nat}{t:SetTable}{Q:Value->Shared->Prop}(hT:s.TypeIs (.ref S) "set")(ho:s.heap.get? S=some o)(hd:o.data=.set es ep t)(T:TabOk t es.size)(hpl:t.plain=true)
  (hQ:Q (.ref s.heap.objs.size) {s with heap:=s.heap.push {cls:=.type "set_iterator",data:=.fields #[.int 0 0,.int 0 0,.ref S,.int es.size 0,.int ep 0]}}):wpAny (model prog w) A (pyIter (.ref S)) Q E s:=by
 refine wpAny_pyIter_slot hT F.slot_set_iter (wpAny_call_entry F.slot_set_iter hT aN9 ?_ (F.args_set_iter_1 _));unfold Builtin.«frozenset.__iter__» Builtin.Frozenset.slot0 slotArgs;simp only[List.isEmpty_nil,Bool.not_true,Bool.false_eq_true,↓reduceIte,bind_assoc,List.length_nil,bne_self_eq_false];unfold Builtin.Frozenset.addrOf Builtin.Frozenset.sizeOf;refine wpAny_bind (wpAny_pure ?_)
 try dsimp only
 refine wpAny_bind (wpAny_pure ?_);refine wpAny_bind (wpAny_bind (wpAny_setEntries_of ho hd T.fits (wpAny_pure ?_)));refine wpAny_bind (m:=setDrawn S) ?_;unfold setDrawn;refine wpAny_bind (wpAny_setState_of ho hd T.fits ?_);dsimp only;refine wpAny_bind (m:=setsByText) ?_;unfold setsByText;refine wpAny_bind (wpAny_askSetting (wpAny_pure (wpAny_pure ?_)));show wpAny _ _ (if(!((model prog w).w.params.followText "set-order")&&(!t.plain&&decide (es.size>1)))=true then _ else _) _ _ _;rw[if_neg (by rw[hpl];simp)]
 refine wpAny_bind (wpAny_pure ?_);refine wpAny_bind (wpAny_setEpoch_of ho hd T.fits ?_);exact wpAny_bind (wpAny_newObj_type (wpAny_pure ⟨_,rfl, "set_iterator",_,⟨_,Ac3 _ rfl,rfl⟩,slot_setit_next.lookup,hQ⟩))
end
section
variable {prog:Program}{w:World}{A:Around}{E:Value->Shared->Prop}{s:Shared}
theorem bN1 {S:Addr}{o:Obj}{es:Array (Int×Value)}{ep:Nat}{t:SetTable}{Q:List Value->Shared->Prop}(hh:A.handled=none)(hT:s.TypeIs (.ref S) "set")(ho:s.heap.get? S=some o)(hd:o.data=.set es ep t)(T:TabOk t es.size)(hin:LH.Inc t.place)(hpl:t.plain=true)(hled:t.led = !(w.params.followText "set-order"))
  (hQ:∀h' tk,s.heap.objs.size<=h'.objs.size->(∀b o,s.heap.get? b=some o->h'.get? b=some o)->Q ((aG3 w S ep es).toList.map (·.2)) {s with heap:=h',toks:=tk}):wpAny (model prog w) A (collect (.ref S)) Q E s:=by
 have hlt:=Ab3 ho
 have hSI:s.heap.objs.size≠S:=Nat.ne_of_gt hlt
 unfold collect;refine wpAny_bind (wpAny_runValue (codeAny_builtin F.entry_proto_collect ?_));rw[Around.under_plainId F.plain_proto_collect _];show wpAny _ A.in1 (newList [] >>= λl=>again (.builtin "list.__iadd__" ⟨[l,.ref S],[]⟩)) _ _ s
 refine wpAny_bind (wpAny_newObj_type ?_);refine wpAny_pure ⟨plainId_quiet F.plain_list_iadd _,codeAny_builtin F.entry_list_iadd ?_⟩;rw[Around.under_plainId F.plain_list_iadd _];have ho1:(s.heap.push {cls:=.type "list",data:=.seq ([]:List Value).toArray}).get? S=some o:=Aa6 _ ho;show wpAny _ A.in1 (Builtin.List.listExtendWith (.ref s.heap.objs.size) (.ref S) (.ref s.heap.objs.size)) _ _ _;unfold Builtin.List.listExtendWith;have hT1:Shared.TypeIs {s with heap:=s.heap.push {cls:=.type "list",data:=.seq ([]:List Value).toArray}} (.ref S) "set" := by
  obtain ⟨o',e1,e2⟩:=hT;exact⟨o',Aa6 _ e1,e2⟩
 refine wpAny_bind (wpAny_typeOf hT1 ?_);have h1:Builtin.List.listSameRef (.ref s.heap.objs.size) (.ref S)=false:=by simp[Builtin.List.listSameRef,hSI]
 have h2:(Value.type "set" == Value.type "list")=false:=by decide
 have h3:(Value.type "set" == Value.type "tuple")=false:=by decide
 simp only[h1,h2,h3,Bool.or_false,Bool.false_eq_true,if_false];refine wpAny_bind (bN3 hT1 ho1 hd T hpl ?_);refine wpAny_bind (wpAny_holding ?_);unfold Builtin.List.listLengthHint;have hT2:Shared.TypeIs {s with heap:=(s.heap.push {cls:=.type "list",data:=.seq ([]:List Value).toArray}).push {cls:=.type "set_iterator",data:=.fields #[.int 0 0,.int 0 0,.ref S,.int es.size 0,.int ep 0]}} (.ref S) "set" := by
  obtain ⟨o',e1,e2⟩:=hT1;exact⟨o',Aa6 _ e1,e2⟩
 refine wpAny_bind (wpAny_specialOf hT2 F.slot_set_len.lookup ?_);have hsp:splitId "set.__len__" = some ("set", "__len__"):=by kernel_rfl
 dsimp only
 rw[hsp];dsimp only;refine wpAny_bind (wpAny_isInstance hT2 sub_set_self ?_);rw[if_neg (show ¬(!true)=true by decide)]
 refine wpAny_ite ((if_pos (by decide +kernel)).mpr ?_)
 refine wpAny_bind (wpAny_typeOf hT2 ?_);dsimp only;refine wpAny_pure ?_;show wpAny _ A.in1 (rule "list.extend.makes-room" >>= λ_=>Builtin.List.listTouch (.ref s.heap.objs.size) >>= λ_=>
   again (.builtin "list.extend.loop" ⟨[.ref s.heap.objs.size,.ref (s.heap.push {cls:=.type "list",data:=.seq ([]:List Value).toArray}).objs.size,.ref s.heap.objs.size],[]⟩)) _ _ _
 refine wpAny_bind (wpAny_rule ?_);have hS1:((s.heap.push {cls:=.type "list",data:=.seq ([]:List Value).toArray}).push {cls:=.type "set_iterator",data:=.fields #[.int 0 0,.int 0 0,.ref S,.int es.size 0,.int ep 0]}).get? s.heap.objs.size=some {cls:=.type "list",data:=.seq ([]:List Value).toArray}:=Aa6 _ (Ac3 _ rfl);have hI1:((s.heap.push {cls:=.type "list",data:=.seq ([]:List Value).toArray}).push {cls:=.type "set_iterator",data:=.fields #[.int 0 0,.int 0 0,.ref S,.int es.size 0,.int ep 0]}).get? (s.heap.push {cls:=.type "list",data:=.seq ([]:List Value).toArray}).objs.size=some {cls:=.type "set_iterator",data:=.fields #[.int 0 0,.int 0 0,.ref S,.int es.size 0,.int ep 0]}:=Ac3 _ rfl;have hIL:(s.heap.push {cls:=.type "list",data:=.seq ([]:List Value).toArray}).objs.size=s.heap.objs.size+1:=Heap.size_push ..;have ho2:((s.heap.push {cls:=.type "list",data:=.seq ([]:List Value).toArray}).push {cls:=.type "set_iterator",data:=.fields #[.int 0 0,.int 0 0,.ref S,.int es.size 0,.int ep 0]}).get? S=some o:=Aa6 _ ho1;have hkeep:∀b o,s.heap.get? b=some o->((s.heap.push {cls:=.type "list",data:=.seq ([]:List Value).toArray}).push {cls:=.type "set_iterator",data:=.fields #[.int 0 0,.int 0 0,.ref S,.int es.size 0,.int ep 0]}).get? b=some o:=λb o e=>Aa6 _ (Aa6 _ e)
 revert hS1 hI1 ho2 hkeep hIL
 generalize (s.heap.push {cls:=.type "list",data:=.seq ([]:List Value).toArray}).objs.size=I;generalize ((s.heap.push {cls:=.type "list",data:=.seq ([]:List Value).toArray}).push {cls:=.type "set_iterator",data:=.fields #[.int 0 0,.int 0 0,.ref S,.int es.size 0,.int ep 0]})=hp;intro hS1 hI1 hIL ho2 hkeep;have hnI:S≠I:=by rw[hIL];exact Ab9 (Nat.lt_succ_of_lt hlt)
 have hLI:s.heap.objs.size≠I:=by rw[hIL];exact Ab9 (Nat.lt_succ_self _)
 refine wpAny_bind ?_;show wpAny _ A.in1 (updateSeq s.heap.objs.size (·.push .none) >>= λ_=>updateSeq s.heap.objs.size (·.pop)) _ _ _
 refine wpAny_bind (wpAny_updateSeq hS1 rfl ?_);have hS2:=Heap.get?_update_self (Obj.mapSeq (·.push Value.none)) hS1 rfl;refine wpAny_updateSeq hS2 rfl ?_;have hS3:=Heap.get?_update_self (Obj.mapSeq (·.pop)) hS2 rfl;have oth:∀b o,b≠s.heap.objs.size->hp.get? b=some o->((hp.update s.heap.objs.size (Obj.mapSeq (·.push Value.none))).update s.heap.objs.size (Obj.mapSeq (·.pop))).get? b=some o:=
  λb o hb e=>(Heap.get?_update_other _ _ (Ne.symm hb)).trans ((Heap.get?_update_other _ _ (Ne.symm hb)).trans e)
 have hslo:aF8 w t 0=0:=by unfold aF8;split <;> rfl
 refine wpAny_pure ⟨plainId_quiet F.plain_extend_loop _,codeAny_extend_loopS (cI2 (A:=A.in1) hh I S hnI T hin hpl hled).toS (by rw[sizeLine_eq];have:=T.mq;omega) _ (by simp only[Aa1,Ac2,or_false,not_or];exact⟨hLI,hSI⟩) _ es.size 0 _ _ _ rfl (Nat.zero_le _)
  ⟨⟨_,oth _ _ (Ne.symm hLI) hI1,rfl,by rw[hslo];rfl⟩,o,oth _ _ (Ne.symm hSI) ho2,hd⟩ hS3 (ItemsOf.nil _) λs' acc' c' hm hS' hacc=>?_⟩
 show wpAny _ A (load s.heap.objs.size >>= _) _ _ s'
 refine wpAny_bind (wpAny_load hS' ?_);refine wpAny_pure ?_;obtain ⟨h',g',d',tk',os'⟩:=s';have eg:g'=s.gens:=hm.gens;have ed:d'=s.drawn:=hm.drawn;have eo:os'=s.os:=hm.os;subst eg;subst ed;subst eo;have hz:(aG3 w S ep es).size=es.size:=by rw[<- Array.length_toList,(o8 w S ep es).length_eq,Array.length_toList]
 have e:acc'.toList=(aG3 w S ep es).toList.map (·.2):=by
  refine List.ext_getElem? λj=>?_
  rw[Array.getElem?_toList,Aa9,Array.getElem?_toList];by_cases hj:j<es.size
  ·have h1:j<acc'.size:=by rw[hacc.1];exact hj
   obtain ⟨e,h2,h3⟩:=hacc.2 j _ (Array.getElem?_eq_getElem h1);rw[Array.getElem?_eq_getElem h1,h2,h3];rfl
  ·rw[Array.getElem?_eq_none (by rw[hacc.1];omega),Array.getElem?_eq_none (by omega)];rfl
 rw[e];refine hQ _ _ (Nat.le_of_lt (Ab3 hS')) λb o' he=>hm.heap b o' (by
  have:=Ab3 he
  simp only[Aa1,Ac2,or_false,not_or];exact⟨Ab9 this,by rw[hIL];exact Ab9 (Nat.lt_succ_of_lt this)⟩) (oth _ _ (Ab9 (Ab3 he)) (hkeep _ _ he))
end
end L2
namespace LV
open PySem PySem.Spec PyProof.Rows L2
end LV
namespace L2
open PySem PySem.Spec PyProof.Rows
theorem IsTupleKey.at_ {prog:Program}{w:World}{h h':Heap}{ks:List Int}{a:Addr}(x:IsTupleKey (intKind prog w) h ks a)(e:∀o,h.get? a=some o->h'.get? a=some o):IsTupleKey (intKind prog w) h' ks a:=by
 obtain ⟨o,items,n,ho,r⟩:=x;exact⟨o,items,n,e o ho,r⟩
theorem bJ4:∀{as:List Addr} {us:List Value},Vals (as.map V.ref) us->us=as.map Value.ref
 | [],_,r=>by rw[List.map_nil]at r;cases r;rfl
 | a::as,_,r=>by
  rw[Ac6]at r;cases r with
  | cons h t=>
   rw[bJ4 t];cases h;rfl
section
variable {prog:Program}{w:World}{A:Around}{E:Value->Shared->Prop}{s:Shared}
theorem bK7 (a:Value){Q₁:Value->Shared->Prop}
  (h:Q₁ (.ref s.heap.objs.size) {s with heap:=s.heap.push {cls:=.type "set",dict:=none,data:=.set #[] 0 (.fresh 0 0 (!(w.params.followText "set-order")))}}) :
  codeAny (model prog w) A (.call (.builtin "set.__new__") ⟨[.type "set",a],[]⟩) (wants Q₁ E) s:=by
 refine codeAny_of_tree ?_;show wpAny _ A.in1 (do checkBuiltinCall "set.__new__" ⟨[.type "set",a],[]⟩;again (.builtin "set.__new__" ⟨[.type "set",a],[]⟩)) _ _ s;refine wpAny_bind (wpAny_of_eq (F.newCall_set_1 a) (wpAny_pure ⟨plainId_quiet F.plain_set_new _,codeAny_builtin F.entry_set_new ?_⟩));rw[Around.under_plainId F.plain_set_new _];unfold Builtin.«set.__new__» Builtin.Frozenset.newClass;have hsub:=sub_set_self;obtain ⟨hp,g,d,tk,os⟩:=s;dsimp only
 wp_walk
 refine wpAny_askSetting (wpAny_pure ?_);dsimp only;simp only[newObj];refine wpAny_bind (wpAny_alloc (wpAny_pure ?_));exact wpAny_pure h
end
end L2
namespace L2
open PySem PySem.Spec PySem.Calls PyProof.Rows
end L2
namespace LV
open PySem L2 PyProof.Rows
end LV
namespace L2
open PySem PySem.Spec PyProof.Rows
section
variable {prog:Program}{w:World}{A:Around}{E:Value->Shared->Prop}{s:Shared}
theorem bB2 {l:Addr}{vs:List Value}{ns:List Int}{Q:Value->Shared->Prop}(hl:IsTup s.heap l vs.toArray)(hI:IntsAre vs ns)(h64:vs.length<64)
  (h:∀(D:Addr) (h':Heap) (c:Nat) (out:Array Value) (ns':List Int),s.heap.get? D=none->h'.get? D=some (seqObj "list" out c)->(∀b o,s.heap.get? b=some o->h'.get? b=some o)->IntsAre out.toList ns'->ns'.Perm ns->ns'.Pairwise (· <= ·)->Q (.ref D) {s with heap:=h'}) :
  wpAny (model prog w) A (call (.builtin "sorted") [.ref l]) Q E s:=by
 obtain ⟨o,ho,hc,n,hd⟩:=hl;refine Calls.call_function_entry kind_sorted plain_sorted entry_sorted (args_sorted1 _) ?_;unfold Builtin.«sorted»;refine wpAny_bind (m:=checkCount "sorted" 1 1 _) (wpAny_pure ?_);refine wpAny_bind (wpAny_collect_seq l (.inr rfl) ho hc hd (λg hk=>?_) (by rw[sizeLine_eq];simp;omega))
 refine wpAny_bind (wpAny_newList ?_ (by rw[sizeLine_eq];simp;omega))
 have hoL:(g.push (seqObj "list" vs.toArray 0)).get? g.objs.size=some (seqObj "list" vs.toArray 0):=Ac3 _ rfl
 refine wpAny_bind (wpAny_holding (wpAny_call_entry slot_list_sort ⟨_,hoL,rfl⟩ entry_list_sort (list_sort_tree hoL hI h64 λout ns' a1 a2 a3=>⟨_,rfl,?_⟩) (args_list_sort _)))
 obtain ⟨c,hc'⟩:=sortedHeap_at (vs:=vs) (out:=out) hoL;refine wpAny_pure ⟨_,rfl,h _ _ c out ns' ?_ hc' (λb o' e=>?_) a1 a2 a3⟩
 ·cases e:s.heap.get? g.objs.size with
  | none=>rfl
  | some o=>exact absurd (Ab3 (hk _ _ e)) (Ad7 _)
 ·have hlt:=Ab3 (hk _ _ e)
  show(sortedHeap (g.push (seqObj "list" vs.toArray 0)) g.objs.size vs out).get? b=some o'
  rw[sortedHeap_old (Ab9 hlt) (by rw[size_push'];exact Nat.lt_succ_of_lt hlt)]
  exact Aa6 _ (hk _ _ e)
end
section
variable {X:Cx}
def dM5 (K:PySem.W.Frag):List V->Hp->VK->Prop:=λxs H Q=>∃(p:Addr) (l:List Int),xs=[.ref p]/\SqT K H p (l.map V.int)/\l.length<64 /\
  ∀a (l':List Int),H a=none->l'.Perm l->l'.Pairwise (· <= ·)->Q (.ref a) (upd H a (.lst (l'.map V.int)))
theorem bL4 (K:PySem.W.Frag)(h:X.K=K:=by rfl):W4 X (.builtin "sorted") (dM5 K):=by
 subst h;intro pins s σ H xs us Q I r ⟨p,l,e,hq,h64,q⟩;subst e;obtain ⟨u,rfl,rx⟩:=aB1 r;cases rx;obtain ⟨its,rv,pl,hz⟩:=I.tuple hq;have hlen:=rv.length;rw[Aa3]at hlen hz;obtain ⟨m,hm,_⟩:=I.loc;refine bB2 pl (LV.V2 rv) (by omega) λD h' c out ns' hD he hk hi hp hs=>?_
 obtain ⟨HD,I'⟩:=LV.aF2 I hm (by obtain ⟨o,es,ep,h1,h2⟩:=hm;exact⟨o,es,ep,hk _ _ h1,h2⟩) (λb o _ e=>hk b o e) hD he (LV.cB7 hi) (by rw[Aa3,hp.length_eq];exact hz)
 exact⟨.ref _,_,I',rfl,q _ _ HD hp hs⟩
end
end L2
namespace LV
open PySem L2 PyProof.Rows
section
variable {K:PySem.W.Frag}{ρ:List Sl}
theorem cD8 {t:TA}{l ss:List Int}(ha:A K false t ρ [tI l])(h64:l.length<64)(hp:ss.Perm l)(hs:ss.Pairwise (· <= ·)):EF K (tCB (dM5 K) t) ρ (ss.map .int):=
 cZ8 ha (j9 ss) λH vs Q r q=>by
  cases r with
  | cons a b=>
   cases b
   obtain ⟨p,rfl,s⟩:=bW0 a;refine⟨p,l,rfl,s,h64,λa l' h1 h2 h3=>q a _ h1 ?_⟩
   rw[cD6 (h2.trans hp.symm) h3 hs];exact X2 ss
end
end LV
namespace LH
open PySem PySem.SetTable
theorem bK1 (t:SetTable)(k:Nat)(p:Probe):adv t (k+1) p=t.advance (adv t k p):=by rw[aI6 t k 1 p];rfl
theorem bK8 {t t':SetTable}(h:t.mask=t'.mask):∀k p,adv t k p=adv t' k p
 | 0,p=>rfl
 | k+1,p=>by
  show adv t k (t.advance p)=adv t' k (t'.advance p)
  have:t.advance p=t'.advance p:=by unfold advance;rw[h]
  rw[this];exact bK8 h k _
def stj (t:SetTable)(h:Int)(k:Nat):Nat:=(adv t k (t.probeStart h)).j
theorem bI7 {t t':SetTable}(e:t.mask=t'.mask)(h:Int)(k:Nat):stj t h k=stj t' h k:=by
 unfold stj
 have:t.probeStart h=t'.probeStart h:=by unfold probeStart;rw[e]
 rw[this,bK8 e]
def Pth (t:SetTable)(h:Int)(j:Nat):Prop:=∃k,stj t h k=j/\∀k',k'<k->stj t h k'∈t.place
theorem slot_live {t:SetTable}(hi:Inc t.place){i j:Nat}(h:t.place[i]? = some j):t.slot j=.live i:=by
 obtain ⟨hl,e⟩:=Array.getElem?_eq_some_iff.mp h;obtain ⟨b1,b2,b3⟩:=X9 hi j;have hb:below t.place j=i:=by
  rcases Nat.lt_trichotomy (below t.place j) i with z | z | z
  ·have a1:=b3 (below t.place j) (by omega) (Aa7 _)
   have a2:=hi (below t.place j) i hl z
   omega
  ·exact z
  ·have:=b2 i hl z;omega
 unfold slot;rw[hb];show(if(t.place[i]? == some j)=true then _ else _)=_;rw[h,if_pos (by simp)]
def dP2 (t:SetTable)(f:Nat->Int)(h:Int)(k:Nat):Met->Prop
 | .empty j _=>∃k2,k<=k2/\stj t h k2=j/\(∀k',k'<k2->stj t h k'∈t.place)/\t.slot j=.empty/\∀k',k<=k'->k'<k2->∃i,t.slot (stj t h k')=.live i/\(f i==h)=false
 | .candidate j i next=>∃k2,k<=k2/\stj t h k2=j/\(∀k',k'<k2+1->stj t h k'∈t.place)/\next=adv t (k2+1) (t.probeStart h)/\t.slot j=.live i/\∀k',k<=k'->k'<k2->∃i,t.slot (stj t h k')=.live i/\(f i==h)=false
theorem go_ok {t:SetTable}(hd:t.dummies = #[])(f:Nat->Int)(h:Int):∀(fuel k:Nat) (m:Met),(∀k',k'<k->stj t h k'∈t.place)->probe.go t f h fuel (adv t k (t.probeStart h))=some m->dP2 t f h k m
 | 0,k,m,_,e=>by cases e
 | fuel+1,k,m,hk,e=>by
  unfold probe.go at e;rcases aQ1 (j:=stj t h k) hd with s | ⟨i,s1,s2⟩
  ·have s:t.slot (adv t k (t.probeStart h)).j=.empty:=s
   rw[s]at e;cases e;exact⟨k,Aa7 _,rfl,hk,s,λk' h1 h2=>by omega⟩
  ·have s2':t.slot (adv t k (t.probeStart h)).j=.live i:=s2
   rw[s2']at e;dsimp only at e;have hin:stj t h k∈t.place:=Array.mem_of_getElem? s1;have hk1:∀k',k'<k+1->stj t h k'∈t.place:=λk' h'=>by
    rcases Nat.lt_or_ge k' k with z | z
    ·exact hk k' z
    ·rw[show k'=k by omega];exact hin
   split at e
   ·cases e
    exact⟨k,Aa7 _,rfl,hk1,(bK1 t k _).symm,s2,λk' h1 h2=>by omega⟩
   ·rename_i hne;rw[<- bK1]at e;have ih:=go_ok hd f h fuel (k+1) m hk1 e;have hf:(f i==h)=false:=by simpa using hne
    have skip:∀k2,(∀k',k+1<=k'->k'<k2->∃i,t.slot (stj t h k')=.live i/\(f i==h)=false)->∀k',k<=k'->k'<k2->∃i,t.slot (stj t h k')=.live i/\(f i==h)=false:=λk2 hh k' h1 h2=>by
     rcases Nat.eq_or_lt_of_le h1 with z | z
     ·rw[<- z];exact⟨i,s2,hf⟩
     ·exact hh k' z h2
    cases m with
    | empty j d=>
     obtain ⟨k2,a1,a2,a3,a4,a5⟩:=ih;exact⟨k2,by omega,a2,a3,a4,skip k2 a5⟩
    | candidate j i' n=>
     obtain ⟨k2,a1,a2,a3,a4,a5,a6⟩:=ih;exact⟨k2,by omega,a2,a3,a4,a5,skip k2 a6⟩
def Fnd (t:SetTable)(hs:List Int):Prop:=∀x∈hs.zip t.place.toList,Pth t x.1 x.2
theorem insertAt_list {α:Type}(xs:Array α)(p:Nat)(x:α):(insertAt xs p x).toList=xs.toList.take p++x::xs.toList.drop p:=by
 unfold insertAt;rw[Array.toList_append,Array.toList_push,Array.toList_extract,Array.toList_extract];have e:(xs.toList.drop p).take (xs.toList.length-p)=xs.toList.drop p:=List.take_of_length_le (by simp)
 simp[List.extract_eq_drop_take,<- Array.length_toList,e]
theorem bP5 {α β:Type}{a:List α}{b:List β}(h:a.length=b.length)(p:Nat)(x:α)(y:β):((a.take p++x::a.drop p).zip (b.take p++y::b.drop p)).Perm ((x,y)::a.zip b):=by
 rw[List.zip_append (by rw[Ad0,Ad0,h]),List.zip_cons_cons]
 refine List.perm_middle.trans (List.Perm.cons _ ?_);rw[<- List.zip_append (by rw[Ad0,Ad0,h]),Ad2,Ad2]
theorem put_fnd {t:SetTable}{hs:List Int}{h:Int}{j:Nat}(F:Fnd t hs)(hl:hs.length=t.place.size)(hp:Pth t h j):Fnd (t.put j).1 (hs.take (t.put j).2++h::hs.drop (t.put j).2):=by
 have em:t.mask=(t.put j).1.mask:=rfl
 have el:(t.put j).1.place.toList=t.place.toList.take (t.put j).2++j::t.place.toList.drop (t.put j).2:=insertAt_list _ _ _
 have mono:∀x,x∈t.place->x∈(t.put j).1.place:=λx hx=>by
  rw[<- Array.mem_toList_iff]at hx ⊢;rw[el];rw[<- Ad2 (t.put j).2 t.place.toList]at hx;rcases Aa0.mp hx with hx | hx
  ·exact List.mem_append_left _ hx
  ·exact Ac1 _ (Ad3 _ hx)
 have lift:∀{h j'},Pth t h j'->Pth (t.put j).1 h j':=λ{h j'} ⟨k,h1,h2⟩=>⟨k,by rw[<- bI7 em];exact h1,λk' hk=>by rw[<- bI7 em];exact mono _ (h2 k' hk)⟩
 intro x hx;rw[el]at hx;rcases Aa1.mp ((bP5 (by rw[hl,Array.length_toList]) _ _ _).mem_iff.mp hx) with rfl | hx
 ·exact lift hp
 ·exact lift (F x hx)
theorem bR0 (t:SetTable):∀(k j more i p:Nat) (d:Option Nat),k<=more->(adv t k {j,more,i,perturb:=p,dummy:=d}).j=j+k
 | 0,_,_,_,_,_,_=>rfl
 | k+1,j,more,i,p,d,h=>by
  show(adv t k (t.advance _)).j=_
  have:t.advance {j,more,i,perturb:=p,dummy:=d}={j:=j+1,more:=more-1,i,perturb:=p,dummy:=d}:=by
   unfold advance;rw[if_pos (show more>0 by omega)]
  rw[this,bR0 t k (j+1) (more-1) i p d (by omega)];omega
theorem aX8 {t:SetTable}(o:Array (Option Nat)):∀(fuel i p j:Nat),layClean.free t.mask o fuel i p=some j->∃n,(adv t n (beg t.mask i p none)).j=j/\∀n',n'<n->(o.getD (adv t n' (beg t.mask i p none)).j (some 0)).isNone=false
 | 0,i,p,j,e=>by cases e
 | fuel+1,i,p,j,e=>by
  unfold layClean.free at e;have hre:i<=runEnd t.mask i:=by unfold runEnd;split <;> omega
  cases hf:(List.range (runEnd t.mask i+1-i)).find? λk=>(o.getD (i+k) (some 0)).isNone with
  | some k=>
   rw[hf]at e;dsimp only at e;cases e;obtain ⟨h1,h2,h3⟩:=List.find?_range_eq_some.mp hf;have hk:=Ab5.mp h2;have hj:∀n',n'<=k->(adv t n' (beg t.mask i p none)).j=i+n':=λn' hn=>bR0 t n' i _ i p none (by omega)
   refine⟨k,hj k (Aa7 _),λn' hn=>?_⟩
   rw[hj n' (by omega)]
   have:=h3 n' hn
   simp only[Bool.not_eq_true']at this;exact this
  | none=>
   rw[hf]at e;dsimp only at e;obtain ⟨n,h1,h2⟩:=aX8 o fuel _ _ j e;have hrun:adv t (runEnd t.mask i-i+1) (beg t.mask i p none)=beg t.mask (leap t.mask i p).1 (leap t.mask i p).2 none:=bE1 t _ _ _ _ _;refine⟨(runEnd t.mask i-i+1)+n,by rw[aI6,hrun];exact h1,λn' hn=>?_⟩
   rcases Nat.lt_or_ge n' (runEnd t.mask i-i+1) with z | z
   ·have hj:(adv t n' (beg t.mask i p none)).j=i+n':=bR0 t n' i _ i p none (by omega)
    rw[hj]
    have:=List.find?_eq_none.mp hf n' (Ab5.mpr (by omega))
    exact Bool.eq_false_iff.mpr this
   ·have:=h2 (n'-(runEnd t.mask i-i+1)) (by omega)
    rw[<- hrun,<- aI6,show runEnd t.mask i-i+1+(n'-(runEnd t.mask i-i+1))=n' by omega]at this
    exact this
def cT7 (t:SetTable)(o:Array (Option Nat))(h:Int)(j:Nat):Prop:=∃n,stj t h n=j/\∀n',n'<n->(o.getD (stj t h n') (some 0)).isNone=false
theorem aR1 {t:SetTable}:∀(hs pre:List Int) (o o':Array (Option Nat)) (k:Nat),pre.length=k->o.size=t.mask+1->(∀j x,o[j]? = some (some x)->∃h,pre[x]? = some h/\cT7 t o h j) ->
  hs.foldl (λacc h=>do
   let (owner,k) <- acc
   let j <- layClean.free t.mask owner (turns t.mask) (bits h % (t.mask+1)) (bits h)
   pure (owner.setIfInBounds j (some k),k+1)) (some (o,k))=some (o',k+hs.length)->∀j x,o'[j]? = some (some x)->∃h,(pre++hs)[x]? = some h/\cT7 t o' h j
 | [],pre,o,o',k,hk,hz,hp,e=>by
  cases e
  rw[List.append_nil];exact hp
 | h::hs,pre,o,o',k,hk,hz,hp,e=>by
  rw[List.foldl_cons,List.length_cons,show k+(hs.length+1)=k+1+hs.length by omega]at e
  cases hfr:layClean.free t.mask o (turns t.mask) (bits h % (t.mask+1)) (bits h) with
  | none=>
   have:(do
    let (owner,k) <- some (o,k)
    let j <- layClean.free t.mask owner (turns t.mask) (bits h % (t.mask+1)) (bits h)
    pure (owner.setIfInBounds j (some k),k+1):Option (Array (Option Nat)×Nat))=none:=by
    show(layClean.free t.mask o (turns t.mask) (bits h % (t.mask+1)) (bits h)).bind _=none
    rw[hfr];rfl
   rw[this]at e;have hn:∀(l:List Int),l.foldl (λacc h=>do
    let (owner,k) <- acc
    let j <- layClean.free t.mask owner (turns t.mask) (bits h % (t.mask+1)) (bits h)
    pure (owner.setIfInBounds j (some k),k+1)) (none:Option (Array (Option Nat)×Nat))=none:=λl=>by
    induction l with
    | nil=>rfl
    | cons a l ih=>rw[List.foldl_cons];exact ih
   rw[hn]at e;cases e
  | some j0=>
   have:(do
    let (owner,k) <- some (o,k)
    let j <- layClean.free t.mask owner (turns t.mask) (bits h % (t.mask+1)) (bits h)
    pure (owner.setIfInBounds j (some k),k+1):Option (Array (Option Nat)×Nat))=some (o.setIfInBounds j0 (some k),k+1):=by
    show(layClean.free t.mask o (turns t.mask) (bits h % (t.mask+1)) (bits h)).bind _=_
    rw[hfr];rfl
   rw[this]at e;have mono:∀x,(o.getD x (some 0)).isNone=false->((o.setIfInBounds j0 (some k)).getD x (some 0)).isNone=false:=λx hx=>by
    rw[Array.getD_eq_getD_getElem?]at hx ⊢;by_cases hx0:j0=x
    ·subst hx0;by_cases hlt:j0<o.size
     ·rw[Array.getElem?_setIfInBounds_self_of_lt hlt];rfl
     ·rw[Array.getElem?_eq_none (by rw[Array.size_setIfInBounds];omega)];rfl
    ·rw[Array.getElem?_setIfInBounds_ne hx0];exact hx
   have lift:∀{h j},cT7 t o h j->cT7 t (o.setIfInBounds j0 (some k)) h j:=λ{h j} ⟨n,a,b⟩=>⟨n,a,λn' hn=>mono _ (b n' hn)⟩
   have ih:=aR1 hs (pre++[h]) (o.setIfInBounds j0 (some k)) o' (k+1) (by simp[hk]) (by rw[Array.size_setIfInBounds];exact hz) (λj x hx=>by
    by_cases hj:j0=j
    ·subst hj;have hlt:j0<o.size:=by
      have:=(Array.getElem?_eq_some_iff.mp hx).1
      rw[Array.size_setIfInBounds]at this;exact this
     rw[Array.getElem?_setIfInBounds_self_of_lt hlt]at hx;have hx:some k=some x:=Ab4 hx;have hx:k=x:=Ab4 hx;subst hx;refine⟨h,by rw[List.getElem?_append_right (by omega),hk];simp,lift ?_⟩
     obtain ⟨n,a,b⟩:=aX8 (t:=t) o _ _ _ _ hfr;exact⟨n,a,b⟩
    ·rw[Array.getElem?_setIfInBounds_ne hj]at hx;obtain ⟨h',a,b⟩:=hp j x hx;refine⟨h',?_,lift b⟩;rw[List.getElem?_append_left (Ab0.mp a).1];exact a) e
   rw[Ad5]at ih;exact ih
theorem cK6 (t:SetTable)(i p:Nat)(d:Option Nat)(h:i<=t.mask):(beg t.mask i p d).j+(beg t.mask i p d).more<=t.mask:=by
 show i+(runEnd t.mask i-i)<=t.mask
 unfold runEnd;split <;> omega
theorem bZ7 {t:SetTable}:∀k p,p.j+p.more<=t.mask->(adv t k p).j+(adv t k p).more<=t.mask
 | 0,p,h=>h
 | k+1,p,h=>bZ7 k (t.advance p) (by
  unfold advance;split
  ·show p.j+1+(p.more-1)<=_;omega
  ·exact cK6 t _ 0 none (bU2 _ _ _))
theorem dD7 (t:SetTable)(h:Int)(k:Nat):stj t h k<=t.mask:=by
 have:=bZ7 (t:=t) k (t.probeStart h) (cK6 t _ (bits h) none (Nat.le_of_lt_succ (Nat.mod_lt _ (by omega))))
 unfold stj;omega
theorem bI5 {es:Array (Int×Value)}{P:Int->Nat->Prop}:∀{L:List (Nat×Nat)},(∀p∈L,∃e,es[p.2]? = some e/\P e.1 p.1)->∀z∈((((L.map (·.2)).filterMap (es[·]?)).map (·.1)).zip (L.map (·.1))),P z.1 z.2
 | [],_,z,hz=>by cases hz
 | p::L,h,z,hz=>by
  obtain ⟨e,h1,h2⟩:=h p List.mem_cons_self;simp only[Ac6,List.filterMap_cons,h1,List.zip_cons_cons,Aa1]at hz;rcases hz with rfl | hz
  ·exact h2
  ·exact bI5 (λq hq=>h q (Ad3 _ hq)) z hz
theorem laid_fnd {mask finger moves:Nat}{led plain:Bool}{es:Array (Int×Value)}{t:SetTable}{order:Array Nat}(F:Full mask)(hn:es.size<=mask)(h:laid mask finger moves led plain (es.map (·.1))=some (t,order)):Fnd t ((order.filterMap (es[·]?)).toList.map (·.1)):=by
 obtain ⟨o',g1,g2,g3⟩:=aT0 F (es.map (·.1)).toList (Array.replicate (mask+1) none) 0 (by simp) (by
  have:own mask (Array.replicate (mask+1) none)=[]:=by
   unfold own;rw[List.filterMap_eq_nil_iff];intro x hx;rw[Array.getD_eq_getD_getElem?,Array.getElem?_replicate,if_pos (Ab5.mp hx)];rfl
  rw[this];exact List.Perm.refl _) (by rw[Array.length_toList,Array.size_map];omega)
 have g1':=g1
 rw[Nat.zero_add]at g1';have hl:layClean mask (es.map (·.1))=some o':=by
  unfold layClean;rw[<- Array.foldl_toList,g1'];rfl
 unfold laid at h;rw[hl]at h;obtain ⟨e1,e2⟩:=Prod.mk.inj (Ab4 h);have em:t.mask=mask:=by rw[<- e1]
 have ep:t.place.toList=((List.range (mask+1)).filterMap λj=>(o'.getD j none).map (j,·)).map (·.1):=by rw[<- e1]
 have eo:order.toList=((List.range (mask+1)).filterMap λj=>(o'.getD j none).map (j,·)).map (·.2):=by rw[<- e2]
 clear e1 e2 h
 subst em;have cp:=aR1 (t:=t) _ [] _ o' 0 rfl (by simp) (λj x hx=>by
  rw[Array.getElem?_replicate]at hx;split at hx <;> simp at hx) g1
 have hlive:∀j x,o'[j]? = some (some x)->(j,x)∈(List.range (t.mask+1)).filterMap λj=>(o'.getD j none).map (j,·):=λj x hx=>by
  refine List.mem_filterMap.mpr ⟨j,Ab5.mpr (by have:=(Array.getElem?_eq_some_iff.mp hx).1;omega),?_⟩
  rw[Array.getD_eq_getD_getElem?,hx];rfl
 intro z hz;rw[Array.toList_filterMap,eo,ep]at hz;refine bI5 (P:=λh j=>Pth t h j) (λp hp=>?_) z hz
 obtain ⟨j,hj,e⟩:=List.mem_filterMap.mp hp;cases eo:o'.getD j none with
 | none=>rw[eo]at e;cases e
 | some x=>
  rw[eo]at e;have e:some (j,x)=some p:=e;obtain rfl:=Ab4 e;have ho:o'[j]? = some (some x):=by
   rw[Array.getD_eq_getD_getElem?]at eo;cases eq:o'[j]? with
   | none=>rw[eq]at eo;cases eo
   | some y=>rw[eq]at eo;have eo:y=some x:=eo;rw[eo]
  obtain ⟨hh,h1,n,h2,h3⟩:=cp j x ho;rw[List.nil_append,Array.getElem?_toList,Array.getElem?_map]at h1;obtain ⟨e,he,rfl⟩:=Option.map_eq_some_iff.mp h1;refine⟨e,he,n,h2,λk' hk=>?_⟩
  have h4:=h3 k' hk
  have hlt:stj t e.1 k'<o'.size:=by have:=dD7 t e.1 k';omega
  rw[Array.getD_eq_getD_getElem?]at h4;cases eq:o'[stj t e.1 k']? with
  | none=>have:=Array.getElem?_eq_getElem hlt;rw[eq]at this;cases this
  | some y=>
   rw[eq]at h4;cases y with
   | none=>cases h4
   | some y=>
    rw[<- Array.mem_toList_iff,ep];exact Aa8.mpr ⟨_,hlive _ y eq,rfl⟩
theorem fnd_at {t:SetTable}{es:Array (Int×Value)}(F:Fnd t (es.toList.map (·.1)))(hz:t.place.size=es.size){i:Nat}{e:Int×Value}(h:es[i]? = some e):∃j,t.place[i]? = some j/\Pth t e.1 j:=by
 have hi:i<es.size:=(Array.getElem?_eq_some_iff.mp h).1
 have hi':i<t.place.size:=by omega
 refine⟨_,Array.getElem?_eq_getElem hi',F (e.1,t.place[i]) ?_⟩;refine List.mem_iff_getElem?.mpr ⟨i,?_⟩;rw[List.getElem?_zip_eq_some];refine⟨?_,?_⟩
 ·rw[Aa9,Array.getElem?_toList,h];rfl
 ·rw[Array.getElem?_toList,Array.getElem?_eq_getElem hi']
end LH
namespace L2
open PySem PySem.Spec PyProof.Rows
section
variable {prog:Program}{w:World}{A:Around}{E:Value->Shared->Prop}{s:Shared}
def cT5 (prog:Program)(w:World)(h:Heap)(v:Value):Prop:=∃b y,v=.ref b/\IsTupleKey (intKind prog w) h y b
theorem cG3 {ks:List Int}{a:Addr}{vs:List Value}{Q:Bool->Shared->Prop}(hk:IsTupleKey (intKind prog w) s.heap ks a)(hv:∀v∈vs,cT5 prog w s.heap v)(h:Q false s):wpAny (model prog w) A (searchCouldBeSeen (.ref a) vs) Q E s:=by
 unfold searchCouldBeSeen;refine wpAny_bind ?_;refine wpAny_forIn_list _ (λrest r s'=>r.1=none/\s'=s/\∀v∈rest,cT5 prog w s.heap v) _ ?_ ?_ _ _ ⟨rfl,rfl,hv⟩
 ·rintro v rest r s' ⟨hr,rfl,hall⟩;obtain ⟨b,y,rfl,hy⟩:=hall v List.mem_cons_self;have hrest:∀u∈rest,cT5 prog w s'.heap u:=λu hu'=>hall u (Ad3 _ hu')
  dsimp only
  split
  ·exact wpAny_pure ⟨rfl,rfl,hrest⟩
  ·refine wpAny_bind (wpAny_eqIsQuiet_tuple hk ?_);simp only[Bool.not_true,Bool.false_eq_true,if_false];refine wpAny_bind (wpAny_eqIsQuiet_tuple hy ?_);simp only[Bool.not_true,Bool.false_eq_true,if_false];refine wpAny_bind (aQ0 hk ?_);simp only[Bool.false_eq_true,if_false];refine wpAny_bind (aQ0 hy ?_);simp only[Bool.false_eq_true,if_false];exact wpAny_pure ⟨rfl,rfl,hrest⟩
 ·rintro ⟨r1,r2⟩ s' ⟨hr,rfl,_⟩;simp only at hr;subst hr;exact wpAny_pure h
theorem aS2 {S a:Addr}{o:Obj}{es:Array (Int×Value)}{ep:Nat}{t:SetTable}{x:List Int}{h:Int}{ky:Addr->List Int}{Q:SetFound->Shared->Prop}(hu:A.units<cLine)(ho:s.heap.get? S=some o)(hd:o.data=.set es ep t)(T:TabOk t es.size)(hin:LH.Inc t.place)(hx:IsTupleKey (intKind prog w) s.heap x a)
  (hes:∀e∈es.toList,∃b,e.2=.ref b/\IsTupleKey (intKind prog w) s.heap (ky b) b)
  (hq:∀j,(∀e∈es.toList,∀b,e.2=.ref b->ky b≠x)->LH.Pth t h j->t.slot j=.empty->Q (.free j false) s) (hf:(∃e∈es.toList,∃b,e.2=.ref b/\ky b=x)->Q (.there none) s) :
  ∀(fuel n k:Nat) (stand:Option SetTable.Probe),n<fuel->n<=10*(t.mask+13)->LH.Rch t (stand.getD (t.probeStart h)) n->stand.getD (t.probeStart h)=LH.adv t k (t.probeStart h)->(∀k',k'<k->LH.stj t h k'∈t.place) ->
   ((∀e∈es.toList,∀b,e.2=.ref b->ky b≠x)\/∃(k0 i:Nat) (b:Addr),k<=k0/\t.place[i]? = some (LH.stj t h k0)/\(∀k',k'<k0->LH.stj t h k'∈t.place)/\es[i]? = some (h,Value.ref b)/\ky b=x) ->
   wpAny (model prog w) A (setSearchFrom S (.ref a) h true fuel stand) Q E s
 | 0,n,k,stand,hfu,_,_,_,_,_=>absurd hfu (by omega)
 | fuel+1,n,k,stand,hfu,hn,hr,hst,hpl,hpr=>by
  unfold setSearchFrom;refine wpAny_bind (wpAny_setState_of ho hd T.fits ?_);dsimp only;have hg:t.gaveWay=false:=by
   unfold SetTable.gaveWay;rcases T.mq with z | z <;> rw[z.1] <;> rfl
  rw[hg];simp only[Bool.false_eq_true,if_false];generalize hF:t.probe _ h (stand.getD (t.probeStart h))=pr;have hF:t.probe (λi=>(es[i]?.map (·.1)).getD 0) h (stand.getD (t.probeStart h))=pr:=hF
  obtain ⟨m,h1,h2⟩:∃m,pr=some m/\LH.Mt t n m:=by rw[<- hF];exact LH.probe_met T.dm _ h hr hn
  subst h1;rw[hst]at hF;have hgo:=LH.go_ok T.dm _ h _ k m hpl hF
  clear hF
  dsimp only
  have noemp:∀{k j},t.slot (LH.stj t h k)=.empty->t.place[j]? = some (LH.stj t h k)->False:=λ{k j} e1 e2=>by
   rw[LH.slot_live hin e2]at e1;cases e1
  have nomem:∀{k},t.slot (LH.stj t h k)=.empty->LH.stj t h k∈t.place->False:=λ{k} e1 e2=>by
   obtain ⟨j,hj⟩:=Array.mem_iff_getElem?.mp e2;exact noemp e1 hj
  cases h2 with
  | @emp j=>
   obtain ⟨k2,a1,a2,a3,a4,a5⟩:=hgo;refine wpAny_pure (hq _ ?_ ⟨k2,a2,a3⟩ a4);rcases hpr with z | ⟨k0,i,b,b1,b2,b3,b4,b5⟩
   ·exact z
   ·exfalso
    subst a2;rcases Nat.lt_trichotomy k2 k0 with z | z | z
    ·exact nomem a4 (b3 k2 z)
    ·rw[z]at a4;exact noemp a4 b2
    ·obtain ⟨i',c1,c2⟩:=a5 k0 b1 z;rw[LH.slot_live hin b2]at c1;cases c1;dsimp only at c2;rw[b4]at c2;simp at c2
  | @cand j i next n' hs hp hn' hr'=>
   obtain ⟨k2,a1,a2,a3,a4,a5,a6⟩:=hgo;dsimp only;have hi:i<es.size:=by rw[<- T.sz];exact(Array.getElem?_eq_some_iff.mp hp).1
   obtain ⟨⟨h',v⟩,hei⟩:∃e,es[i]? = some e:=⟨_,Array.getElem?_eq_getElem hi⟩;have hmem:(h',v)∈es.toList:=Array.mem_toList_iff.mpr (Array.mem_of_getElem? hei);obtain ⟨b,ev,hy⟩:=hes (h',v) hmem;have ev:v=.ref b:=ev;subst ev;have hsm:t.sameMemory t.moves t.mask=some true:=by simp[SetTable.sameMemory]
   have hstd:∀v∈(es.filter (·.1==h)).toList.map (·.2),cT5 prog w s.heap v:=λv hv=>by
    obtain ⟨e,he,rfl⟩:=Aa8.mp hv;rw[Array.toList_filter]at he;obtain ⟨b,h1,h2⟩:=hes e (List.mem_filter.mp he).1;exact⟨b,_,h1,h2⟩
   cases t.led
   case' false=>
    simp only[Bool.not_false,if_true];refine wpAny_bind (cG3 hx hstd ?_);simp only[Bool.false_eq_true,if_false]
   case' true=>simp only[Bool.not_true,Bool.false_eq_true,if_false]
   all_goals
    rw[hei];dsimp only;refine wpAny_bind (wpAny_holding (wpAny_eqBool_tuple hu hy hx ?_));by_cases heq:ky b=x
    ·rw[decide_eq_true heq];refine wpAny_bind (wpAny_setState_of ho hd T.fits ?_);simp only[Bool.and_self,if_true];exact wpAny_pure (hf ⟨_,hmem,b,rfl,heq⟩)
    ·rw[decide_eq_false heq];refine wpAny_bind (wpAny_setState_of ho hd T.fits ?_);simp only[Bool.and_false,Bool.false_eq_true,if_false];rw[hsm];simp only[if_true];rw[hs];dsimp only;rw[hei];dsimp only;refine wpAny_bind ?_;refine wpAny_of_eq (a:=true) (if_pos (beq_self_eq_true _)) ?_;refine wpAny_bind (wpAny_pure ?_);simp only[if_true];refine aS2 hu ho hd T hin hx hes hq hf fuel n' (k2+1) (some next) (by omega) (by omega) hr' a4 a3 ?_
     rcases hpr with z | ⟨k0,i0,b0,b1,b2,b3,b4,b5⟩
     ·exact .inl z
     ·refine .inr ⟨k0,i0,b0,?_,b2,b3,b4,b5⟩;subst a2;rcases Nat.lt_trichotomy k2 k0 with z | z | z
      ·exact z
      ·exfalso
       subst z;rw[LH.slot_live hin b2]at hs;cases hs;rw[b4]at hei;cases hei;exact heq b5
      ·exfalso
       obtain ⟨i',c1,c2⟩:=a6 k0 b1 z;rw[LH.slot_live hin b2]at c1;cases c1;dsimp only at c2;rw[b4]at c2;simp at c2
def SetT (prog:Program)(w:World)(ky:Addr->List Int)(h:Heap)(S:Addr)(as:List Addr):Prop:=∃o es ep t,h.get? S=some o/\o.ExactSet/\o.data=.set es ep t/\TabOk t es.size/\LH.Inc t.place/\t.plain=true/\t.led = !(w.params.followText "set-order")/\(∀e∈es.toList,∃a,a∈as/\e.2=.ref a/\e.1=tupleKeyHash (intKind prog w) (ky a))/\LH.Fnd t (es.toList.map (·.1))/\(es.toList.map (·.2)).Perm (as.map Value.ref)
theorem cC9 {S:Addr}{o:Obj}{es:Array (Int×Value)}{ep:Nat}{t:SetTable}{Q:Unit->Shared->Prop}(ho:s.heap.get? S=some o)(hd:o.data=.set es ep t)(hf:t.fits es.size=true)(h5:es.size=5)
  (hq:∀(es':Array (Int×Value)) (t':SetTable),es'.toList.Perm es.toList->TabOk t' es.size->LH.Inc t'.place->t'.plain=t.plain->t'.led=t.led->LH.Fnd t' (es'.toList.map (·.1))->Q () {s with heap:=s.heap.update S (Obj.putSet es' t')}):wpAny (model prog w) A (setRelay S 20) Q E s:=by
 unfold setRelay;refine wpAny_bind (wpAny_setState_of ho hd hf ?_);dsimp only;rw[if_neg (by rw[sizeLine_eq];decide)]
 obtain ⟨t',order,h1,h2,h3,h4,h6⟩:=LH.laid_some LH.full31 (es.map (·.1)) (by rw[Array.size_map];omega) t.finger (t.movedTo 31) t.led t.plain
 have hin:=LH.laid_inc h1
 have hfn:=LH.laid_fnd LH.full31 (by omega) h1
 have hpl:t'.plain=t.plain/\t'.led=t.led:=by
  unfold SetTable.laid at h1;cases e:SetTable.layClean 31 (es.map (·.1)) with
  | none=>rw[e]at h1;cases h1
  | some o=>
   rw[e]at h1;have h:=Ab4 h1;rw[<- (Prod.mk.inj h).1];exact⟨rfl,rfl⟩
 have h1:t.relaid (es.map (·.1)) 20=some (t',order):=h1
 rw[Array.size_map]at h4 h6;have hp:(order.filterMap (es[·]?)).toList.Perm es.toList:=by
  rw[Array.toList_filterMap];exact(h6.filterMap _).trans (by rw[filterMap_getElem?_range])
 have hz:(order.filterMap (es[·]?)).size=es.size:=by rw[<- Array.length_toList,hp.length_eq,Array.length_toList]
 rw[h1];refine wpAny_bind (wpAny_of_eq (a:=(order.filterMap (es[·]?),t')) ?_ ?_)
 ·show(if((order.filterMap (es[·]?)).size != es.size)=true then _ else _)=_
  rw[hz];simp
 ·exact wpAny_storeSet_of ho hd (hq _ _ hp ⟨h3,h4,.inr ⟨h2,by omega⟩⟩ hin hpl.1 hpl.2 hfn) (by rw[hz,h5,sizeLine_eq];omega)
theorem bW8 {ky:Addr->List Int}{S a:Addr}{as:List Addr}{Q:Bool->Shared->Prop}(hu:A.units<cLine)(hS:SetT prog w ky s.heap S as)(hlen:as.length<=16)(hx:IsTupleKey (intKind prog w) s.heap (ky a) a)(hv:∀b∈as,IsTupleKey (intKind prog w) s.heap (ky b) b)
  (hin:ky a∈as.map ky->∀tk,s.toks<=tk->Q false {s with toks:=tk})
  (h:ky a∉as.map ky->∀h' tk,s.toks<=tk->Heap.SameBut S s.heap h'->SetT prog w ky h' S (a::as)->Q true {s with heap:=h',toks:=tk}):wpAny (model prog w) A (setAdd S (.ref a)) Q E s:=by
 obtain ⟨o,es,ep,t,ho,hex,hd,T,hinc,hpl,hld,hel,hfn,hp⟩:=hS;have hn:es.size=as.length:=by rw[<- Array.length_toList,<- Aa3 (f:=(·.2)),hp.length_eq,Aa3]
 have hes:∀e∈es.toList,∃b,e.2=.ref b/\IsTupleKey (intKind prog w) s.heap (ky b) b:=λe he=>by
  obtain ⟨b,h1,h2,_⟩:=hel e he;exact⟨b,h2,hv b h1⟩
 unfold setAdd;refine wpAny_holding ?_;refine wpAny_bind (wpAny_pyHash_tuple hu hx ?_);have h:=λz h'=>h z h' (s.toks+((ky a).length+1)) (Nat.le_add_right _ _)
 have hin:=λz=>hin z (s.toks+((ky a).length+1)) (Nat.le_add_right _ _)
 revert h hin
 generalize hs1:({s with toks:=s.toks+((ky a).length+1)}:Shared)=s1
 have e1:s1.heap=s.heap:=by rw[<- hs1]
 intro h hin;have h:ky a∉as.map ky->∀h',Heap.SameBut S s1.heap h'->SetT prog w ky h' S (a::as)->Q true {s1 with heap:=h'}:=λz h' x b=>by
  rw[e1]at x
  have:=h z h' x b
  rw[<- hs1];exact this
 rw[<- e1]at ho hx hes
 clear hs1 hv
 obtain ⟨hh,hh0⟩:∃hh,hh=tupleKeyHash (intKind prog w) (ky a):=⟨_,rfl⟩;rw[<- hh0];have hmemk:(∃e∈es.toList,∃b,e.2=.ref b/\ky b=ky a)->ky a∈as.map ky:=λ⟨e,he,b,e1,e2⟩=>by
  obtain ⟨b',h1,h2,_⟩:=hel e he;rw[e1]at h2;cases h2;exact Aa8.mpr ⟨b,h1,e2⟩
 have hnomem:(∀e∈es.toList,∀b,e.2=.ref b->ky b≠ky a)->ky a∉as.map ky:=λz y=>by
  obtain ⟨b,h1,h2⟩:=Aa8.mp y;obtain ⟨e,h3,h4⟩:=Aa8.mp (hp.mem_iff.mpr (Aa8.mpr ⟨b,h1,rfl⟩));exact z e h3 b h4 h2
 have hpr:(∀e∈es.toList,∀b,e.2=.ref b->ky b≠ky a)\/∃(k0 i:Nat) (b:Addr),0<=k0/\t.place[i]? = some (LH.stj t hh k0)/\(∀k',k'<k0->LH.stj t hh k'∈t.place)/\es[i]? = some (hh,Value.ref b)/\ky b=ky a:=by
  by_cases hc:∃e∈es.toList,∃b,e.2=.ref b/\ky b=ky a
  ·obtain ⟨e,he,b,e2,e3⟩:=hc;obtain ⟨i,hi⟩:=Array.mem_iff_getElem?.mp (Array.mem_toList_iff.mp he);obtain ⟨b',h1,h2,h3⟩:=hel e he;rw[e2]at h2;cases h2;obtain ⟨j,h4,k0,h5,h6⟩:=LH.fnd_at hfn T.sz hi;rw[h3,e3,<- hh0]at h5 h6;refine .inr ⟨k0,i,b,Nat.zero_le _,by rw[h4,h5],h6,?_,e3⟩
   rw[hi];obtain ⟨e1,e2'⟩:=e;have e2:e2'=.ref b:=e2;have h3:e1=_:=h3;rw[e2,h3,e3,<- hh0]
  ·exact .inl λe he b h1 h2=>hc ⟨e,he,b,h1,h2⟩
 unfold setAddHashed setAddHashedIn;refine wpAny_holding (wpAny_bind (wpAny_setState_of ho hd T.fits ?_));dsimp only;rw[show byScan (.ref a) es=false from rfl]
 simp only[Bool.false_eq_true,if_false];unfold setSearch;refine wpAny_bind (aS2 hu ho hd T hinc hx hes (λj hno hpth hslot=>?_) (λhc=>?_) 100000 _ 0 none (by have:=T.mq;omega) (Aa7 _) (T.rch hh) rfl (λk' hk=>absurd hk (by omega)) hpr)
 rotate_left
 ·exact wpAny_pure (hin (hmemk hc))
 have h:=h (hnomem hno)
 dsimp only
 refine wpAny_bind (wpAny_setState_of ho hd T.fits ?_);dsimp only;obtain ⟨p1,p2,p3⟩:=T.put j;have p4:=LH.put_inc hinc (LH.slot_free hinc hslot);have p5:(t.put j).1.plain=t.plain:=rfl;have p6:(t.put j).1.led=t.led:=rfl;have p7:=LH.put_fnd hfn (by rw[Aa3,Array.length_toList,T.sz]) hpth
 generalize hput:t.put j=tp at p1 p2 p3 p4 p5 p6 p7;obtain ⟨t1,p⟩:=tp;dsimp only at p1 p2 p3 p4 p5 p6 p7 ⊢;rw[p5,hpl];simp only[if_true];refine wpAny_bind (cE4 hx ?_);simp only[if_true];have hpm:(SetTable.insertAt es p (hh,.ref a)).toList.Perm ((hh,.ref a)::es.toList):=(SetTable.insertAt_perm _ _ _).trans (by rw[Array.toList_push];exact List.perm_append_singleton _ _)
 have hz:(SetTable.insertAt es p (hh,Value.ref a)).size=es.size+1:=by rw[<- Array.length_toList,hpm.length_eq];simp
 have hvs:((SetTable.insertAt es p (hh,Value.ref a)).toList.map (·.2)).Perm ((a::as).map Value.ref):=(hpm.map _).trans (hp.cons _)
 have hel1:∀e∈(SetTable.insertAt es p (hh,Value.ref a)).toList,∃b,b∈a::as/\e.2=.ref b/\e.1=tupleKeyHash (intKind prog w) (ky b):=λe he=>by
  rcases Aa1.mp (hpm.mem_iff.mp he) with rfl | he
  ·exact⟨a,List.mem_cons_self,rfl,hh0⟩
  ·obtain ⟨b,h1,h2⟩:=hel e he;exact⟨b,Ad3 _ h1,h2⟩
 have hfn1:LH.Fnd t1 ((SetTable.insertAt es p (hh,Value.ref a)).toList.map (·.1)):=by
  rw[LH.insertAt_list,Ad1,Ac6,List.map_take,List.map_drop];exact p7
 refine wpAny_bind (wpAny_storeSet_of ho hd ?_ (by rw[hz,sizeLine_eq];omega))
 have hg:=bY0 ho hd (SetTable.insertAt es p (hh,.ref a)) t1
 have hsb:=Heap.SameBut.update s1.heap S (Obj.putSet (SetTable.insertAt es p (hh,.ref a)) t1)
 have hfill:t1.fill=es.size+1:=by unfold SetTable.fill;rw[p1,p2];rfl
 by_cases hfull:t1.tooFull=true
 ·rw[hfull];simp only[Bool.not_false,Bool.and_self,if_true];unfold SetTable.tooFull at hfull;have hfull:=of_decide_eq_true hfull;rw[hfill,p3]at hfull;have h4:es.size=4:=by have:=T.mq;omega
  have hm:t1.mask=7:=by rw[p3];have:=T.mq;omega
  rw[show SetTable.grown (es.size+1)=20 by rw[h4];rfl]
  refine wpAny_bind (cC9 hg rfl (by unfold SetTable.fits;rw[hfill,p2,hz,hm,h4];rfl) (by rw[hz,h4]) λes' t' q1 q2 q3 q4 q5 q6=>?_)
  refine wpAny_pure ?_;have hg2:=bY0 hg rfl es' t';refine h _ (hsb.trans (Heap.SameBut.update _ S _)) ⟨_,es',_,t',hg2,hex,rfl,?_,q3,by rw[q4,p5,hpl],by rw[q5,p6,hld],λe he=>hel1 e (q1.mem_iff.mp he),q6,(q1.map _).trans hvs⟩
  rw[show es'.size=(SetTable.insertAt es p (hh,Value.ref a)).size by rw[<- Array.length_toList,q1.length_eq,Array.length_toList]]
  exact q2
 ·rw[Bool.not_eq_true]at hfull;rw[hfull];simp only[Bool.and_false,Bool.false_eq_true,if_false];refine wpAny_pure (h _ hsb ⟨_,_,_,t1,hg,hex,rfl,⟨p1,by rw[p2,hz],?_⟩,p4,by rw[p5,hpl],by rw[p6,hld],hel1,hfn1,hvs⟩)
  unfold SetTable.tooFull at hfull;have hfull:=of_decide_eq_false hfull;rw[hfill,p3]at hfull;rw[p3,hz]
  have:=T.mq
  omega
end
theorem SetT.at_ {prog:Program}{w:World}{ky:Addr->List Int}{h h':Heap}{S:Addr}{as:List Addr}(x:SetT prog w ky h S as)(e:∀o,h.get? S=some o->h'.get? S=some o):SetT prog w ky h' S as:=by
 obtain ⟨o,es,ep,t,ho,r⟩:=x;exact⟨o,es,ep,t,e o ho,r⟩
def asN (ky:Addr->List Int)(adr:Nat->Addr):Nat->List Addr
 | 0=>[]
 | i+1=>if ky (adr i)∈(asN ky adr i).map ky then asN ky adr i else adr i::asN ky adr i
theorem cL5 (ky:Addr->List Int)(adr:Nat->Addr)(i:Nat):∀j,i<=j->(asN ky adr i).length<=(asN ky adr j).length
 | 0,h=>by rw[show i=0 by omega];exact Aa7 _
 | j+1,h=>by
  rcases Nat.eq_or_lt_of_le h with rfl | h
  ·exact Aa7 _
  ·have ih:=cL5 ky adr i j (by omega)
   show _<=(if _ then _ else _:List Addr).length
   split
   ·exact ih
   ·rw[List.length_cons];omega
theorem u9 {ky:Addr->List Int}{adr:Nat->Addr}{b:Addr}:∀{i},b∈asN ky adr i->∃j,j<i/\b=adr j
 | 0,h=>by cases h
 | i+1,h=>by
  have h:b∈(if _ then _ else _:List Addr):=h
  split at h
  ·obtain ⟨j,h1,h2⟩:=u9 h;exact⟨j,by omega,h2⟩
  ·rcases Aa1.mp h with rfl | h
   ·exact⟨i,by omega,rfl⟩
   ·obtain ⟨j,h1,h2⟩:=u9 h;exact⟨j,by omega,h2⟩
theorem bX1 {ky:Addr->List Int}{adr:Nat->Addr}:∀{i j},j<i->ky (adr j)∈(asN ky adr i).map ky
 | 0,j,h=>absurd h (by omega)
 | i+1,j,h=>by
  show _∈(if _ then _ else _:List Addr).map ky
  rcases Nat.lt_or_ge j i with z | z
  ·have ih:=bX1 (ky:=ky) (adr:=adr) z
   split
   ·exact ih
   ·exact Ad3 _ ih
  ·obtain rfl:j=i:=by omega
   split
   ·assumption
   ·exact List.mem_cons_self
theorem aL2 {ky:Addr->List Int}{adr:Nat->Addr}:∀{i},((asN ky adr i).map ky).Nodup
 | 0=>List.Pairwise.nil
 | i+1=>by
  have ih:=aL2 (ky:=ky) (adr:=adr) (i:=i)
  show((if _ then _ else _:List Addr).map ky).Nodup
  split
  ·exact ih
  ·rename_i h;rw[Ac6,Aa5];exact⟨h,ih⟩
section
variable {prog:Program}{w:World}{A:Around}{R:Result->Shared->Prop}{I:Addr}{fp wr:List Addr}{G:Array GenState->Array GenState->Prop}{n:Nat}{P:Nat->Value->Prop}{St:Nat->Shared->Prop}
theorem cD0 (W:WalksS prog w A.in1 I fp wr G n P St)(S:Addr)(hSf:S∉fp)(hu:A.in1.units<cLine)
  (ky:Addr->List Int) (adr:Nat->Addr) (hval:∀i v,P i v->v=.ref (adr i)) (hn:(asN ky adr n).length<=16) (hadr:∀i,i<n->adr i∉S::wr) :
  ∀(k i:Nat) (s:Shared),n-i=k->i<=n->St i s->SetT prog w ky s.heap S (asN ky adr i)->(∀i,i<n->IsTupleKey (intKind prog w) s.heap (ky (adr i)) (adr i)) ->
   (∀s',Moved (S::wr) G s s'->SetT prog w ky s'.heap S (asN ky adr n)->R (.ok (.ret .none)) s') ->
   codeAny (model prog w) A (.builtin "set.update.loop" ⟨[.ref S,.ref I],[]⟩) R s:=by
 have hSw:S∉wr:=λh=>hSf (W.sub _ h)
 have hsub:∀b∈wr,b∈S::wr:=λb hb=>Ad3 _ hb
 intro k;induction k with
 | zero=>
  intro i s hk hi hst hS hK hR;have hin:i=n:=by omega
  subst hin;refine codeAny_builtin F.entry_set_update_loop ?_;rw[Around.under_plainId F.plain_set_update_loop _];show wpAny _ A.in1 (pyNext (.ref I) >>= _) _ _ s;refine wpAny_bind (W.done s _ _ hst λs' hm=>?_)
  show wpAny _ A.in1 (ret Value.none) _ _ s'
  exact wpAny_pure (hR s' (hm.mono hsub) (hS.at_ λo ho=>hm.heap S _ hSw ho))
 | succ k ih=>
  intro i s hk hi hst hS hK hR;have hlt:i<n:=by omega
  refine codeAny_builtin F.entry_set_update_loop ?_;rw[Around.under_plainId F.plain_set_update_loop _];show wpAny _ A.in1 (pyNext (.ref I) >>= _) _ _ s;refine wpAny_bind (W.item i s _ _ hlt hst λv s' hP hst' hm=>?_)
  obtain rfl:=hval i v hP;have hS':SetT prog w ky s'.heap S (asN ky adr i):=hS.at_ λo ho=>hm.heap S _ hSw ho
  have hK':∀i,i<n->IsTupleKey (intKind prog w) s'.heap (ky (adr i)) (adr i):=λi hi=>IsTupleKey.at_ (hK i hi) λo ho=>hm.heap _ _ (λz=>hadr i hi (Ad3 _ z)) ho
  have hle:=cL5 ky adr (i+1) n hlt
  have hasn:asN ky adr (i+1)=if ky (adr i)∈(asN ky adr i).map ky then asN ky adr i else adr i::asN ky adr i:=rfl
  by_cases hin:ky (adr i)∈(asN ky adr i).map ky
  ·rw[if_pos hin]at hasn;show wpAny _ A.in1 (holding [Value.ref (adr i)] (setAdd S (.ref (adr i))) >>= _) _ _ s';refine wpAny_bind (wpAny_holding ?_);refine bW8 hu hS' (by rw[hasn]at hle;omega) (hK' i hlt) (λb hb=>?_) (λ_ tk htk=>?_) λz=>absurd hin z
   ·obtain ⟨j,hj,rfl⟩:=u9 hb;exact hK' j (by omega)
   ·refine wpAny_pure ⟨plainId_quiet F.plain_set_update_loop _,ih (i+1) _ (by omega) hlt (W.frame _ s' _ _ hst' htk λb hb o e=>e) (by rw[hasn];exact hS') hK' λs'' hm'' hS''=>?_⟩
    exact hR s'' (Moved.trans W.gtrans ((hm.mono hsub).then_heap htk λb o hb e=>e) hm'') hS''
  ·rw[if_neg hin]at hasn;rw[hasn,List.length_cons]at hle;show wpAny _ A.in1 (holding [Value.ref (adr i)] (setAdd S (.ref (adr i))) >>= _) _ _ s';refine wpAny_bind (wpAny_holding ?_);refine bW8 hu hS' (by omega) (hK' i hlt) (λb hb=>?_) (λz=>absurd z hin) λ_ h' tk htk hsb hS2=>?_
   ·obtain ⟨j,hj,rfl⟩:=u9 hb;exact hK' j (by omega)
   ·refine wpAny_pure ⟨plainId_quiet F.plain_set_update_loop _,ih (i+1) _ (by omega) hlt (W.frame _ s' _ _ hst' htk λb hb o e=>?_) (by rw[hasn];exact hS2) (λj hj=>IsTupleKey.at_ (hK' j hj) λo ho=>?_) λs'' hm'' hS''=>?_⟩
    ·rw[hsb.2 b (λh:b=S=>hSf (by rw[<- h];exact hb))];exact e
    ·rw[hsb.2 _ (λh:adr j=S=>hadr j hj (by rw[h];exact List.mem_cons_self))];exact ho
    ·refine hR s'' (Moved.trans W.gtrans ((hm.mono hsub).then_heap htk λb o hb e=>?_) hm'') hS''
     rw[hsb.2 b (λh:b=S=>hb (by rw[h];exact List.mem_cons_self))];exact e
end
section
variable {prog:Program}{w:World}{A:Around}{E:Value->Shared->Prop}{s:Shared}
set_option maxHeartbeats 3200000 in
theorem aU1 {ky:Addr->List Int}{l:Addr}{as:List Addr}{Q:Value->Shared->Prop}(hu:A.units+64<cLine)
  (hh:A.handled=none) (hl:s.heap.IsList l (as.map Value.ref).toArray) (hlen:(asN ky (λi=>as.getD i 0) as.length).length<=16) (hk:∀i,i<as.length->IsTupleKey (intKind prog w) s.heap (ky (as.getD i 0)) (as.getD i 0))
  (h:∀(h':Heap) (tk:Nat),SetT prog w ky h' s.heap.objs.size (asN ky (λi=>as.getD i 0) as.length) ->
   (∀b o,b<s.heap.objs.size->s.heap.get? b=some o->h'.get? b=some o)->Q (.ref s.heap.objs.size) {s with heap:=h',toks:=tk}) :
  wpAny (model prog w) A (call (.type "set") [.ref l]) Q E s:=by
 obtain ⟨c,tl,hmro⟩:=F.called_set.mro;have hmade:=F.called_set.made;have hsub:=F.called_set.sub;refine wpAny_call (codeAny_of_tree ?_);show wpAny _ _ (callAny (.type "set") _) _ _ _;refine wpAny_pure ⟨Code.quiet_builtin _ (by decide +kernel),codeAny_builtin F.entry_type_call ?_⟩
 rw[Around.under_plain (weight_type_call_type "set" [.ref l] []) rfl];have h1:=F.called_set.notType;have h2:=F.called_set.canCreate;have hct:=F.typeCall_set_1 (.ref l)
 repeat (any_goals (first | assumption | wp_step))
 refine codeAny_mono (bK7 (.ref l) (E:=E) (Q₁:=λobj s₁=>∃led:Bool,led = !(w.params.followText "set-order")/\obj=.ref s.heap.objs.size/\s₁={s with heap:=s.heap.push {cls:=.type "set",dict:=none,data:=.set #[] 0 (.fresh 0 0 led)}}) ⟨_,rfl,rfl,rfl⟩) λr s₁ hr=>?_
 cases r with
 | error e=>exact hr
 | ok fl=>
  cases fl with
  | ret obj=>
   obtain ⟨led,hled,rfl,rfl⟩:=hr;have hS:(s.heap.push {cls:=.type "set",dict:=none,data:=.set #[] 0 (.fresh 0 0 led)}).get? s.heap.objs.size=some {cls:=.type "set",dict:=none,data:=.set #[] 0 (.fresh 0 0 led)}:=Ac3 _ rfl;have hT:Shared.TypeIs {s with heap:=s.heap.push {cls:=.type "set",dict:=none,data:=.set #[] 0 (.fresh 0 0 led)}} (.ref s.heap.objs.size) "set" := ⟨_,hS,rfl⟩
   have hli:=F.called_set.init.lookup
   have hbi:=F.called_set.init.bind (.ref s.heap.objs.size)
   repeat (any_goals (first | assumption | wp_step))
   refine codeAny_mono (codeAny_call_builtin (R:=wants (λr s₂=>r=.none/\∃h' tk,s₂={s with heap:=h',toks:=tk} /\
     SetT prog w ky h' s.heap.objs.size (asN ky (λi=>as.getD i 0) as.length) /\
     (∀b o,b<s.heap.objs.size->s.heap.get? b=some o->h'.get? b=some o)) E) F.called_set.init.plain F.entry_set_init (check_set_init_1 hT ?_)) λr₂ s₂ hr₂=>?_
   ·obtain ⟨ol,hol,hcl,nl,hdl⟩:=hl;obtain ⟨ocls,odict,odata,oslots⟩:=ol;simp only at hcl hdl;subst hcl;subst hdl;have hol':(s.heap.push {cls:=.type "set",dict:=none,data:=.set #[] 0 (.fresh 0 0 led)}).get? l=some {cls:=.type "list",dict:=odict,data:=.seq (as.map Value.ref).toArray nl,slots:=oslots}:=Aa6 _ hol;have hsls:=F.sub_list_set;have hslf:=F.sub_list_frozenset;have hne:(Value.type "list" == Value.type "dict")=false:=by decide
    have hl1:(s.heap.push {cls:=.type "set",dict:=none,data:=.set #[] 0 (.fresh 0 0 led)}).IsList l (as.map Value.ref).toArray:=⟨_,hol',rfl,nl,rfl⟩
    unfold Builtin.«set.__init__» noKeywords Builtin.Frozenset.updateFrom;generalize hPI:pyIter=PI
    wp_walk
    subst hPI;refine wpAny_pyIter_list hl1 ?_;refine wpAny_bind (wpAny_runValue ?_);have hlS:l<s.heap.objs.size:=Ab3 hol;have hh3:A.in1.in1.in1.handled=none:=by simp[hh]
    have hneI:l≠(s.heap.push {cls:=.type "set",dict:=none,data:=.set #[] 0 (.fresh 0 0 led)}).objs.size:=by
     rw[Heap.size_push];exact Ab9 (Nat.lt_succ_of_lt hlS)
    have hSf:s.heap.objs.size∉[(s.heap.push {cls:=.type "set",dict:=none,data:=.set #[] 0 (.fresh 0 0 led)}).objs.size,l]:=by
     rw[Heap.size_push];simp only[Aa1,Ad6,Ac2,or_false,not_or];exact⟨Ab9 (Nat.lt_succ_self _),Nat.ne_of_gt hlS⟩
    have hsz:(as.map Value.ref).toArray.size=as.length:=by simp
    have hval:∀(i:Nat) (v:Value),(as.map Value.ref).toArray[i]? = some v->v=.ref ((λi=>as.getD i 0) i):=λi v hv=>by
     rw[List.getElem?_toArray,Aa9]at hv;obtain ⟨a,ha,rfl⟩:=Option.map_eq_some_iff.mp hv;show Value.ref a=Value.ref (as.getD i 0);rw[Ac0,ha];rfl
    have hklt:∀i,i<as.length->as.getD i 0<s.heap.objs.size:=λi hi=>by
     obtain ⟨o,_,_,ho,_⟩:=hk i hi;exact Ab3 ho
    refine cD0 ((Walks.list hh3 _ l hneI (as.map Value.ref).toArray).toS) s.heap.objs.size
     hSf (by show A.units+1+1+1<cLine;omega) ky (λi=>as.getD i 0) hval (by rw[hsz];exact hlen) (λi hi=>?hadr) ((as.map Value.ref).toArray.size-0) 0 _ (by omega) (Nat.zero_le _)
     ⟨⟨_,Ac3 _ rfl,rfl,rfl⟩,(hl1.push _)⟩ ?hS0 (λi hi=>?hK0) ?hR
    case hadr=>
     rw[hsz]at hi
     have:=hklt i hi
     rw[Heap.size_push];simp only[Aa1,Ad6,Ac2,or_false,not_or];exact⟨Ab9 this,Ab9 (Nat.lt_succ_of_lt this)⟩
    case hK0=>
     rw[hsz]at hi;exact IsTupleKey.at_ (hk i hi) λo ho=>Aa6 _ (Aa6 _ ho)
    case hS0=>
     have hget:((s.heap.push {cls:=.type "set",dict:=none,data:=.set #[] 0 (.fresh 0 0 led)}).push {cls:=.type "list_iterator",data:=.fields #[.ref l,.int 0 0]}).get? s.heap.objs.size
       = some {cls:=.type "set",dict:=none,data:=.set #[] 0 (.fresh 0 0 led)}:=Aa6 _ hS
     exact⟨_,#[],0,_,hget,(PyProof.Rows.setObjOf_fresh (knd:=intKind prog w) led).1,rfl,⟨rfl,rfl,.inl ⟨rfl,by decide⟩⟩,(λi j hj h=>absurd hj (by show ¬j<0;omega)),rfl,hled,(λe he=>by cases he),(λx hx=>by cases hx),List.Perm.refl _⟩
    case hR=>
     intro s' hm hS';obtain ⟨h',g',d',tk',os'⟩:=s';have eg:g'=s.gens:=hm.gens;have ed:d'=s.drawn:=hm.drawn;have eo:os'=s.os:=hm.os;subst eg;subst ed;subst eo;show wpAny _ _ _ _ _ _;refine wpAny_pure ?_;show wpAny _ _ (ret Value.none) _ _ _;rw[hsz]at hS';refine wpAny_pure ⟨rfl,h',tk',rfl,hS',λb o hb e=>?_⟩
     have hb1:b≠s.heap.objs.size:=Ab9 hb
     have hb2:b≠(s.heap.push {cls:=.type "set",dict:=none,data:=.set #[] 0 (.fresh 0 0 led)}).objs.size:=by
      rw[Heap.size_push];exact Ab9 (Nat.lt_succ_of_lt hb)
     exact hm.heap b o (by simp only[Aa1,Ad6,Ac2,or_false,not_or];exact⟨hb1,hb2⟩) (Aa6 _ (Aa6 _ e))
   ·cases r₂ with
    | error e=>exact hr₂
    | ok fl₂ =>
     cases fl₂ with
     | ret r=>
      obtain ⟨rfl,h',tk,rfl,hS',hk'⟩:=hr₂
      repeat (any_goals (first | assumption | wp_step))
      exact h _ _ hS' hk'
     | _=>exact hr₂.elim
  | _=>exact hr.elim
end
end L2
namespace LV
open PySem L2
end LV
namespace PySem
open PySem.Spec PyProof.Rows PySem.W
end PySem
namespace L2
open PySem PySem.Spec PyProof.Rows PySem.W
end L2
namespace PySem
open PySem.Spec PyProof.Rows
end PySem
namespace L2
open PySem PySem.Spec PyProof.Rows PySem.W
end L2
namespace LV
open PySem L2
end LV
namespace PySem
open PySem.Spec PyProof.Rows PySem.W
end PySem
namespace L2
open PySem PySem.Spec PyProof.Rows PySem.W
end L2
namespace LV
open PySem L2
end LV
namespace LV
open PySem PySem.Spec PySem.Calls PySem.W PyProof.Rows L2 Att
section
variable {prog:Program}{w:World}{A:Around}{E:Value->Shared->Prop}{s:Shared}
theorem bK5 {h₀:Heap}{L l:Addr}{m:Str->Option Value}{news:List (Addr×Obj)}{vs:List Value}{Q:Value->Shared->Prop}(hc:∀(Q':List Value->Shared->Prop) (E':Value->Shared->Prop),(∀h' tk,s.heap.objs.size<=h'.objs.size->(∀b o,s.heap.get? b=some o->h'.get? b=some o)->Q' vs {s with heap:=h',toks:=tk})->wpAny (model prog w) A.in1 (collect (.ref l)) Q' E' s)
  (F:Fr h₀ L s.heap m) (N:News h₀ L s.heap news) (h2:2<=vs.length) (h64:vs.length<64)
  (h:∀D e1 h' tk,Fr h₀ L h' m->News h₀ L h' ((D,seqObj "list" #[] e1)::news)->(∀q∈news,q.1<D) ->
   wpAny (model prog w) A.in1.in1 (keyKind' vs.toArray) (λκ s'=>(kas_sort vs.length).kasWp (kas_ask prog w A.in1.in1 κ vs) (λp s''=>KasFin h₀ L m D e1 (p.toList.map λi=>vs.getD i Value.none) (λs3=>Q (.ref D) s3) s'') s') (λ_ _=>False) {s with heap:=h',toks:=tk}) :
  wpAny (model prog w) A (call (.builtin "sorted") [.ref l]) Q E s:=by
 refine Calls.call_function_entry kind_sorted plain_sorted entry_sorted (args_sorted1 _) ?_;unfold Builtin.«sorted»;refine wpAny_bind (m:=checkCount "sorted" 1 1 _) (wpAny_pure ?_);refine wpAny_bind (hc _ _ λg tk hsz hk=>?_)
 refine wpAny_bind (wpAny_newList ?_ (by rw[sizeLine_eq];omega))
 have hoL:(g.push (seqObj "list" vs.toArray 0)).get? g.objs.size=some (seqObj "list" vs.toArray 0):=Ac3 _ rfl
 have keep:∀b o,s.heap.get? b=some o->(g.push (seqObj "list" vs.toArray 0)).get? b=some o:=λb o q=>Aa6 _ (hk b o q)
 have hL:L<s.heap.objs.size:=F.ns.lt
 have hL2:L<g.objs.size:=Ab8 hL hsz
 refine wpAny_bind (wpAny_holding (wpAny_call_entry slot_list_sort ⟨_,hoL,rfl⟩ entry_list_sort ?body (args_list_sort _)))
 case body=>
  refine kat_list_sort (s:={s with heap:=g.push (seqObj "list" vs.toArray 0),toks:=tk})
   (F.kept keep) (N.grown keep) hoL (Nat.ne_of_gt hL2) (Heap.get?_none_of_le (Nat.le_trans F.above (Nat.le_of_lt hL2)))
   (λp hp=>Ab9 (Ab8 (Ab3 (N p hp).1) hsz)) h2 h64 λe1 h' F' N'=>?_
  refine wpAny_mono (h _ e1 h' tk F' N' λq hq=>Ab8 (Ab3 (N q hq).1) hsz) (λκ s' hk=>?_) λ_ _ x=>x
  rw[kat_ask_eq rfl]at hk ⊢;exact kas_wp_mono hk λp s'' hk'=>hk'.mono λs3 hq=>⟨_,rfl,wpAny_pure ⟨_,rfl,hq⟩⟩
theorem bB4 {L l:Addr}{m:Str->Option Value}{vs:List Value}{ts:List (List Int)}{Q:Value->Shared->Prop}(hc:∀(Q':List Value->Shared->Prop) (E':Value->Shared->Prop),(∀h' tk,s.heap.objs.size<=h'.objs.size->(∀b o,s.heap.get? b=some o->h'.get? b=some o)->Q' vs {s with heap:=h',toks:=tk})->wpAny (model prog w) A.in1 (collect (.ref l)) Q' E' s)
  (hL:s.heap.Ns L m) (ht:TupsAt s.heap vs ts) (hneL:∀a,Value.ref a∈vs->a≠L) (h2:2<=vs.length) (h64:vs.length<64)
  (h:∀h' tk D (p:List Nat) c,h'.Ns L m->(∀b o,b≠L->s.heap.get? b=some o->h'.get? b=some o)->s.heap.get? D=none->h'.get? D=some {cls:=.type "list",data:=.seq (p.map λi=>vs.getD i .none).toArray c}->p.Perm (List.range vs.length)->(p.map λi=>ts.getD i []).Pairwise H9->Q (.ref D) {s with heap:=h',toks:=tk}) :
  wpAny (model prog w) A (call (.builtin "sorted") [.ref l]) Q E s:=by
 have hlen:=ht.length
 refine bK5 hc (cQ1 hL) bM9 h2 h64 λD e1 h' tk F' N' hD=>?_
 have kp:∀b o,b≠L->s.heap.get? b=some o->h'.get? b=some o:=λb o hb e=>(N' (b,o) (Ad3 _ (S7 hb (S1 _ _) e))).1
 have DL:D≠L:=(N' _ List.mem_cons_self).2.1
 have hDs:s.heap.get? D=none:=by
  cases e:s.heap.get? D with
  | none=>rfl
  | some o=>exact absurd (hD (D,o) (S7 DL (S1 _ _) e)) (Ad7 _)
 have ht':TupsAt h' vs ts:=ht.keep λa its ha ⟨o,e,r⟩=>⟨o,kp a o (hneL a ha) e,r⟩
 obtain ⟨fs,k1,k2,k3⟩:=ht'.kat;refine kat_kind (s:={s with heap:=h',toks:=tk}) k1 (by omega) (T:=.type "int") (λv hv=>?_) (by decide) ?_
 ·obtain ⟨i,t,rfl⟩:=k3 v hv;exact λA Q E s _ q=>wpAny_of_eq (show typeOf (Value.int i t)=pure (.type "int") from rfl) q
 have et:(Value.type "int" != Value.type "tuple")=true:=by decide
 rw[et];obtain ⟨p',e0,hp,hs,ha⟩:=LS.bX9 (bY6 λi=>ts.getD i []) (N:=vs.length) (by omega)
 refine LS.cS3 (P:=λi=>i<vs.length) (lt:=λi j=>HT.Y0 (ts.getD i []) (ts.getD j [])) (λi j C hi hj hC=>?_) _ ha ?_
 ·obtain ⟨a,its,e,⟨o,h1,c1,n1,d1⟩,r1⟩:=ht'.get (i:=i) (by omega)
  obtain ⟨a',its',e',⟨o',h1',c1',n1',d1'⟩,r1'⟩:=ht'.get (i:=j) (by omega)
  unfold kas_ask;rw[e,e'];refine kat_lt (s:={s with heap:=h',toks:=tk}) h1 d1 h1' d1' ?_
  have el:decide (its.size<its'.size)=decide ((ts.getD i []).length<(ts.getD j []).length):=by
   have a1:=r1.length;have a2:=r1'.length
   simp only[Array.length_toList]at a1 a2;rw[a1,a2]
  rw[el];exact aC4 0 r1 r1' hC
 ·rw[e0];refine KasFin.intro F' N' (.head λp hp z=>?_) λh'' c F'' N''=>?_
  ·have:=hD p hp
   rw[z]at this;exact absurd this (Ad7 _)
  ·have kp2:∀b o,b≠L->s.heap.get? b=some o->h''.get? b=some o:=λb o hb e=>(N'' (b,o) (Ad3 _ (S7 hb (S1 _ _) e))).1
   have hpl:p'.toList.Perm (List.range vs.length):=by simpa using(Array.perm_iff_toList_perm.mp hp)
   refine h h'' tk D p'.toList c F''.ns kp2 hDs (N'' _ List.mem_cons_self).1 hpl ?_;rw[Ad8,List.pairwise_iff_getElem];intro i j hi hj hij;have hz:p'.toList.length=vs.length:=by rw[hpl.length_eq];simp
   have:=hs i j (Nat.le_of_lt hij) (by omega)
   unfold LS.le at this;rw[LS.aN6,LS.aN6]at this;have hi':i<p'.size:=by simpa using hi
   have hj':j<p'.size:=by simpa using hj
   simp only[Array.getElem?_eq_getElem hi',Array.getElem?_eq_getElem hj',Option.getD_some]at this;unfold H9;simpa using this
end
end LV
namespace LV
open PySem L2 PyProof.Rows
end LV
namespace L2
open PySem PySem.Spec PySem.Calls PyProof.Rows
def cC4 (P:Program)(w:World)(ky:Addr->List Int)(a:Addr)(as:List Addr):HO:=.ext λh=>SetT P w ky h a as
def cZ1 (P:Program)(w:World)(K:PySem.W.Frag):List V->Hp->VK->Prop:=λxs H Q=>∃(p:Addr) (as:List Addr) (l L:List (List Int)),xs=[.ref p]/\SqL K H p (as.map V.ref)/\l.length=as.length/\(∀i,i<as.length->SqT K H (as.getD i 0) ((l.getD i []).map V.int))/\L.length<=16/\(∀x∈l,x∈L) /\
 ∀a ky,H a=none->(∀i,i<as.length->ky (as.getD i 0)=l.getD i [])->Q (.ref a) (upd H a (cC4 P w ky a (asN ky (λi=>as.getD i 0) as.length)))
def cN0 (P:Program)(w:World)(K:PySem.W.Frag):List V->Hp->VK->Prop:=λxs H Q=>∃(p:Addr) (ky:Addr->List Int) (as:List Addr),xs=[.ref p]/\H p=some (cC4 P w ky p as)/\(∀b∈as,SqT K H b ((ky b).map V.int)/\ky b≠[])/\2<=as.length/\as.length<64 /\
 ∀a (bs:List Addr),H a=none->bs.Perm as->(bs.map ky).Pairwise LV.H9->Q (.ref a) (upd H a (.lst (bs.map V.ref)))
theorem aP6:∀{u v:List Int},u.map V.int=v.map V.int->u=v
 | [],[],_=>rfl
 | [],_::_,h=>by simp at h
 | _::_,[],h=>by simp at h
 | a::u,b::v,h=>by
  simp only[Ac6,List.cons.injEq]at h;obtain ⟨h1,h2⟩:=h;cases h1;rw[aP6 h2]
theorem cF3 {ky:Addr->List Int}{as:List Addr}{l L:List (List Int)}(hl:l.length=as.length)(hk:∀i,i<as.length->ky (as.getD i 0)=l.getD i [])(hL:∀x∈l,x∈L):(asN ky (λi=>as.getD i 0) as.length).length<=L.length:=by
 have:=LH.nodup_le (aL2 (ky:=ky) (adr:=λi=>as.getD i 0) (i:=as.length)) (l':=L) λx hx=>by
  obtain ⟨b,hb,rfl⟩:=Aa8.mp hx;obtain ⟨j,hj,rfl⟩:=u9 hb;show ky (as.getD j 0)∈L;rw[hk j hj];refine hL _ ?_;rw[Ac0,Aa2 (by omega)]
  exact List.getElem_mem _
 rw[Aa3]at this;exact this
def cH7:Value->Addr
 | .ref a=>a
 | _=>0
section
variable {X:Cx}
theorem cC8 (K:PySem.W.Frag){k:Nat}(hr:Room k X.A)(hc:X.calm=true)(h:X.K=K:=by rfl):W4 X (.type "set") (cZ1 X.prog X.w K):=by
 subst h;intro pins s σ H xs us Q I r ⟨p,as,l,L,e,hq,hl,hk,h16,hL,q⟩;subst e;obtain ⟨u,rfl,rx⟩:=aB1 r;cases rx;obtain ⟨its,rv,pl,_⟩:=I.list hq;rw[bJ4 rv]at pl
 classical
 obtain ⟨ky,hky⟩:∃ky:Addr->List Int,∀i,i<as.length->ky (as.getD i 0)=l.getD i []:=by
  refine⟨λb=>if z:∃i,i<as.length/\as.getD i 0=b then l.getD (Classical.choose z) [] else [],λi hi=>?_⟩
  have z:∃j,j<as.length/\as.getD j 0=as.getD i 0:=⟨i,hi,rfl⟩
  show(if z:∃j,j<as.length/\as.getD j 0=as.getD i 0 then l.getD (Classical.choose z) [] else [])=_
  rw[dif_pos z];obtain ⟨h1,h2⟩:=Classical.choose_spec z;have h3:=hk _ h1;rw[h2]at h3;exact aP6 (I.tuple_inj h3 (hk i hi))
 refine aU1 (ky:=ky) hr.units (I.ok.hd hc) pl.isList (Nat.le_trans (cF3 hl hky hL) h16) (λi hi=>by rw[hky i hi];exact aO6 I (hk i hi)) λh' tk hs hk=>?_
 refine⟨.ref _,_,I.laid (λb o e=>hk b o (Ab3 e) e) (Aa7 _) (show ObjOk X.prog X.w _ h' _ (cC4 _ _ ky _ _) from ?_),rfl,q _ ky (I.hok.fresh (Aa7 _)) hky⟩
 refine⟨hs,?_,λh1 h2 x y=>x.at_ y⟩
 obtain ⟨o,es,ep,t,h1,_⟩:=hs;exact⟨o,h1⟩
theorem bO1 {K:PySem.W.Frag}{H:Hp}{ky:Addr->List Int}:∀{as:List Addr},(∀b∈as,SqT K H b ((ky b).map V.int)/\ky b≠[])->LV.TupsV K H (as.map V.ref) (as.map ky)
 | [],_=>trivial
 | a::as,h=>⟨⟨a,rfl,(h a (by simp)).1,(h a (by simp)).2⟩,bO1 λb hb=>h b (by simp[hb])⟩
theorem aK9:∀as:List Addr,Vals (as.map V.ref) (as.map Value.ref)
 | []=>.nil
 | a::as=>.cons rfl (aK9 as)
theorem bO7 (K:PySem.W.Frag)(hc:X.calm=true)(h:X.K=K:=by rfl):W4 X (.builtin "sorted") (cN0 X.prog X.w K):=by
 subst h;intro pins s σ H xs us Q I r ⟨p,ky,as,e,hq,hk,h2,h64,q⟩;subst e;obtain ⟨u,rfl,rx⟩:=aB1 r;cases rx;obtain ⟨o,es,ep,t,ho,hex,hd,T,hin,hpl,hld,hel,hfn,hp⟩:SetT X.prog X.w ky s.heap p as:=(show ObjOk X.prog X.w H s.heap p (cC4 X.prog X.w ky p as) from I.hok p _ hq).1
 have op:((aG3 X.w p ep es).toList.map (·.2)).Perm (as.map Value.ref):=((o8 X.w p ep es).map _).trans hp
 obtain ⟨vs,hvs⟩:∃vs,vs=(aG3 X.w p ep es).toList.map (·.2):=⟨_,rfl⟩;rw[<- hvs]at op;have hva:(vs.map cH7).map Value.ref=vs:=by
  rw[Ae0]
  conv=>rhs;rw[<- List.map_id vs]
  refine List.map_congr_left λv hv=>?_
  obtain ⟨b,_,rfl⟩:=Aa8.mp (op.mem_iff.mp hv);rfl
 have hpa:(vs.map cH7).Perm as:=by
  have:=op.map cH7
  rw[Ae0]at this;have e:as.map (cH7 ∘ Value.ref)=as:=by
   conv=>rhs;rw[<- List.map_id as]
   rfl
  rw[e]at this;exact this
 generalize vs.map cH7=bs at hva hpa;have hlen:bs.length=as.length:=hpa.length_eq;have hk':∀b∈bs,SqT X.K H b ((ky b).map V.int)/\ky b≠[]:=λb hb=>hk b (hpa.mem_iff.mp hb)
 obtain ⟨m,hm,_⟩:=I.loc;obtain ⟨ta,tl⟩:=LV.bB1 I (bO1 hk') (aK9 bs);have hc':∀(Q':List Value->Shared->Prop) (E':Value->Shared->Prop),(∀h' tk,s.heap.objs.size<=h'.objs.size->(∀b o,s.heap.get? b=some o->h'.get? b=some o)->Q' (bs.map Value.ref) {s with heap:=h',toks:=tk})->wpAny (model X.prog X.w) X.A.in1 (collect (.ref p)) Q' E' s:=λQ' E' hq'=>
  bN1 (by have:=I.ok.hd hc;simp[this]) ⟨o,ho,hex.1⟩ ho hd T hin hpl hld λh' tk a b=>by
   rw[<- hvs,<- hva];exact hq' h' tk a b
 refine LV.bB4 hc' hm ta tl (by rw[Aa3];omega) (by rw[Aa3];omega) λh' tk D pp c hL' kp hD el hp hs=>?_
 rw[Aa3]at hp;have hin:∀i∈pp,i<(bs.map V.ref).length:=λi hi=>by have:=Ab5.mp (hp.mem_iff.mp hi);rw[Aa3];omega
 have rv':=LV.aL6 (aK9 bs) hin
 obtain ⟨HD,I'⟩:=LV.aF2 I hm hL' kp hD el rv' (by rw[Aa3,hp.length_eq,List.length_range,sizeLine_eq];omega)
 have ge:∀{α:Type} (f:Addr->α) (z:α) (i:Nat),i∈pp->(bs.map f).getD i z=f (bs.getD i 0):=λf z i hi=>by
  have:=Ab5.mp (hp.mem_iff.mp hi)
  rw[Ac0,Ac0,Aa9,Aa2 this];rfl
 have e1:(pp.map λi=>(bs.map V.ref).getD i .non)=(pp.map λi=>bs.getD i 0).map V.ref:=by
  rw[Ae0];exact List.map_congr_left λi hi=>ge V.ref _ i hi
 have e2:(pp.map λi=>(bs.map ky).getD i [])=(pp.map λi=>bs.getD i 0).map ky:=by
  rw[Ae0];exact List.map_congr_left λi hi=>ge ky _ i hi
 rw[e2]at hs;have hpp:(pp.map λi=>bs.getD i 0).Perm bs:=by
  have h4:=hp.map λi=>bs.getD i 0
  have h5:(List.range bs.length).map (λi=>bs.getD i 0)=bs:=by
   refine List.ext_getElem? λj=>?_
   rw[Aa9];by_cases hj:j<bs.length
   ·rw[List.getElem?_range hj];simp[hj]
   ·rw[Ad4 (by simp;omega),Ad4 (by omega)];rfl
  rw[h5]at h4;exact h4
 refine⟨.ref D,_,I'.tok tk,rfl,?_⟩;rw[e1];exact q D _ HD (hpp.trans hpa) hs
end
end L2
namespace LV
open PySem L2 PyProof.Rows
section
variable {K:PySem.W.Frag}{ρ:List Sl}{P:Program}{w:World}
theorem bY2 {H:Hp}:∀{l:List (List Int)} {xs:List V},Reps K H xs (l.map tI)->∃as:List Addr,xs=as.map V.ref/\l.length=as.length/\∀i,i<as.length->SqT K H (as.getD i 0) ((l.getD i []).map V.int)
 | [],_,r=>by cases r;exact⟨[],rfl,rfl,λi hi=>absurd hi (by simp)⟩
 | t::l,_,r=>by
  cases r with
  | cons a b=>
   obtain ⟨as,rfl,h2,h3⟩:=bY2 b;cases a with
   | @tup p _ _ s r=>
    rw[r.ints]at s;refine⟨p::as,rfl,by simp[h2],λi hi=>?_⟩
    cases i with
    | zero=>exact s
    | succ i=>exact h3 i (by simpa using hi)
theorem aQ3 {H:Hp}{ky:Addr->List Int}:∀{as:List Addr},(∀b∈as,SqT K H b ((ky b).map V.int))->Reps K H (as.map V.ref) ((as.map ky).map tI)
 | [],_=>.nil
 | a::as,h=>.cons (.tup (h a (by simp)) (X2 _)) (aQ3 λb hb=>h b (by simp[hb]))
end
end LV
namespace L2
open PySem PySem.Spec PyProof.Rows
section
variable {prog:Program}{w:World}{A:Around}{E:Value->Shared->Prop}
theorem bT5 {a:Addr}{cs:List Value}{vs:List Bool}{tp:Addr}{tk:Tok}{s:Shared}{Q:Fin->Shared->Prop}(hs:s.TypeIs (.ref a) "list")(htp:IsTup s.heap tp cs.toArray)(ha:AnswersAll (λs=>s.TypeIs (.ref a) "list") (.ref a) cs vs)
  (hq:∀tk',Q (.done (.ret (.bool (vs.any id)))) {s with toks:=tk'}):wpAny (model prog w) A (Builtin.«isinstance.nested» ⟨[.ref a,.ref tp,.int 0 tk],[]⟩) Q E s:=by
 obtain ⟨o,hx,hc⟩:=hs;obtain ⟨h,g,d,t,os⟩:=s;obtain ⟨ot,ht,htc,n,htd⟩:=htp;have hT2:(⟨h,g,d,t,os⟩:Shared).TypeIs (.ref tp) "tuple" := ⟨_,ht,htc⟩;have f1:=F.isi_sub_tuple;have hneb:(Value.type "list" == Value.ref tp)=false:=by rfl
 repeat (any_goals (first | assumption | (with_reducible refine wpAny_loadPart_at hx ?_;rw[hc]) | wp_step))
 rw[htd];refine wpAny_pure ?_;refine wpAny_bind ?_;simp only[Option.getD_some];rw[<- Array.forIn_toList,List.toList_toArray];refine isinstance_items (dep:=0) (P:=λs=>s.TypeIs (.ref a) "list") (λs tk z=>z) cs vs _ _ ha ⟨o,hx,hc⟩ λtk'=>?_
 cases hv:vs.any id with
 | true=>
  simp only[if_true]
  repeat (any_goals (first | assumption | wp_step))
  exact hv▸hq tk'
 | false=>
  simp only[Bool.false_eq_true,if_false]
  repeat (any_goals (first | assumption | wp_step))
  exact hv▸hq tk'
end
section
variable {X:Cx}
def dA6 (K:PySem.W.Frag)(xs:List V)(H:Hp)(Q:VK):Prop:=∃a p ys,xs=[.ref a,.ref p]/\SqL K H a ys/\SqT K H p [.ty "list",.ty "tuple"]/\Q (.bl true) H
theorem cF4 (K:PySem.W.Frag)(hK:X.K=K:=by rfl):W4 X (.builtin "isinstance") (dA6 K):=by
 subst hK;intro pins s σ H xs us Q I r h;obtain ⟨a,p,ys,rfl,ha,hp,q⟩:=h;obtain ⟨its0,_,pl,_⟩:=I.list ha;obtain ⟨its,rv,tp,_⟩:=I.tuple hp;cases r with
 | cons r1 r2=>
  cases r2 with
  | cons r3 r4=>
   cases r4;cases r1;cases r3
   have hty:s.TypeIs (.ref a) "list" := by obtain ⟨o,e,c,_⟩:=pl.isList;exact⟨o,e,c⟩
   have hi:its=[.type "list",.type "tuple"]:=by
    cases rv with
    | cons h1 h2=>cases h2 with | cons h3 h4=>cases h4;cases h1;cases h3;rfl
   subst hi;have hall:AnswersAll (λs=>s.TypeIs (.ref a) "list") (.ref a) [.type "list",.type "tuple"] [true,false]:=
    ⟨Answers.of_true (by kernel_rfl) (by rw[isSubtype_type];kernel_rfl),Answers.of_false_list (by decide) (by kernel_rfl) (by rw[isSubtype_type];kernel_rfl),trivial⟩
   exact call_isinstance (S:=λ_ R s=>(s.TypeIs (.ref a) "list" /\ IsTup s.heap p [Value.type "list",Value.type "tuple"].toArray)/\∀tk',R (.ok (.ret (.bool true))) {s with toks:=tk'}) (λ_ _ _ _ _ hs=>isinstance_outer (bT5 hs.1.1 hs.1.2 hall λtk'=>hs.2 tk') (by intro q;cases q)) ⟨⟨hty,tp⟩,λtk'=>⟨.bl true,H,I.tok _,rfl,q⟩⟩
end
end L2
namespace LV
open PySem L2 PyProof.Rows
section
variable {K:PySem.W.Frag}{ρ:List Sl}{m:Bool}{ta:TE}{ds:List PyData}{P:Program}{w:World}
theorem dG3 (ha:E K false ta ρ (.list ds)):E K m (tCB (dA6 K) (E9 ta (E9 (bH7 (E9 (tC (.ty "list")) (E9 (tC (.ty "tuple")) W1))) W1))) ρ (.bool true):=E.bor (E.imm (m:=false) λS B σ H o I Q q=>ha S B σ H o I _ λv H1 s1 r=>by
 cases r with
 | @lst a xs _ sq rr=>
  have sq:SqL K H1 a xs:=sq
  refine⟨by show 2<=sizeLine;decide,λp hp=>?_⟩
  have g:=D3 (o:=.tup [.ty "list",.ty "tuple"]) hp
  exact⟨a,p,xs,rfl,R5 g sq,SqT.of B7,q _ _ (L2.Same.tr s1 g) (.bl _)⟩)
theorem cA1 {te:TE}{l ss:List (List Int)}(he:E K false te ρ (.list (l.map tI)))(hne:∀x∈l,x≠[])(h2:2<=ss.length)(h16:ss.length<=16)(hs:ss.Pairwise H9)(hnd:ss.Nodup)(hm:∀x,x∈ss↔x∈l) :
  EF K (tCB (cN0 P w K) (E9 (tCB (cZ1 P w K) (E9 te W1)) W1)) ρ (ss.map tI):=λS B σ H o I Q q=>
 he S B σ H o I _ λv H1 s1 rv=>by
  cases rv with
  | @lst p xs _ e r=>
  have e:SqL K H1 p xs:=e
  have r:Reps K H1 xs (l.map tI):=r
  obtain ⟨as,rfl,hl,hk⟩:=bY2 r;refine⟨p,as,l,ss,rfl,e,hl,hk,h16,λx hx=>(hm x).mpr hx,λa ky ha hky=>?_⟩
  have kyl:∀i,i<as.length->ky (as.getD i 0)∈l:=λi hi=>by
   rw[hky i hi,Ac0,Aa2 (by omega)]
   exact List.getElem_mem _
  have hperm:((asN ky (λi=>as.getD i 0) as.length).map ky).Perm ss:=by
   refine(List.perm_ext_iff_of_nodup aL2 hnd).mpr λx=>⟨λhx=>?_,λhx=>?_⟩
   ·obtain ⟨b,hb,rfl⟩:=Aa8.mp hx;obtain ⟨j,hj,rfl⟩:=u9 hb;exact(hm _).mpr (kyl j hj)
   ·obtain ⟨i,hi,rfl⟩:=List.getElem_of_mem ((hm x).mp hx)
    have:=bX1 (ky:=ky) (adr:=λi=>as.getD i 0) (i:=as.length) (j:=i) (by omega)
    rw[show ky (as.getD i 0)=l[i] by rw[hky i (by omega),Ac0,Aa2 hi];rfl]at this
    exact this
  have hlen:(asN ky (λi=>as.getD i 0) as.length).length=ss.length:=by rw[<- hperm.length_eq,Aa3]
  have g:=D3 (o:=cC4 P w ky a (asN ky (λi=>as.getD i 0) as.length)) ha
  have hsq:∀b∈asN ky (λi=>as.getD i 0) as.length,SqT K (upd H1 a (cC4 P w ky a (asN ky (λi=>as.getD i 0) as.length))) b ((ky b).map V.int)/\ky b≠[]:=λb hb=>by
   obtain ⟨j,hj,rfl⟩:=u9 hb;refine⟨?_,hne _ (kyl j hj)⟩;show SqT K _ (as.getD j 0) ((ky (as.getD j 0)).map V.int);rw[hky j hj];exact C4 g (hk j hj)
  refine⟨a,ky,_,rfl,B7,hsq,by omega,by omega,λD bs hD hp1 hs1=>?_⟩
  have e1:bs.map ky=ss:=List.Perm.eq_of_pairwise (le:=H9) (λa b _ _ h1 h2=>aR9 a b h1 h2) hs1 hs ((hp1.map _).trans hperm)
  have s3:=D3 (o:=.lst (bs.map V.ref)) hD
  have ss':=L2.Same.tr s1 (L2.Same.tr g s3)
  refine q D _ _ ss' (Q7 s1 (Q7 g hD)) B7 ?_;rw[<- e1];refine j4 (λa xs' q'=>S5 (λb z=>?_) q') _ (aC0 bQ7 _) (aQ3 λb hb=>C4 s3 (hsq b (hp1.mem_iff.mp hb)).1)
  rcases z with z | z
  ·exact(I.grow ss').lists b z
  ·exact⟨.l _,by rw[z];exact B7⟩
end
end LV
namespace L2
open PySem PySem.Spec PyProof.Rows
end L2
namespace LV
open PySem L2
def adD (a:Addr):PyData:=.dict [(.int (a:Nat),.none),(.none,.none)]
section
variable {K:PySem.W.Frag}{ρ:List Sl}{ds:List PyData}{S:Addr->Prop}{B H:Hp}{σ:St}{o:Nat->List Addr}{i:Nat}
theorem Env.unlock {B':Hp}{p:Addr}{xs:List V}(I:Env K (λb=>S b\/b=p) B' H σ ρ o)(hi:ρ[i]? = some (.val (adD p)))(hs:∀b,S b->∃u:HM,B b=some u.ho)(sb:Same B B')(bn:B p=none)(hp:B' p=some (.lst xs))(r:Reps K H xs ds)(im:M1 ds=true):Env K S B H σ (ρ.set i (.own ds)) (d6 o i [p]):=by
 have hl:i<ρ.length:=(Ab0.mp hi).1
 have at_:∀{j:Nat} {y:Sl},i≠j->(ρ.set i (.own ds))[j]? = some y->ρ[j]? = some y:=λ{j y} e h=>by rw[Ac9 e]at h;exact h
 have self:∀{y:Sl},(ρ.set i (.own ds))[i]? = some y->y=.own ds:=λ{y} h=>by rw[List.getElem?_set_self hl]at h;exact(Ab4 h).symm
 have eo:C3 (ρ.set i (.own ds)) (d6 o i [p]) S=C3 ρ o (λb=>S b\/b=p):=by
  funext b
  refine propext ⟨?_,?_⟩
  ·rintro (z | ⟨j,x,hx,ho,hb⟩)
   ·exact .inl (.inl z)
   ·by_cases e:i=j
    ·subst e;rw[K1]at hb;exact .inl (.inr (Ad6.mp hb))
    ·rw[D7 e]at hb;exact .inr ⟨j,x,at_ e hx,ho,hb⟩
  ·rintro ((z | rfl) | ⟨j,x,hx,ho,hb⟩)
   ·exact .inl z
   ·exact .inr ⟨i,_,List.getElem?_set_self hl,rfl,by rw[K1];simp⟩
   ·by_cases e:i=j
    ·subst e;rw[hi]at hx;cases hx;cases ho
    ·exact .inr ⟨j,x,by rw[Ac9 e];exact hx,ho,by rw[D7 e];exact hb⟩
 obtain ⟨v,a,rv⟩:=I.val i _ hi;have ev:v=.ref p:=by
  unfold adD at rv;generalize hd:(PyData.dict [(PyData.int (p:Nat),PyData.none),(.none,.none)])=d at rv;cases rv with
  | @adr a=>injection hd with h;simp at h;exact congrArg V.ref (Int.ofNat_inj.mp h).symm
  | @dic _ _ kvs _ _ _ z=>injection hd with h;rw[z]at h;cases kvs <;> simp[cH5]at h
  | _=>cases hd
 rw[ev]at a;refine⟨by rw[List.length_set];exact I.len,L2.Same.tr sb I.base,hs,λj y hy ho x hx=>?_,λj k y z hy hz oy oz x hx hx'=>?_,λj es h=>?_,λj d h=>?_,λj d h=>?_,λj t h=>?_⟩
 ·by_cases e:i=j
  ·subst e;rw[K1]at hx;rw[Ad6.mp hx];exact bn
  ·rw[D7 e]at hx;exact Q7 sb (I.new j y (at_ e hy) ho x hx)
 ·by_cases e:i=j
  ·by_cases e':i=k
   ·exact e.symm.trans e'
   ·subst e;rw[K1]at hx;rw[D7 e']at hx';rw[Ad6.mp hx]at hx'
    have:=I.new k z (at_ e' hz) oz p hx'
    rw[hp]at this;cases this
  ·by_cases e':i=k
   ·subst e';rw[K1]at hx';rw[D7 e]at hx;rw[Ad6.mp hx']at hx
    have:=I.new j y (at_ e hy) oy p hx
    rw[hp]at this;cases this
   ·rw[D7 e]at hx;rw[D7 e']at hx';exact I.inj j k y z (at_ e hy) (at_ e' hz) oy oz x hx hx'
 ·by_cases e:i=j
  ·subst e;cases self h;exact⟨p,K1,a,xs,I.base _ _ hp,by rw[eo];exact j4 (λ_ _ q=>S5 I.lists q) _ im r⟩
  ·rw[D7 e,eo];exact I.own j es (at_ e h)
 ·by_cases e:i=j
  ·subst e;cases self h
  ·rw[eo];exact I.val j d (at_ e h)
 ·by_cases e:i=j
  ·subst e;cases self h
  ·exact I.bor j d (at_ e h)
 ·by_cases e:i=j
  ·subst e;cases self h
  ·rw[D7 e,eo];exact I.tr j t (at_ e h)
end
end LV
namespace L2
open PySem PySem.Spec PyProof.Rows
end L2
namespace LV
open PySem L2
end LV
namespace L2
open PySem PySem.Spec PyProof.Rows
abbrev TF:=St->Hp->(Hp->Prop)->Prop
structure PF (X:Cx)(n:Nat)(parts:List Expr)(t:TF):Prop where
 mk ::
 run:∀(pins:List (Addr×Obj)) (s:Shared) (σ:St) (H:Hp) (acc:Str) (Q:VK),Inv X pins σ H s->acc.length<=n->(t σ H λH'=>∀out,Q (.str out) H')->wpAny (model X.prog X.w) X.A (joinParts acc (evalEach parts X.env)) (EP X pins σ Q) X.xe s
section
variable {X:Cx}{n:Nat}
def dI7:TF:=λ_ H k=>k H
def dE6 (te:TE)(t:TF):TF:=λσ H k=>te σ H λv H1=>∃i:Int,v=.int i/\(-1000000<i/\i<1000000)/\t σ H1 k
theorem cO6 (hn:n<=sizeLine:=by decide):PF X n [] dI7:=⟨λpins s σ H acc Q I ha h=>joinParts_nil ⟨.str acc,H,I.tok _,⟨_,rfl⟩,h acc⟩ (Nat.le_trans ha hn)⟩
theorem bF7 {x:Str}{j pos}{rest:List Expr}{t:TF}(h:PF X (n+x.length) rest t)(hn:n+x.length<=sizeLine:=by decide):PF X n (.Constant (.str x) j pos::rest) t:=by
 refine⟨λpins s σ H acc Q I ha k=>?_⟩
 show wpAny _ _ (joinParts acc (eval (.Constant (.str x) j pos) X.env::evalEach rest X.env)) _ _ s
 refine joinParts_cons (Calls.Constant_str ?_);have e:(acc++x).length<=n+x.length:=by rw[strLen_append];omega
 exact⟨Nat.le_trans e hn,h.run pins _ σ H (acc++x) Q (I.tok _) e k⟩
theorem bD8 {e:Expr}{pos}{rest:List Expr}{te:TE}{t:TF}(he:PE X e te)(h:PF X (n+8) rest t)(hn:n+8<=sizeLine:=by decide):PF X n (.FormattedValue e (-1) none pos::rest) (dE6 te t):=by
 refine⟨λpins s σ H acc Q I ha k=>?_⟩
 show wpAny _ _ (joinParts acc (eval (.FormattedValue e (-1) none pos) X.env::evalEach rest X.env)) _ _ s
 refine joinParts_cons (FormattedValue_plain (thn (he pins s σ H _ I k) λv s1 ⟨x,H1,I1,r1,i,e1,hb,k1⟩=>?_))
 subst e1;obtain ⟨u,rfl⟩:=r1;have hs:i.natAbs<10^6:=by omega
 have hd:i.natAbs.log2<1920:=by
  rcases Nat.eq_zero_or_pos i.natAbs with z | z
  ·rw[z];decide
  ·refine(Nat.log2_lt (by omega)).mpr (Ab8 (show i.natAbs<2^20 by omega) (Nat.pow_le_pow_right (by decide) (by decide)))
 refine formatField_int_small hd ?_;have hl:(Str.ofString (toString i)).length<=8:=by rw[PySem.ofString_length];have:=int_text_length_le10 (a:=i) (k:=6) (by decide) hs;omega
 have e2:(acc++Str.ofString (toString i)).length<=n+8:=by rw[strLen_append];omega
 exact⟨Nat.le_trans e2 hn,h.run pins _ σ H1 _ Q (I1.tok _) e2 k1⟩
def tFs (t:TF):TE:=λσ H Q=>t σ H λH'=>∀out,Q (.str out) H'
theorem bW4 {v1 v2:Expr}{rest:List Expr}{pos}{t:TF}(h:PF X 0 (v1::v2::rest) t):PE X (.JoinedStr (v1::v2::rest) pos) (tFs t):=by
 refine⟨?_⟩;intro pins s σ H Q I k;exact JoinedStr_many (h.run pins s σ H Str.empty Q I (by decide) k)
end
def N3 (h:Heap)(T:Addr)(a b c:Value):Prop:=h.get? T=some {cls:=.type "tuple",data:=.seq #[a,b,c]}
section
variable {prog:Program}{w:World}{A:Around}{E:Value->Shared->Prop}{s:Shared}
theorem d8 {T:Addr}{a b c x:Value}{k:Nat}{Q:Unit->Shared->Prop}(hT:N3 s.heap T a b c)
  (h:∀h',h'.get? T=some {cls:=.type "tuple",data:=.seq ((#[a,b,c]:Array Value).setIfInBounds k x)}->Heap.SameBut T s.heap h'->Q () {s with heap:=h'}) :
  wpAny (model prog w) A (updateSeq T (·.setIfInBounds k x)) Q E s:=by
 have hT:s.heap.get? T=some {cls:=.type "tuple",data:=.seq #[a,b,c]}:=hT
 refine wpAny_updateSeq hT rfl (h _ ?_ (Heap.SameBut.update ..));rw[Heap.get?_update_self _ hT rfl]
 simp[Obj.mapSeq]
theorem aT9 (a b c:Value):checkTypeCall "zip" ⟨[a,b,c],[]⟩=pure ():=by kernel_rfl
theorem aU3 (a b c:Value):checkBuiltinCall "zip.__new__" ⟨[.type "zip",a,b,c],[]⟩=pure ():=by kernel_rfl
theorem aE7 (a b c d:Value):argsOk "object.__init__" ⟨[a,b,c,d],[]⟩:=by
 unfold argsOk;rw[signature?_of (id := "object.__init__") (n:=['_','_','t','i','n','i','_','_']) (o:=['t','c','e','j','b','o']) (by kernel_rfl) F.owner_object];kernel_rfl
structure cD4 (z TI TO i1 i2 i3 l1 l2 l3:Addr):Prop where
 nd:[z,TI,TO,i1,i2,i3].Nodup
 m1:l1∉[z,TO,i1,i2,i3]
 m2:l2∉[z,TO,i1,i2,i3]
 m3:l3∉[z,TO,i1,i2,i3]
theorem cA3 {z TI TO i1 i2 i3 l1 l2 l3:Addr}{k:Nat}{xs ys zs:Array Value}{x y u a b c:Value}{Q:Value->Shared->Prop}(D:cD4 z TI TO i1 i2 i3 l1 l2 l3)(hz:IsZip s.heap z TI TO .none)(hTI:N3 s.heap TI (.ref i1) (.ref i2) (.ref i3))(hTO:N3 s.heap TO a b c)
  (h1:s.heap.IsTupleIter i1 l1 k) (h2:s.heap.IsTupleIter i2 l2 k) (h3:s.heap.IsTupleIter i3 l3 k) (t1:s.heap.IsTuple l1 xs) (t2:s.heap.IsTuple l2 ys) (t3:s.heap.IsTuple l3 zs) (hx:xs[k]? = some x) (hy:ys[k]? = some y) (hu:zs[k]? = some u)
  (hQ:∀h',IsZip h' z TI TO (rawInt s.heap.objs.size)->N3 h' TO x y u->h'.IsTupleIter i1 l1 (k+1)->h'.IsTupleIter i2 l2 (k+1)->h'.IsTupleIter i3 l3 (k+1)->N3 h' s.heap.objs.size x y u->(∀c o,c∉[z,TO,i1,i2,i3]->s.heap.get? c=some o->h'.get? c=some o)->Q (.ref s.heap.objs.size) {s with heap:=h'}) :
  wpAny (model prog w) A (Builtin.«zip.__next__» ⟨[.ref z],[]⟩) (λfin s'=>∃v,fin=.done (.ret v)/\Q v s') E s:=by
 obtain ⟨nd,m1,m2,m3⟩:=D;simp only[Aa5,Aa1,Ac2,or_false,not_or,not_false_eq_true,List.nodup_nil,and_true]at nd m1 m2 m3;obtain ⟨⟨n1,n2,n3,n4,n4'⟩,⟨n5,n6,n7,n7'⟩,⟨n8,n9,n9'⟩,⟨n10,n11⟩,n12⟩:=nd;obtain ⟨p1,p2,p3,p4,p5⟩:=m1;obtain ⟨q1,q2,q3,q4,q5⟩:=m2;obtain ⟨r1,r2,r3,r4,r5⟩:=m3;show wpAny _ _ (field (.ref z) 2 >>= _) _ _ _;refine wpAny_bind (wpAny_field hz rfl (x:=.bool false) rfl ?_);show wpAny _ _ (field (.ref z) 3 >>= _) _ _ _;refine wpAny_bind (wpAny_field hz rfl (x:=.ref TI) rfl (wpAny_bind (wpAny_seqItems hTI rfl ?_)));show wpAny _ _ (Builtin.SmallTypes.ownedTupleIsFree (.ref z) >>= _) _ _ _;refine wpAny_bind ?_;unfold Builtin.SmallTypes.ownedTupleIsFree;refine wpAny_bind (wpAny_field hz rfl (x:=.none) rfl (wpAny_pure ?_));simp only[if_true];refine wpAny_bind (wpAny_rule (wpAny_bind (wpAny_field hz rfl (x:=.ref TO) rfl (wpAny_bind (wpAny_setField_rec hz (by simp) λg1 z1 s1=>wpAny_bind ?_)))))
 replace z1:IsZip g1 z TI TO .ellipsis:=z1;simp only[List.zipIdx_cons,List.zipIdx_nil,List.forIn_cons,List.forIn_nil]
 refine wpAny_bind (wpAny_bind (wpAny_onRaise ?_));show wpAny _ _ (Builtin.SmallTypes.nextOf (.ref i1) >>= _) _ _ _;have k1:=λc (hc:c≠z) o (e:s.heap.get? c=some o)=>s1.extBut _ _ hc e
 refine wpAny_bind (O4 (h1.at (k1 i1 (Ne.symm n3))) (m9 (b:=z) t1 (k1 l1 p1)) hx λg2 i1₂ s2=>wpAny_pure ?_)
 have o2:N3 g2 TO a b c:=s2.extBut _ _ n8 (k1 TO (Ne.symm n2) _ hTO)
 refine wpAny_bind (wpAny_seqItems o2 rfl (wpAny_bind (d8 o2 λg3 o3 s3=>wpAny_bind (wpAny_letGo (wpAny_pure ?_)))));replace o3:N3 g3 TO x b c:=o3
 refine wpAny_bind (wpAny_bind (wpAny_onRaise ?_));show wpAny _ _ (Builtin.SmallTypes.nextOf (.ref i2) >>= _) _ _ _;have k3:=λc (hc:c≠z) (hc2:c≠i1) (hc3:c≠TO) o (e:s.heap.get? c=some o)=>s3.extBut _ _ hc3 (s2.extBut _ _ hc2 (k1 c hc o e))
 refine wpAny_bind (O4 (h2.at (k3 i2 (Ne.symm n4) (Ne.symm n10) (Ne.symm n9))) (m9 (b:=z) t2 (k3 l2 q1 q3 q2)) hy λg4 i2₄ s4=>wpAny_pure ?_)
 have o4:N3 g4 TO x b c:=s4.extBut _ _ n9 o3
 refine wpAny_bind (wpAny_seqItems o4 rfl (wpAny_bind (d8 o4 λg5 o5 s5=>wpAny_bind (wpAny_letGo (wpAny_pure ?_)))));replace o5:N3 g5 TO x y c:=o5
 refine wpAny_bind (wpAny_bind (wpAny_onRaise ?_));show wpAny _ _ (Builtin.SmallTypes.nextOf (.ref i3) >>= _) _ _ _;have k5:=λc (hc:c≠z) (hc2:c≠i1) (hc3:c≠TO) (hc4:c≠i2) o (e:s.heap.get? c=some o)=>s5.extBut _ _ hc3 (s4.extBut _ _ hc4 (k3 c hc hc2 hc3 o e))
 refine wpAny_bind (O4 (h3.at (k5 i3 (Ne.symm n4') (Ne.symm n11) (Ne.symm n9') (Ne.symm n12))) (m9 (b:=z) t3 (k5 l3 r1 r3 r2 r4)) hu λg6 i3₆ s6=>wpAny_pure ?_)
 have o6:N3 g6 TO x y c:=s6.extBut _ _ n9' o5
 refine wpAny_bind (wpAny_seqItems o6 rfl (wpAny_bind (d8 o6 λg7 o7 s7=>wpAny_bind (wpAny_letGo (wpAny_pure (wpAny_pure ?_))))));replace o7:N3 g7 TO x y u:=o7
 refine wpAny_bind (wpAny_seqItems o7 rfl (wpAny_bind (wpAny_newTuple ?_)));have sz:g7.objs.size=s.heap.objs.size:=by rw[s7.1,s6.1,s5.1,s4.1,s3.1,s2.1,s1.1]
 have k7:=λc (hc:c≠z) (hc2:c≠i1) (hc3:c≠TO) (hc4:c≠i2) (hc5:c≠i3) o (e:s.heap.get? c=some o)=>s7.extBut _ _ hc3 (s6.extBut _ _ hc5 (k5 c hc hc2 hc3 hc4 o e))
 have z7:IsZip g7 z TI TO .ellipsis:=s7.extBut _ _ n2 (s6.extBut _ _ n4' (s5.extBut _ _ n2 (s4.extBut _ _ n4 (s3.extBut _ _ n2 (s2.extBut _ _ n3 z1)))))
 have i1₇:g7.IsTupleIter i1 l1 (k+1):=i1₂.at λo e=>s7.extBut _ _ (Ne.symm n8) (s6.extBut _ _ n11 (s5.extBut _ _ (Ne.symm n8) (s4.extBut _ _ n10 (s3.extBut _ _ (Ne.symm n8) e))))
 have i2₇:g7.IsTupleIter i2 l2 (k+1):=i2₄.at λo e=>s7.extBut _ _ (Ne.symm n9) (s6.extBut _ _ n12 (s5.extBut _ _ (Ne.symm n9) e))
 have i3₇:g7.IsTupleIter i3 l3 (k+1):=i3₆.at λo e=>s7.extBut _ _ (Ne.symm n9') e
 show wpAny _ _ (Builtin.SmallTypes.ownedTupleHandOut (.ref z) (.ref g7.objs.size) >>= _) _ _ _
 refine wpAny_bind ?_;unfold Builtin.SmallTypes.ownedTupleHandOut;have z8:IsZip (g7.push {cls:=.type "tuple",data:=.seq #[x,y,u]}) z TI TO .ellipsis:=Aa6 _ z7;refine wpAny_bind (wpAny_setField_rec z8 (by simp) λg9 z9 s9=>?_);replace z9:IsZip g9 z TI TO (rawInt g7.objs.size):=z9
 refine wpAny_setField_rec z9 (by simp) λg10 z10 s10=>?_;replace z10:IsZip g10 z TI TO (rawInt g7.objs.size):=z10
 have up:∀c o,c≠z->(g7.push {cls:=.type "tuple",data:=.seq #[x,y,u]}).get? c=some o->g10.get? c=some o:=λc o c1 e=>s10.extBut _ _ c1 (s9.extBut _ _ c1 e)
 have up':∀c o,c≠z->g7.get? c=some o->g10.get? c=some o:=λc o c1 e=>up c o c1 (Aa6 _ e)
 have T8:N3 g10 g7.objs.size x y u:=up _ _ (Nat.ne_of_gt (Ab3 z7)) (Ac3 _ rfl)
 rw[sz]at z10 T8;refine wpAny_pure ⟨_,rfl,?_⟩;show Q (.ref g7.objs.size) _;rw[sz];refine hQ g10 z10 (up' _ _ (Ne.symm n2) o7) (i1₇.at λo e=>up' _ o (Ne.symm n3) e) (i2₇.at λo e=>up' _ o (Ne.symm n4) e) (i3₇.at λo e=>up' _ o (Ne.symm n4') e) T8 λc o hc e=>?_
 simp only[Aa1,Ac2,or_false,not_or]at hc;exact up' c o hc.1 (k7 c hc.1 hc.2.2.1 hc.2.1 hc.2.2.2.1 hc.2.2.2.2 o e)
theorem cO2 {z TI TO i1 i2 i3 l1 l2 l3:Addr}{k:Nat}{xs:Array Value}{a b c:Value}{Q:PySem.Fin->Shared->Prop}(hh:A.handled=none)(D:cD4 z TI TO i1 i2 i3 l1 l2 l3)(hz:IsZip s.heap z TI TO .none)(hTI:N3 s.heap TI (.ref i1) (.ref i2) (.ref i3))(hTO:N3 s.heap TO a b c)
  (h1:s.heap.IsTupleIter i1 l1 k) (t1:s.heap.IsTuple l1 xs) (hx:xs[k]? = none)
  (hE:∀h' e,(∀c o,c∉[z,TO,i1,i2,i3]->s.heap.get? c=some o->h'.get? c=some o)->(∃o,h'.get? e=some o/\o.cls=.type "StopIteration")->E (.ref e) {s with heap:=h'}) :
  wpAny (model prog w) A (Builtin.«zip.__next__» ⟨[.ref z],[]⟩) Q E s:=by
 obtain ⟨nd,m1,m2,m3⟩:=D;simp only[Aa5,Aa1,Ac2,or_false,not_or,not_false_eq_true,List.nodup_nil,and_true]at nd m1 m2;obtain ⟨⟨n1,n2,n3,n4,n4'⟩,⟨n5,n6,n7,n7'⟩,⟨n8,n9,n9'⟩,⟨n10,n11⟩,n12⟩:=nd;obtain ⟨p1,p2,p3,p4,p5⟩:=m1;show wpAny _ _ (field (.ref z) 2 >>= _) _ _ _;refine wpAny_bind (wpAny_field hz rfl (x:=.bool false) rfl ?_);show wpAny _ _ (field (.ref z) 3 >>= _) _ _ _;refine wpAny_bind (wpAny_field hz rfl (x:=.ref TI) rfl (wpAny_bind (wpAny_seqItems hTI rfl ?_)));show wpAny _ _ (Builtin.SmallTypes.ownedTupleIsFree (.ref z) >>= _) _ _ _;refine wpAny_bind ?_;unfold Builtin.SmallTypes.ownedTupleIsFree;refine wpAny_bind (wpAny_field hz rfl (x:=.none) rfl (wpAny_pure ?_));simp only[if_true];refine wpAny_bind (wpAny_rule (wpAny_bind (wpAny_field hz rfl (x:=.ref TO) rfl (wpAny_bind (wpAny_setField_rec hz (by simp) λg1 z1 s1=>wpAny_bind ?_)))))
 replace z1:IsZip g1 z TI TO .ellipsis:=z1;simp only[List.zipIdx_cons,List.zipIdx_nil,List.forIn_cons,List.forIn_nil]
 refine wpAny_bind (wpAny_bind (wpAny_onRaise ?_));show wpAny _ _ (Builtin.SmallTypes.nextOf (.ref i1) >>= _) _ _ _;have k1:=λc (hc:c≠z) o (e:s.heap.get? c=some o)=>s1.extBut _ _ hc e
 refine wpAny_bind (V4 hh (h1.at (k1 i1 (Ne.symm n3))) (m9 (b:=z) t1 (k1 l1 p1)) hx λg2 e s2 he=>?_)
 obtain ⟨oe,hoe,hce⟩:=he;have z2:IsZip g2 z TI TO .ellipsis:=s2 _ _ n3 z1;have ez:e≠z:=λx=>by subst x;rw[z2]at hoe;cases hoe;simp at hce
 refine wpAny_setField_rec z2 (by simp) λg3 _ s3=>hE g3 e (λc o hc x=>?_) ⟨oe,s3.extBut _ _ ez hoe,hce⟩
 simp only[Aa1,Ac2,or_false,not_or]at hc;exact s3.extBut _ _ hc.1 (s2 _ _ hc.2.2.1 (k1 c hc.1 o x))
theorem bO3 {z TI TO i1 i2 i3 l1 l2 l3:Addr}{k:Nat}{xs ys zs:Array Value}{x y u a b c:Value}{Q:Option Value->Shared->Prop}(D:cD4 z TI TO i1 i2 i3 l1 l2 l3)(hz:IsZip s.heap z TI TO .none)(hTI:N3 s.heap TI (.ref i1) (.ref i2) (.ref i3))(hTO:N3 s.heap TO a b c)
  (h1:s.heap.IsTupleIter i1 l1 k) (h2:s.heap.IsTupleIter i2 l2 k) (h3:s.heap.IsTupleIter i3 l3 k) (t1:s.heap.IsTuple l1 xs) (t2:s.heap.IsTuple l2 ys) (t3:s.heap.IsTuple l3 zs) (hx:xs[k]? = some x) (hy:ys[k]? = some y) (hu:zs[k]? = some u)
  (hQ:∀h',IsZip h' z TI TO (rawInt s.heap.objs.size)->N3 h' TO x y u->h'.IsTupleIter i1 l1 (k+1)->h'.IsTupleIter i2 l2 (k+1)->h'.IsTupleIter i3 l3 (k+1)->N3 h' s.heap.objs.size x y u->(∀c o,c∉[z,TO,i1,i2,i3]->s.heap.get? c=some o->h'.get? c=some o)->Q (some (.ref s.heap.objs.size)) {s with heap:=h'}) :
  wpAny (model prog w) A (pyNext (.ref z)) Q E s:=by
 have hT:s.TypeIs (.ref z) "zip" := ⟨_,hz,rfl⟩
 unfold pyNext;exact wpAny_bind (wpAny_attempt (wpAny_callSpecial?_slot (name:=Str.ofString "__next__") hT F.slot_zip_next (wpAny_call_entry F.slot_zip_next hT F.entry_zip_next (cA3 D hz hTI hTO h1 h2 h3 t1 t2 t3 hx hy hu λh' a1 a2 a3 a4 a5 a6 a7=>wpAny_pure (hQ h' a1 a2 a3 a4 a5 a6 a7)) (F.args_zip_next_1 _))))
theorem bP6 {z TI TO i1 i2 i3 l1 l2 l3:Addr}{k:Nat}{xs:Array Value}{a b c:Value}{Q:Option Value->Shared->Prop}(hh:A.handled=none)(D:cD4 z TI TO i1 i2 i3 l1 l2 l3)(hz:IsZip s.heap z TI TO .none)(hTI:N3 s.heap TI (.ref i1) (.ref i2) (.ref i3))(hTO:N3 s.heap TO a b c)
  (h1:s.heap.IsTupleIter i1 l1 k) (t1:s.heap.IsTuple l1 xs) (hx:xs[k]? = none) (hQ:∀h',(∀c o,c∉[z,TO,i1,i2,i3]->s.heap.get? c=some o->h'.get? c=some o)->Q none {s with heap:=h'}):wpAny (model prog w) A (pyNext (.ref z)) Q E s:=by
 have hT:s.TypeIs (.ref z) "zip" := ⟨_,hz,rfl⟩
 unfold pyNext;refine wpAny_bind (wpAny_attempt (wpAny_callSpecial?_slot (name:=Str.ofString "__next__") hT F.slot_zip_next (wpAny_call_entry F.slot_zip_next hT F.entry_zip_next (cO2 hh D hz hTI hTO h1 t1 hx λh' e hk he=>?_) (F.args_zip_next_1 _))))
 obtain ⟨o,ho,hc⟩:=he;exact wpAny_bind (wpAny_isInstance (T := "StopIteration") (b:=true) ⟨o,ho,hc⟩ isSubtype_stop (wpAny_pure (hQ _ hk)))
abbrev zU1 (h:Heap)(l1:Addr):Heap:=h.push {cls:=.type "tuple_iterator",data:=.fields #[.ref l1,.int 0 0]}
abbrev zU2 (h:Heap)(l1 l2:Addr):Heap:=(zU1 h l1).push {cls:=.type "tuple_iterator",data:=.fields #[.ref l2,.int 0 0]}
abbrev zU3 (h:Heap)(l1 l2 l3:Addr):Heap:=(zU2 h l1 l2).push {cls:=.type "tuple_iterator",data:=.fields #[.ref l3,.int 0 0]}
abbrev zU4 (h:Heap)(l1 l2 l3:Addr):Heap:=(zU3 h l1 l2 l3).push {cls:=.type "tuple",data:=.seq #[.ref h.objs.size,.ref (zU1 h l1).objs.size,.ref (zU2 h l1 l2).objs.size]}
abbrev zU5 (h:Heap)(l1 l2 l3:Addr):Heap:=(zU4 h l1 l2 l3).push {cls:=.type "tuple",data:=.seq #[.none,.none,.none]}
abbrev zU6 (h:Heap)(l1 l2 l3:Addr):Heap:=(zU5 h l1 l2 l3).push {cls:=.type "zip",data:=.fields #[.none,.bool false,.bool false,.ref (zU3 h l1 l2 l3).objs.size,.ref (zU4 h l1 l2 l3).objs.size]}
set_option maxHeartbeats 4000000 in
theorem bR9 (l1 l2 l3:Addr)(xs ys zs:Array Value):Meets (Builtin.«zip.__new__» ⟨[.type "zip",.ref l1,.ref l2,.ref l3],[]⟩) (λ_ R s=>s.heap.IsTuple l1 xs/\s.heap.IsTuple l2 ys/\s.heap.IsTuple l3 zs/\R (.ok (.ret (.ref (zU5 s.heap l1 l2 l3).objs.size))) {s with heap:=zU6 s.heap l1 l2 l3}):=
 .of_wp λprog w A R s h=>by
  obtain ⟨hp,g,d,tk,os⟩:=s;obtain ⟨hl1,hl2,hl3,h⟩:=h;have hsub:=sub_zip;have hL1:Heap.IsTuple (Shared.heap ⟨hp,g,d,tk,os⟩) l1 xs:=hl1;have hL2:Heap.IsTuple (Shared.heap ⟨hp.push {cls:=.type "tuple_iterator",data:=.fields #[.ref l1,.int 0 0]},g,d,tk,os⟩) l2 ys:=m9 (b:=l2) hl2 λo e=>Aa6 _ e
  have hL3:Heap.IsTuple (Shared.heap ⟨(hp.push {cls:=.type "tuple_iterator",data:=.fields #[.ref l1,.int 0 0]}).push {cls:=.type "tuple_iterator",data:=.fields #[.ref l2,.int 0 0]},g,d,tk,os⟩) l3 zs:=m9 (b:=l3) hl3 λo e=>Aa6 _ (Aa6 _ e)
  wp_walk using wpAny_pyIter_tuple hL1,wpAny_pyIter_tuple hL2,wpAny_pyIter_tuple hL3
  exact⟨_,rfl,h⟩
theorem cB3 {l1 l2 l3:Addr}{xs ys zs:Array Value}{Q:Value->Shared->Prop}(hl1:s.heap.IsTuple l1 xs)(hl2:s.heap.IsTuple l2 ys)(hl3:s.heap.IsTuple l3 zs)
  (h:∀h',IsZip h' (s.heap.objs.size+5) (s.heap.objs.size+3) (s.heap.objs.size+4) .none->N3 h' (s.heap.objs.size+3) (.ref s.heap.objs.size) (.ref (s.heap.objs.size+1)) (.ref (s.heap.objs.size+2))->N3 h' (s.heap.objs.size+4) .none .none .none->h'.IsTupleIter s.heap.objs.size l1 0->h'.IsTupleIter (s.heap.objs.size+1) l2 0->h'.IsTupleIter (s.heap.objs.size+2) l3 0->(∀c o,s.heap.get? c=some o->h'.get? c=some o)->Q (.ref (s.heap.objs.size+5)) {s with heap:=h'}) :
  wpAny (model prog w) A (call (.type "zip") [.ref l1,.ref l2,.ref l3]) Q E s:=by
 refine callType_new F.called_zip (by decide) (aT9 _ _ _) (aU3 _ _ _) (λobj=>aE7 obj _ _ _) F.entry_zip_new (bR9 l1 l2 l3 xs ys zs) ⟨hl1,hl2,hl3,?_⟩
 have z1:(zU1 s.heap l1).objs.size=s.heap.objs.size+1:=Heap.size_push ..
 have z2:(zU2 s.heap l1 l2).objs.size=s.heap.objs.size+2:=by rw[Heap.size_push,z1]
 have z3:(zU3 s.heap l1 l2 l3).objs.size=s.heap.objs.size+3:=by rw[Heap.size_push,z2]
 have z4:(zU4 s.heap l1 l2 l3).objs.size=s.heap.objs.size+4:=by rw[Heap.size_push,z3]
 have z5:(zU5 s.heap l1 l2 l3).objs.size=s.heap.objs.size+5:=by rw[Heap.size_push,z4]
 have g6:(zU6 s.heap l1 l2 l3).get? (zU5 s.heap l1 l2 l3).objs.size=some _:=Ac3 _ rfl
 have g5:(zU6 s.heap l1 l2 l3).get? (zU4 s.heap l1 l2 l3).objs.size=some _:=Aa6 _ (Ac3 _ rfl)
 have g4:(zU6 s.heap l1 l2 l3).get? (zU3 s.heap l1 l2 l3).objs.size=some _:=Aa6 _ (Aa6 _ (Ac3 _ rfl))
 have g3:(zU6 s.heap l1 l2 l3).get? (zU2 s.heap l1 l2).objs.size=some _:=Aa6 _ (Aa6 _ (Aa6 _ (Ac3 _ rfl)))
 have g2:(zU6 s.heap l1 l2 l3).get? (zU1 s.heap l1).objs.size=some _:=Aa6 _ (Aa6 _ (Aa6 _ (Aa6 _ (Ac3 _ rfl))))
 have g1:(zU6 s.heap l1 l2 l3).get? s.heap.objs.size=some _:=Aa6 _ (Aa6 _ (Aa6 _ (Aa6 _ (Aa6 _ (Ac3 _ rfl)))))
 show _/\_
 rw[z3,z4,z5]at g6;rw[z4]at g5;rw[z1,z2,z3]at g4;rw[z2]at g3;rw[z1]at g2;rw[z5];exact⟨⟨_,g6,rfl⟩,h _ g6 g4 g5 ⟨_,g1,rfl,rfl⟩ ⟨_,g2,rfl,rfl⟩ ⟨_,g3,rfl,rfl⟩ λc o x=>Aa6 _ (Aa6 _ (Aa6 _ (Aa6 _ (Aa6 _ (Aa6 _ x)))))⟩
end
theorem cJ0 (n a b c:Nat)(ha:a<n)(hb:b<n)(hc:c<n):cD4 (n+5) (n+3) (n+4) n (n+1) (n+2) a b c/\∀d∈[n+5,n+3,n+4,n,n+1,n+2],n<=d:=by
 have nd:([n+5,n+3,n+4,n,n+1,n+2]:List Nat).Nodup:=by
  simp only[Aa5,Aa1,Ac2,or_false,not_or,not_false_eq_true,List.nodup_nil,and_true];omega
 have m:∀x:Nat,x<n->x∉([n+5,n+4,n,n+1,n+2]:List Nat):=λx hx=>by simp only[Aa1,Ac2,or_false,not_or];omega
 refine⟨⟨nd,m a ha,m b hb,m c hc⟩,λd hd=>?_⟩
 simp only[Aa1,Ac2,or_false]at hd;omega
def Iz3 (K:PySem.W.Frag)(a b c:Addr):It:=
 ⟨λi H=>∃xs ys zs x y z,SqT K H a xs/\xs[i]? = some x/\SqT K H b ys/\ys[i]? = some y/\SqT K H c zs/\zs[i]? = some z,λi H v H'=>∃T x y z,v=.ref T/\H T=none/\H'=upd H T (.tup [x,y,z])/\(∀xs,SqT K H a xs->xs[i]? = some x)/\(∀ys,SqT K H b ys->ys[i]? = some y)/\∀zs,SqT K H c zs->zs[i]? = some z,λi H=>∃xs,SqT K H a xs/\xs.length<=i⟩
theorem cA6 {P:Program}{w:World}{K:PySem.W.Frag}{elts:List Expr}{k:_}{pos:Pos}(a b c z TI TO i1 i2 i3:Addr)(D:cD4 z TI TO i1 i2 i3 a b c):bO0 P w K (.Tuple elts k pos) (Iz3 K a b c) [z,TI,TO,i1,i2,i3] z (λi h=>IsZip h z TI TO .none/\N3 h TI (.ref i1) (.ref i2) (.ref i3)/\(∃u v x,N3 h TO u v x)/\h.IsTupleIter i1 a i/\h.IsTupleIter i2 b i/\h.IsTupleIter i3 c i) where
 mem:=by simp
 obj:=λi h st d hd=>by
  obtain ⟨hz,hTI,⟨u,v,x,hTO⟩,⟨o1,e1,_,d1⟩,⟨o2,e2,_,d2⟩,⟨o3,e3,_,d3⟩⟩:=st;simp only[Aa1,Ac2,or_false]at hd;rcases hd with rfl | rfl | rfl | rfl | rfl | rfl
  ·exact⟨_,hz,λv z=>by cases z⟩
  ·exact⟨_,hTI,λv z=>by cases z⟩
  ·exact⟨_,hTO,λv z=>by cases z⟩
  ·exact⟨o1,e1,λv z=>by rw[d1]at z;cases z⟩
  ·exact⟨o2,e2,λv z=>by rw[d2]at z;cases z⟩
  ·exact⟨o3,e3,λv z=>by rw[d3]at z;cases z⟩
 keep:=λi h h' st k=>by
  obtain ⟨hz,hTI,⟨u,v,x,hTO⟩,h1,h2,h3⟩:=st;exact⟨k z (by simp) _ hz,k TI (by simp) _ hTI,⟨u,v,x,k TO (by simp) _ hTO⟩,h1.at λo e=>k i1 (by simp) o e,h2.at λo e=>k i2 (by simp) o e,h3.at λo e=>k i3 (by simp) o e⟩
 item:=by
  intro X hP hw hK hc i pins s σ H E I hf st hg;subst hP hw hK;obtain ⟨hz,hTI,⟨u0,v0,x0,hTO⟩,h1,h2,h3⟩:=st;obtain ⟨xs,ys,zs,x,y,u,hq,hx,hq',hy,hq3,hu⟩:=hg;obtain ⟨its,rv,p,_⟩:=I.tuple hq;obtain ⟨its',rv',p',_⟩:=I.tuple hq';obtain ⟨its3,rv3,p3,_⟩:=I.tuple hq3;obtain ⟨x',hx',ru⟩:=rv.get hx;obtain ⟨y',hy',ru'⟩:=rv'.get hy;obtain ⟨u',hu',ru3⟩:=rv3.get hu;have nd:=D.nd;simp only[Aa5,Aa1,Ac2,or_false,not_or,not_false_eq_true,List.nodup_nil,and_true]at nd;obtain ⟨⟨n1,n2,n3,n4,n4'⟩,⟨n5,n6,n7,n7'⟩,⟨n8,n9,n9'⟩,⟨n10,n11⟩,n12⟩:=nd;refine bO3 D hz hTI hTO h1 h2 h3 p p' p3 (x:=x') (y:=y') (u:=u') (by simpa using hx') (by simpa using hy') (by simpa using hu') λh' z' o' i1' i2' i3' T' kp=>⟨_,rfl,?_⟩
  have fr:∀c o,s.heap.get? c=some o->c≠s.heap.objs.size:=λc o e z=>by have h1:=Ab3 e;rw[z]at h1;exact Ad7 _ h1
  refine wpAny_letOwnedTupleGo_zip z' λg2 z2 s2=>?_
  have kp2:∀c o,c∉[z,TI,TO,i1,i2,i3]->s.heap.get? c=some o->g2.get? c=some o:=λc o hc e=>s2.extBut _ _ (λe=>hc (by simp[e])) (kp c o (λm=>hc (by simp only[Aa1,Ac2,or_false]at m ⊢;rcases m with m | m | m | m | m <;> simp[m])) e)
  have T2:N3 g2 s.heap.objs.size x' y' u':=s2.extBut _ _ (Ne.symm (fr _ _ hz)) T'
  have TI2:N3 g2 TI (.ref i1) (.ref i2) (.ref i3):=s2.extBut _ _ (Ne.symm n1) (kp TI _ (by simp[Ne.symm n1,n5,n6,n7,n7']) hTI)
  refine⟨.ref s.heap.objs.size,upd H s.heap.objs.size (.tup [x,y,u]),?_,rfl,⟨_,x,y,u,rfl,I.hok.fresh (Aa7 _),rfl,λys hy=>by rw[tuple_inj I hy hq];exact hx,λzs hz=>by rw[tuple_inj I hz hq'];exact hy,λzs hz=>by rw[tuple_inj I hz hq3];exact hu⟩,⟨z2,TI2,⟨_,_,_,s2.extBut _ _ (Ne.symm n2) o'⟩,i1'.at λo e=>s2.extBut _ _ (Ne.symm n3) e,i2'.at λo e=>s2.extBut _ _ (Ne.symm n4) e,i3'.at λo e=>s2.extBut _ _ (Ne.symm n4') e⟩,λc hc=>?_⟩
  ·refine I.turnedLaid (t':=s.toks) (fp:=[z,TI,TO,i1,i2,i3]) kp2 hf (Aa7 _) ?_;exact⟨by show 3<=sizeLine;decide,[x',y',u'],.cons ru (.cons ru' (.cons ru3 .nil)),⟨_,T2,rfl,⟨_,rfl⟩,rfl⟩⟩
  ·rw[B2]
   ·exact(hf c hc).1
   ·obtain ⟨o1,e1,_⟩:=h1;obtain ⟨o2,e2,_⟩:=h2;obtain ⟨o3,e3,_⟩:=h3;simp only[Aa1,Ac2,or_false]at hc;rcases hc with rfl | rfl | rfl | rfl | rfl | rfl
    ·exact fr _ _ hz
    ·exact fr _ _ hTI
    ·exact fr _ _ hTO
    ·exact fr _ _ e1
    ·exact fr _ _ e2
    ·exact fr _ _ e3
 done:=by
  intro X hP hw hK hc i pins s σ H E I hf st hg;subst hP hw hK;obtain ⟨hz,hTI,⟨u,v,x,hTO⟩,h1,h2,h3⟩:=st;obtain ⟨xs,hq,hx⟩:=hg;obtain ⟨its,rv,p,_⟩:=I.tuple hq;have hl:=rv.length;exact bP6 (I.ok.hd hc) D hz hTI hTO h1 p (by simp;omega) λh' kp=>⟨rfl,I.turnedL (t':=s.toks) (λc o hc q=>kp c o (λm=>hc (by simp only[Aa1,Ac2,or_false]at m ⊢;rcases m with m | m | m | m | m <;> simp[m])) q) hf⟩
 self:=λ_ _ _ _ _ st h=>wpAny_pyIter_zip st.1 h
section
variable {X:Cx}{elts:List Expr}{k:Nat}{ps:Pos}
def cS2 (K:PySem.W.Frag)(ta:TA):TI:=λσ H R=>ta σ H λvs H1=>∃a b c xs ys zs,vs=[.ref a,.ref b,.ref c]/\SqT K H1 a xs/\SqT K H1 b ys/\SqT K H1 c zs/\R (Iz3 K a b c) H1
theorem cX2 {l l' l3:Expr}{ta:TA}{p pos:Pos}(K:PySem.W.Frag)(hg:Gl X "zip")(hm:X.mg "zip" = none)(ha:PA X [l,l',l3] ta)(hK:X.K=K:=by rfl)(hs:starEach [l,l',l3] X.env=[(false,eval l X.env),(false,eval l' X.env),(false,eval l3 X.env)]:=by rfl)(hs2:starEach [l',l3] X.env=[(false,eval l' X.env),(false,eval l3 X.env)]:=by rfl):PI X (.Tuple elts k ps) (.Call (.Name "zip" p) [l,l',l3] [] pos) (cS2 K ta):=by
 subst hK;refine⟨?_⟩;intro pins s σ H R I h;refine Call_ (i8 I hg hm boot_zip (PyProof.Rows.callWith_type1 (thn (ha pos pins s σ H _ I h) λus s1 ⟨vs,H1,I1,r1,q1⟩=>?_) (by rw[hs,hs2]) (by rw[hs2];rfl)))
 obtain ⟨a,b,c,xs,ys,zs,e,hq,hq',hq3,q⟩:=q1;subst e;cases r1 with
 | cons r rr=>
  cases rr with
  | cons r' rr=>
   cases rr with
   | cons r3 rr=>
    cases rr
    cases r
    cases r'
    cases r3
    obtain ⟨its,_,pl,_⟩:=I1.tuple hq;obtain ⟨its',_,pl',_⟩:=I1.tuple hq';obtain ⟨its3,_,pl3,_⟩:=I1.tuple hq3;have la:a<s1.heap.objs.size:=by obtain ⟨o,e,_⟩:=pl;exact Ab3 e
    have lb:b<s1.heap.objs.size:=by obtain ⟨o,e,_⟩:=pl';exact Ab3 e
    have lc:c<s1.heap.objs.size:=by obtain ⟨o,e,_⟩:=pl3;exact Ab3 e
    refine cB3 pl pl' pl3 λh' hz hTI hTO h1 h2 h3 kp=>wpAny_pyIter_zip hz ?_
    obtain ⟨D,nC⟩:=cJ0 _ _ _ _ la lb lc;refine⟨_,_,_,_,H1,rfl,I1.kept (t':=s1.toks) kp,cA6 a b c _ _ _ _ _ _ D,⟨hz,hTI,⟨_,_,_,hTO⟩,h1,h2,h3⟩,λd hd=>?_,q⟩
    have:=nC d hd
    exact I1.fpOk this (I1.hok.fresh this)
end
end L2
namespace LV
open PySem PySem.Spec PyProof.Rows L2
section
variable {K:PySem.W.Frag}{ρ:List Sl}{m:Bool}{t ta tb:TE}{d d':PyData}{ds es fs:List PyData}
def zp3:List PyData->List PyData->List PyData->List PyData
 | d::ds,e::es,f::fs=>.tuple [d,e,f]::zp3 ds es fs
 | _,_,_=>[]
theorem bE4:∀{ds es fs:List PyData},es.length=ds.length->fs.length=ds.length->(zp3 ds es fs).length=ds.length
 | [],[],[],_,_=>rfl
 | d::ds,e::es,f::fs,h,h'=>by simp[zp3,bE4 (ds:=ds) (es:=es) (fs:=fs) (by simpa using h) (by simpa using h')]
theorem bC2:∀{ds es fs:List PyData} {i:Nat} {d:PyData},(zp3 ds es fs)[i]? = some d->∃x y z,ds[i]? = some x/\es[i]? = some y/\fs[i]? = some z/\d=.tuple [x,y,z]
 | [],_,_,_,_,h=>by simp[zp3]at h
 | _::_,[],_,_,_,h=>by simp[zp3]at h
 | _::_,_::_,[],_,_,h=>by simp[zp3]at h
 | x::ds,y::es,z::fs,0,d,h=>⟨x,y,z,rfl,rfl,rfl,by simpa[zp3]using h.symm⟩
 | x::ds,y::es,z::fs,i+1,d,h=>by
  obtain ⟨u,v,w,h1,h2,h3,h4⟩:=bC2 (ds:=ds) (es:=es) (fs:=fs) (i:=i) (d:=d) (by simpa[zp3]using h)
  exact⟨u,v,w,by simpa using h1,by simpa using h2,by simpa using h3,h4⟩
theorem cW8 {Z:Hp}{a b c:Addr}{xs ys zs:List V}(s:SqT K Z a xs)(r:Reps K Z xs ds)(s':SqT K Z b ys)(r':Reps K Z ys es)(s3:SqT K Z c zs)(r3:Reps K Z zs fs)(hl:es.length=ds.length)(hl':fs.length=ds.length):Wk K Z (Iz3 K a b c) (zp3 ds es fs) where
 stop:=λi H h l=>⟨xs,C4 h s,by rw[r.length,<- bE4 hl hl'];exact l⟩
 go:=λi H d h e=>by
  obtain ⟨x,y,z,e1,e2,e3,_⟩:=bC2 e;obtain ⟨v,h1,_⟩:=r.get' e1;obtain ⟨u,h2,_⟩:=r'.get' e2;obtain ⟨w,h3,_⟩:=r3.get' e3;exact⟨xs,ys,zs,v,u,w,C4 h s,h1,C4 h s',h2,C4 h s3,h3⟩
 yld:=λi H d x H' h e y=>by
  obtain ⟨p,q,z,e1,e2,e3,rfl⟩:=bC2 e;obtain ⟨T,v,u,w,rfl,hT,rfl,y1,y2,y3⟩:=y;obtain ⟨d1,f1,f2⟩:=r.get (y1 xs (C4 h s));obtain ⟨d2,f3,f4⟩:=r'.get (y2 ys (C4 h s'));obtain ⟨d3,f5,f6⟩:=r3.get (y3 zs (C4 h s3));rw[e1]at f1;cases f1;rw[e2]at f3;cases f3;rw[e3]at f5;cases f5;have g:=D3 (o:=.tup [v,u,w]) hT;refine⟨g,λS hS=>?_⟩
  have hm:Same Z (hid S (upd H T (.tup [v,u,w]))):=λb o q=>hid_some.mpr ⟨(λz=>by rw[(hS b z).1]at q;cases q),g b o (h b o q)⟩
  exact .tup (SqT.of (hid_some.mpr ⟨λz=>(hS T z).2 hT,B7⟩)) (.cons (f2.mono hm) (.cons (f4.mono hm) (.cons (f6.mono hm) .nil)))
theorem dC6 {t:TA}(h:A K m t ρ [.tuple ds,.tuple es,.tuple fs])(hl:es.length=ds.length)(hl':fs.length=ds.length):I K m (cS2 K t) ρ (zp3 ds es fs):=λS B σ H o J R q=>h S B σ H o J _ λvs H1 s1 r=>by
 cases r with
 | cons a b=>
  cases b with
  | cons b c=>
   cases c with
   | cons c e=>
    cases e
    cases a with
    | tup s r=>
     cases b with
     | tup s' r'=>
      cases c with
      | tup s3 r3=>exact⟨_,_,_,_,_,_,rfl,C4 aB9 s,C4 aB9 s',C4 aB9 s3,q _ H1 s1 (cW8 s r s' r' s3 r3 hl hl')⟩
end
section
variable {K:PySem.W.Frag}{ρ:List Sl}{S:Addr->Prop}{B H:Hp}{σ:L2.St}{o:Nat->List Addr}{i:Nat}
theorem aP1 {Z H:Hp}:∀{A:List PyData} {vs:List V} {L:List Addr},Dps K Z H vs (A.map OT.leaf) L->L=[]/\Reps K Z vs A
 | [],_,_,r=>by cases r;exact⟨rfl,.nil⟩
 | d::A,_,_,r=>by
  cases r with
  | cons a b=>
   cases a with
   | leaf a=>
    obtain ⟨rfl,h⟩:=aP1 b;exact⟨rfl,.cons a h⟩
def lsT (As:List (List PyData)):List OT:=As.map λA=>.lst (A.map OT.leaf)
def dK8 (K:PySem.W.Frag)(Z H:Hp)(ps:List Addr)(As:List (List PyData)):Prop:=ps.length=As.length/\∀(k:Nat) (p:Addr) (A:List PyData),ps[k]? = some p->As[k]? = some A->∃xs,H p=some (.lst xs)/\Reps K Z xs A
theorem aP8 {Z H:Hp}:∀{As:List (List PyData)} {vs:List V} {L:List Addr},Dps K Z H vs (lsT As) L->vs=L.map V.ref/\dK8 K Z H L As
 | [],_,_,r=>by cases r;exact⟨rfl,rfl,λk p A h=>by simp at h⟩
 | A::As,_,_,r=>by
  cases r with
  | cons a b=>
   obtain ⟨rfl,hl,hk⟩:=aP8 (As:=As) b;cases a with
   | lst e r'=>
    obtain ⟨rfl,h⟩:=aP1 r';refine⟨rfl,by simpa using hl,λk p A' h1 h2=>?_⟩
    cases k with
    | zero=>
     simp at h1 h2
     subst h1 h2;exact⟨_,e,h⟩
    | succ k=>exact hk k p A' (by simpa using h1) (by simpa using h2)
theorem cE7 {u:OT}{d:PyData}{ps:List Addr}(hi:ρ[i]? = some (.tr u))(hp:o i=ps):C3 (ρ.set i (.val d)) (d6 o i []) (λb=>S b\/b∈ps)=C3 ρ o S:=by
 have hl:i<ρ.length:=(Ab0.mp hi).1
 funext b
 refine propext ⟨?_,?_⟩
 ·rintro ((z | z) | ⟨j,x,hx,ho,hb⟩)
  ·exact .inl z
  ·exact .inr ⟨i,_,hi,rfl,by rw[hp];exact z⟩
  ·by_cases e:i=j
   ·subst e;rw[List.getElem?_set_self hl]at hx;cases hx;cases ho
   ·rw[Ac9 e]at hx;rw[D7 e]at hb;exact .inr ⟨j,x,hx,ho,hb⟩
 ·rintro (z | ⟨j,x,hx,ho,hb⟩)
  ·exact .inl (.inl z)
  ·by_cases e:i=j
   ·subst e;rw[hp]at hb;exact .inl (.inr hb)
   ·exact .inr ⟨j,x,by rw[Ac9 e];exact hx,ho,by rw[D7 e];exact hb⟩
theorem bH0 {Z:Hp}:∀ps:List Addr,Reps K Z (ps.map V.ref) (ps.map adD)
 | []=>.nil
 | p::ps=>.cons .adr (bH0 ps)
theorem Env.lockT {As:List (List PyData)}(I:Env K S B H σ ρ o)(hi:ρ[i]? = some (.tr (.tup (lsT As)))):∃ps:List Addr,ps.Nodup/\(∀p∈ps,B p=none)/\dK8 K H H ps As /\
  Env K (λb=>S b\/b∈ps) (λb=>if b∈ps then H b else B b) H σ (ρ.set i (.val (.tuple (ps.map adD)))) (d6 o i []):=by
 obtain ⟨nd,v,hv,dp⟩:=I.tr i _ hi;have hl:i<ρ.length:=(Ab0.mp hi).1;cases dp with
 | @tup a xs _ L sq dps=>
 obtain ⟨rfl,hls⟩:=aP8 dps;generalize hp:o i=ps at *;have bn:∀p∈ps,B p=none:=λp hpp=>I.new i _ hi rfl p (by rw[hp];exact hpp)
 have eo:=cE7 (S:=S) (d:=.tuple (ps.map adD)) hi hp
 have at_:∀{j:Nat} {y:Sl},i≠j->(ρ.set i (.val (.tuple (ps.map adD))))[j]? = some y->ρ[j]? = some y:=λ{j y} e h=>by rw[Ac9 e]at h;exact h
 have self:∀{y:Sl},(ρ.set i (.val (.tuple (ps.map adD))))[i]? = some y->y=.val (.tuple (ps.map adD)):=λ{y} h=>by rw[List.getElem?_set_self hl]at h;exact(Ab4 h).symm
 have isl:∀p∈ps,∃xs,H p=some (.lst xs):=λp hpp=>by
  obtain ⟨k,hk⟩:=List.mem_iff_getElem?.mp hpp;have hkl:=(Ab0.mp hk).1;obtain ⟨xs,e,_⟩:=hls.2 k p _ hk (Aa2 (by rw[<- hls.1];exact hkl))
  exact⟨xs,e⟩
 refine⟨ps,nd,bn,⟨hls.1,λk p A h1 h2=>by obtain ⟨xs,e,r⟩:=hls.2 k p A h1 h2;exact⟨xs,e,r.mono T6⟩⟩,⟨by rw[List.length_set];exact I.len,λx y q=>?_,λx z=>?_,λj y hy ho x hx=>?_,λj k y z hy hz oy oz x hx hx'=>?_,λj es h=>?_,λj d h=>?_,λj d h=>?_,λj t h=>?_⟩⟩
 ·by_cases e:x∈ps
  ·simp only[e,if_true]at q ⊢;exact q
  ·simp only[e,if_false]at q;exact I.base x y q
 ·rcases z with z | z
  ·obtain ⟨u,q⟩:=I.sl x z;have e:x∉ps:=λe=>by rw[bn x e]at q;cases q
   exact⟨u,by simp only[e,if_false];exact q⟩
  ·obtain ⟨xs,q⟩:=isl x z;exact⟨.l xs,by simp only[z,if_true];exact q⟩
 ·by_cases e:i=j
  ·subst e;rw[self hy]at ho;cases ho
  ·rw[D7 e]at hx;have e2:x∉ps:=λe2=>e (I.inj i j _ y hi (at_ e hy) rfl ho x (by rw[hp];exact e2) hx)
   simp only[e2,if_false];exact I.new j y (at_ e hy) ho x hx
 ·by_cases e:i=j
  ·subst e;rw[self hy]at oy;cases oy
  ·by_cases e':i=k
   ·subst e';rw[self hz]at oz;cases oz
   ·rw[D7 e]at hx;rw[D7 e']at hx';exact I.inj j k y z (at_ e hy) (at_ e' hz) oy oz x hx hx'
 ·by_cases e:i=j
  ·subst e;cases self h
  ·rw[D7 e,eo];exact I.own j es (at_ e h)
 ·by_cases e:i=j
  ·subst e;cases self h;refine⟨_,hv,.tup ?_ (bH0 ps)⟩;rw[eo];exact sq.imp (S5 I.lists) id
  ·rw[eo];exact I.val j d (at_ e h)
 ·by_cases e:i=j
  ·subst e;cases self h
  ·exact I.bor j d (at_ e h)
 ·by_cases e:i=j
  ·subst e;cases self h
  ·rw[D7 e,eo];exact I.tr j t (at_ e h)
theorem dF5 {j:Nat}{As:List (List PyData)}{es fs:List PyData}{t:TA}{g:TG}{tb:TS}{R:AE}(hi:ρ[i]? = some (.tr (.tup (lsT As))))(im:∀A∈As,M1 A=true)
  (ha:∀lk,A K true t (ρ.set i (.val (.tuple lk))) [.tuple lk,.tuple es,.tuple fs]) (he:es.length=As.length) (hf:fs.length=As.length)
  (P:List PyData->Nat->List Sl->Prop) (h0:∀lk,P lk 0 (ρ.set i (.val (.tuple lk))))
  (turn:∀lk k l e f A ρ',lk[k]? = some l->es[k]? = some e->fs[k]? = some f->As[k]? = some A->P lk k ρ'->∃ρ'',G K true g (.tuple [l,e,f]) ρ' ρ''/\ρ''[j]? = some (.val l)/\W K tb (ρ''.set j (.own A)) {rt:=R.rt,rl:=R.rl,nx:=P lk (k+1),ct:=P lk (k+1)})
  (hn:∀lk ρ',P lk As.length ρ'->R.nx ρ'):W K (dE7 (cS2 K t) g tb) ρ R:=λS B D σ H o I0 s=>by
 obtain ⟨ps,nd,bn,⟨hpl,hat⟩,I1⟩:=I0.lockT hi;have sB:Same B (λb=>if b∈ps then H b else B b):=λb x q=>by
  have e:b∉ps:=λe=>by rw[bn b e]at q;cases q
  simp only[e,if_false];exact q
 have hlk:(ps.map adD).length=As.length:=by rw[Aa3,hpl]
 refine dC6 (ha (ps.map adD)) (by rw[he,hlk]) (by rw[hf,hlk]) _ _ σ H _ I1 _ λJ H1 s1 wk=>?_
 obtain ⟨I2,sb⟩:=(I1.grow s1).rebase;have zl:=bE4 (ds:=ps.map adD) (es:=es) (fs:=fs) (by rw[he,hlk]) (by rw[hf,hlk])
 rw[hlk]at zl;generalize hds:zp3 (ps.map adD) es fs=ds at wk zl;have tups:∀a xs,Rd H a (.tup xs)->Rd (hid (bA2 (ρ.set i (.val (.tuple (ps.map adD)))) (d6 o i [])) H1) a (.tup xs):=λa xs r=>S5 (λb z=>(I1.grow s1).lists b (.inr z)) (V8 s1 r)
 have inB:∀p∈ps,hid (bA2 (ρ.set i (.val (.tuple (ps.map adD)))) (d6 o i [])) H1 p=H p:=λp hp=>by
  obtain ⟨k,hk⟩:=List.mem_iff_getElem?.mp hp;have hkl:=(Ab0.mp hk).1;obtain ⟨xs,e,_⟩:=hat k p _ hk (Aa2 (by rw[<- hpl];exact hkl))
  rw[e];exact sb _ _ (by simp only[hp,if_true];exact e)
 have sz0:Same (hid (C3 (ρ.set i (.val (.tuple (ps.map adD)))) (d6 o i []) (λb=>S b\/b∈ps)) H1) (hid (bA2 (ρ.set i (.val (.tuple (ps.map adD)))) (d6 o i [])) H1):=λb x q=>by
  obtain ⟨q1,q2⟩:=hid_some.mp q;exact hid_some.mpr ⟨λz=>q1 (.inr z),q2⟩
 have szn:∀b x,hid (C3 (ρ.set i (.val (.tuple (ps.map adD)))) (d6 o i []) (λb=>S b\/b∈ps)) H1 b=some x->b∉ps:=λb x q z=>(hid_some.mp q).1 (.inl (.inr z))
 generalize hid (bA2 (ρ.set i (.val (.tuple (ps.map adD)))) (d6 o i [])) H1=Bx at I2 sb tups inB sz0;have sBx:=L2.Same.tr sB sb
 let Bk:Nat->Hp:=λk b=>if b∈ps.take k then none else Bx b
 have szk:∀k,Same (hid (C3 (ρ.set i (.val (.tuple (ps.map adD)))) (d6 o i []) (λb=>S b\/b∈ps)) H1) (Bk k):=λk b x q=>by
  show(if b∈ps.take k then none else Bx b)=some x
  rw[if_neg λz=>szn b x q (List.mem_of_mem_take z)]
  exact sz0 b x q
 have sBk:∀k,Same B (Bk k):=λk b x q=>by
  show(if b∈ps.take k then none else Bx b)=some x
  rw[if_neg λz=>by rw[bn b (List.mem_of_mem_take z)]at q;cases q]
  exact sBx b x q
 have tupk:∀k a xs,Rd H a (.tup xs)->Rd (Bk k) a (.tup xs):=λk a xs r=>by
  have r':=tups a xs r
  have na:a∉ps:=λz=>by
   have:=inB a z
   obtain ⟨k,hk⟩:=List.mem_iff_getElem?.mp z;have hkl:=(Ab0.mp hk).1;obtain ⟨xs',e,_⟩:=hat k a _ hk (Aa2 (by rw[<- hpl];exact hkl))
   rcases r with r | ⟨o',r⟩ <;> rw[e]at r <;> cases r
  have eq:Bk k a=Bx a:=if_neg λz=>na (List.mem_of_mem_take z)
  rcases r' with r | ⟨o',r⟩
  ·exact .inl (by rw[eq];exact r)
  ·exact .inr ⟨o',by rw[eq];exact r⟩
 have I2':Env K (λb=>S b\/b∈ps.drop 0) (Bk 0) H1 σ (ρ.set i (.val (.tuple (ps.map adD)))) (d6 o i []):=by
  have:Bk 0=Bx:=by funext b;show(if b∈ps.take 0 then none else Bx b)=Bx b;rw[List.take_zero,if_neg (by simp)]
  rw[this,List.drop_zero];exact I2
 refine⟨λk m' σ' H'=>k<=ds.length/\m'=ds.length-k/\∃ρ' o',Env K (λb=>S b\/b∈ps.drop k) (Bk k) H' σ' ρ' o'/\P (ps.map adD) k ρ',⟨_,Nat.zero_le _,rfl,_,_,I2',h0 _⟩,?_⟩
 rintro k m' σ' H' ⟨hl,rfl,ρ',o',I',pp⟩;have zH:=L2.Same.tr (szk k) I'.base;by_cases e:k=ds.length
 ·subst e;rw[zl,<- hpl]at I';rw[List.drop_length]at I';have eS:(λb=>S b\/b∈([]:List Addr))=S:=by funext b;simp
  rw[eS]at I';have sbk:=sBk ps.length;exact .inl ⟨wk.stop _ _ zH (Aa7 _),s.nx ρ' σ' H' o' ⟨I'.len,L2.Same.tr sbk I'.base,I0.sl,λi ds z hz b hb=>Q7 sbk (I'.new i ds z hz b hb),I'.inj,I'.own,I'.val,I'.bor,I'.tr⟩ (hn _ ρ' (by rw[<- zl];exact pp))⟩
 ·have hlt:k<ds.length:=by omega
  have hd:ds[k]? = some ds[k]:=Aa2 hlt
  have hkp:k<ps.length:=by omega
  obtain ⟨l,e1,f1,hl1,he1,hf1,ed⟩:=bC2 (by rw[hds];exact hd)
  have hpk:ps[k]? = some ps[k]:=Aa2 hkp
  have el:l=adD ps[k]:=by rw[Aa9,hpk]at hl1;exact(Ab4 hl1).symm
  have hAk:As[k]? = some (As[k]'(by omega)):=Aa2 (by omega)
  obtain ⟨xs,hxs,rxs⟩:=hat k ps[k] _ hpk hAk;obtain ⟨ρ'',hg,hj,hb⟩:=turn (ps.map adD) k l e1 f1 _ ρ' hl1 he1 hf1 hAk pp;have dk:ps.drop k=ps[k]::ps.drop (k+1):=List.drop_eq_getElem_cons hkp;have tk:ps.take (k+1)=ps.take k++[ps[k]]:=by rw[List.take_succ_eq_append_getElem hkp]
  have ndk:ps[k]∉ps.drop (k+1):=by
   have:=(List.drop_sublist k ps).nodup nd
   rw[dk]at this;exact(Aa5.mp this).1
  have ntk:ps[k]∉ps.take k:=λz=>by
   have:=Aa4.mp (by rw[Ad2];exact nd:(ps.take k++ps.drop k).Nodup)
   exact this.2.2 _ z _ (by rw[dk];exact List.mem_cons_self) rfl
  have pmem:ps[k]∈ps:=List.getElem_mem hkp
  have eS:(λb=>S b\/b∈ps.drop k)=λb=>(S b\/b∈ps.drop (k+1))\/b=ps[k]:=by
   funext b
   rw[dk,Aa1];refine propext ⟨?_,?_⟩
   ·rintro (z | z | z)
    ·exact .inl (.inl z)
    ·exact .inr z
    ·exact .inl (.inr z)
   ·rintro ((z | z) | z)
    ·exact .inl z
    ·exact .inr (.inr z)
    ·exact .inr (.inl z)
  have sbk1:Same (Bk (k+1)) (Bk k):=λb x q=>by
   have q:(if b∈ps.take (k+1) then none else Bx b)=some x:=q
   show(if b∈ps.take k then none else Bx b)=some x
   by_cases z:b∈ps.take (k+1)
   ·rw[if_pos z]at q;cases q
   ·rw[if_neg z]at q;rw[if_neg λz'=>z (by rw[tk];exact List.mem_append_left _ z')];exact q
  have hin1:ps[k]∈ps.take (k+1):=tk.symm▸Ac1 _ (Ad6.mpr rfl)
  have bnk:Bk (k+1) ps[k]=none:=if_pos hin1
  have hpBk:Bk k ps[k]=some (.lst xs):=by
   show(if ps[k]∈ps.take k then none else Bx ps[k])=_
   rw[if_neg ntk,inB _ pmem];exact hxs
  refine .inr ⟨wk.go _ _ _ zH hd,λσ2 H2=>∃ρ2 o2,Env K (λb=>S b\/b∈ps.drop (k+1)) (Bk (k+1)) H2 σ2 ρ2 o2/\P (ps.map adD) (k+1) ρ2,λσ2 H2 ⟨ρ2,o2,I2,p2⟩=>⟨_,by omega,hlt,rfl,ρ2,o2,I2,p2⟩,λx H'' hy=>?_⟩
  obtain ⟨s2,hx2⟩:=wk.yld _ _ _ _ _ zH hd hy;have rx:=hx2 (C3 ρ' o' (λb=>S b\/b∈ps.drop k)) λb z=>by
   obtain ⟨ys,y⟩:=I'.lists b z;refine⟨?_,by rw[y];simp⟩
   rcases z with z | ⟨j,es,h',hy,e'⟩
   ·unfold vw hid;exact if_pos (.inl (z.imp id λz=>List.mem_of_mem_drop z))
   ·exact Q7 (szk k) (I'.new j es h' hy b e')
  have I3:=I'.grow s2
  rw[ed]at rx;refine hg.2 _ (Bk k) σ' H'' o' I3 x rx _ λσ2 I4=>?_
  rw[eS]at I4;rw[el]at hj;have I5:=I4.unlock (B:=Bk (k+1)) hj (λb z=>by
   obtain ⟨u,q⟩:=I'.sl b (z.imp id λz=>by rw[dk];exact Ad3 _ z)
   refine⟨u,?_⟩;have q:(if b∈ps.take k then none else Bx b)=some u.ho:=q;show(if b∈ps.take (k+1) then none else Bx b)=some u.ho;by_cases zt:b∈ps.take k
   ·rw[if_pos zt]at q;cases q
   ·rw[if_neg zt]at q;have nk:b∉ps.take (k+1):=λz'=>by
     rw[tk]at z';rcases Aa0.mp z' with z' | z'
     ·exact zt z'
     ·rw[Ad6.mp z']at z;rcases z with z | z
      ·obtain ⟨u',q'⟩:=I0.sl _ z;rw[bn _ pmem]at q';cases q'
      ·exact ndk z
    rw[if_neg nk];exact q) sbk1 bnk hpBk (j4 (λa ys r=>V8 (L2.Same.tr I'.base s2) (tupk k a ys r)) _ (im _ (List.getElem_mem (by omega))) rxs) (im _ (List.getElem_mem (by omega)))
  exact hb _ (Bk (k+1)) _ σ2 H'' _ I5 ⟨λρ3 σ3 H3 o3 I6 w=>⟨ρ3,o3,I6,w⟩,λv d H3 a b w=>s.rt v d H3 (L2.Same.tr (sBk _) a) (b.mono (C6 (L2.Same.rf _) λb z _=>.inl z)) w,λp' xs' es H3 a b c e w=>s.rl p' xs' es H3 (L2.Same.tr (sBk _) a) (Q7 (sBk _) b) c (e.mono (C6 (L2.Same.rf _) λb z _=>z.imp .inl id)) w,λ_ _ _ _ _ w=>w.elim,λρ3 σ3 H3 o3 I6 w=>⟨ρ3,o3,I6,w⟩⟩
end
end LV
set_option maxHeartbeats 1000000
namespace LV
open PySem L2 PyProof.Rows
section
variable {K:PySem.W.Frag}{B:Hp}{ρ:List Sl}{m:Bool}{d:PyData}{ds:List PyData}{pre:List PyData->PyData->Prop}{preX:List PyData->Addr->Prop}{EX:XK}
theorem cE2 {i j:Nat}{x y:Int}{EX:Hp->Prop}{R:AE}(hx:ρ[i]? = some (.val (.int x)))(hy:ρ[j]? = some (.val (.int y)))(bx : -1000000<x/\x<1000000)(by_ : -1000000<y/\y<1000000)(hE:∀H',Same B H'->EX H'):WB K B (cR9 EX (E9 (tFs (dE6 (L5 i) (dE6 (L5 j) dI7))) W1)) ρ R:=λS D σ H o I s=>by
 have ex:=A1 (K:=K) (m:=false) (i:=i) hx
 have ey:=A1 (K:=K) (m:=false) (i:=j) hy
 show(L5 i) σ H (λv H1=>∃x':Int,v=.int x'/\(-1000000<x'/\x'<1000000)/\(L5 j) σ H1 λv2 H2=>∃y':Int,v2=.int y'/\(-1000000<y'/\y'<1000000)/\∀out:Str,([V.str out]:List V).length<=1000/\EX H2)
 refine ex S B σ H o I _ λv H1 s1 r=>?_
 cases r
 refine⟨x,rfl,bx,ey S B σ H1 o (I.grow s1) _ λv2 H2 s2 r2=>?_⟩
 cases r2
 exact⟨y,rfl,by_,λout=>⟨show 1<=1000 by decide,hE H2 (L2.Same.tr I.base (L2.Same.tr s1 s2))⟩⟩
end
end LV
namespace K01
open PySem L2 LV PyProof.Rows
theorem cU7:D6 ["drawing", "p", "q"] ["drawing", "p", "q"] (A6 aK5):=⟨rfl,rfl,rfl,by decide +kernel,rfl,by decide +kernel,by decide +kernel⟩
theorem bP4:D6 ["drawing", "p", "q"] ["drawing", "p", "q"] (A6 X4):=⟨rfl,rfl,rfl,by decide +kernel,rfl,by decide +kernel,by decide +kernel⟩
theorem aT4:D6 ["drawing"] ["drawing"] (A6 O1):=⟨rfl,rfl,rfl,by decide +kernel,rfl,by decide +kernel,by decide +kernel⟩
theorem sc_inner_ties:D6 ["drawing", "pairs", "p"] ["drawing"] (A6 Q6):=⟨rfl,rfl,rfl,by decide +kernel,rfl,by decide +kernel,by decide +kernel⟩
theorem aU4:D6 ["_law_turn", "_law_place"] ["_law_turn", "_law_place"] (A6 P9):=⟨rfl,rfl,rfl,by decide +kernel,rfl,by decide +kernel,by decide +kernel⟩
theorem sc__law_rows_of:D6 ["_law_found", "_law_many", "_law_row"] ["_law_found", "_law_many"] (A6 M5):=⟨rfl,rfl,rfl,by decide +kernel,rfl,by decide +kernel,by decide +kernel⟩
theorem sc__law_lands:D6 ["_law_drawing", "_law_found", "_law_p", "_law_q"] ["_law_drawing"] (A6 Q2):=⟨rfl,rfl,rfl,by decide +kernel,rfl,by decide +kernel,by decide +kernel⟩
theorem sc__law_tie_right:D6 ["_law_drawing", "_law_p", "_law_q", "_law_due", "_law_found", "_law_corner"] ["_law_drawing", "_law_p", "_law_q"] (A6 K2):=⟨rfl,rfl,rfl,by decide +kernel,rfl,by decide +kernel,by decide +kernel⟩
theorem sc__law_refused:D6 ["_law_drawing", "_law_p", "_law_q", "_law_kinds_here", "_law_e"] ["_law_drawing", "_law_p", "_law_q"] (A6 N2):=⟨rfl,rfl,rfl,by decide +kernel,rfl,by decide +kernel,by decide +kernel⟩
theorem aV6:D6 ["_law_found"] ["_law_found"] (A6 P4):=⟨rfl,rfl,rfl,by decide +kernel,rfl,by decide +kernel,by decide +kernel⟩
theorem sc__law_kinds:D6 ["_law_e", "_law_one", "_law_two"] ["_law_e"] (A6 Q1):=⟨rfl,rfl,rfl,by decide +kernel,rfl,by decide +kernel,by decide +kernel⟩
theorem cE3 {x y z:Nat}(h1:x≠y)(h2:y≠z)(h3:x≠z):TT.W5 [x,y,z]=TT.nrm x y z:=by
 obtain ⟨M,hm,hle,hn⟩:∃M:Nat,M∈[x,y,z]/\(∀c∈[x,y,z],M<=c)/\[x,y,z].drop ([x,y,z].idxOf M)++[x,y,z].take ([x,y,z].idxOf M)=TT.nrm x y z:=by
  unfold TT.nrm;by_cases c1:x<y/\x<z
  ·rw[if_pos c1];exact⟨x,by simp,λc hc=>by simp at hc;omega,by simp⟩
  ·rw[if_neg c1];by_cases c2:y<z/\y<x
   ·rw[if_pos c2];exact⟨y,by simp,λc hc=>by simp at hc;omega,by rw[show [x,y,z].idxOf y=1 from TT.aB6 (p:=[x]) (s:=[z]) (by simp[h1,h2,h3]) rfl];rfl⟩
   ·rw[if_neg c2];exact⟨z,by simp,λc hc=>by simp at hc;omega,by rw[show [x,y,z].idxOf z=2 from TT.aB6 (p:=[x,y]) (s:=[]) (by simp[h1,h2,h3]) rfl];rfl⟩
 have e:TT.mn [x,y,z]=M:=by
  have hh:=TT.bV9 (l:=[x,y,z]) (by simp)
  have a1:=hh.2 M hm
  have a2:=hle _ hh.1
  omega
 unfold TT.W5;rw[e,hn]
def fIt (p:Nat):PyData->Option PyData
 | .int q=>if decide ((p:Int)<q)&&decide (q≥3) then some (pD ((p:Int),q)) else none
 | _=>none
theorem bV4 (l:List Nat):(nI l).length=l.length:=by unfold nI;simp
theorem cM9 {l:List Nat}{d:PyData}(h:d∈nI l):∃q∈l,d=.int (q:Int):=by
 unfold nI at h;obtain ⟨q,hq,rfl⟩:=Aa8.mp h;exact⟨q,hq,rfl⟩
theorem cV4 (p:Nat)(l:List Nat):(nI l).filterMap (fIt p)=((l.filter λq=>decide (p<q)&&decide (3<=q)).map λq=>(p,q)).map λz=>pD (cI z):=by
 unfold nI;induction l with
 | nil=>rfl
 | cons q l ih=>
  rw[Ac6,List.filterMap_cons,List.filter_cons];have e:(decide ((p:Int)<(q:Int))&&decide ((q:Int)≥3))=(decide (p<q)&&decide (3<=q)):=by
   rw[Bool.eq_iff_iff];simp;omega
  have e2:fIt p (.int (q:Int))=if(decide (p<q)&&decide (3<=q))=true then some (pD ((p:Int),(q:Int))) else none:=by
   show(if(decide ((p:Int)<(q:Int))&&decide ((q:Int)≥3))=true then some (pD ((p:Int),(q:Int))) else none)=_
   rw[e]
  rw[e2];cases (decide (p<q)&&decide (3<=q)) with
  | true=>rw[if_pos rfl,if_pos rfl];show _::_=_::_;rw[ih];rfl
  | false=>rw[if_neg (by decide),if_neg (by decide)];exact ih
def dF8 (ds es:List PyData):Prop:=∃(m:Nat) (dr tr:List (List Nat)),Dw m dr tr/\ds=[.tuple (dr.map tN)]/\es=(((List.range (m+3)).map λp=>TT.iti (TT.trn dr) p).flatten).map λz=>pD (cI z)
theorem dM7 (l:List Nat):(cL l).map PyData.int=nI l:=by unfold cL nI;rw[Ae0];rfl
theorem bS6 (r:Nat->List Nat)(h:∀p,(r p).length<=10):∀n,(((List.range n).map λp=>TT.iti r p).flatten).length<=10*n
 | 0=>by simp
 | n+1=>by
  have:=bS6 r h n
  rw[List.range_succ,Ad1,List.flatten_append,Ab7];have h2:(TT.iti r n).length<=10:=by
   unfold TT.iti;rw[Aa3];exact Nat.le_trans (List.length_filter_le _ _) (by rw[(TT.Y7 _).length_eq];exact h n)
  rw[Ac6,List.map_nil,List.flatten_cons,List.flatten_nil,List.append_nil];omega
def dH1 (c:Addr)(ds:List PyData)(C:Addr):Prop:=∃(dr:List (List Nat)) (p q:Int),ds=[.tuple (dr.map tN),.int p,.int q]/\(-1000000<p/\p<1000000)/\(-1000000<q/\q<1000000)/\td dr p q=false/\C=c
def dJ8 (ds:List PyData)(d:PyData):Prop:=∃(L:List (List Int)) (n:Nat),L.length<=100/\n<=100/\(∀l∈L,l.length=n)/\ds=[.list (L.map tI),.int (n:Int)]/\d=.bool true
def U3 (m:Nat)(dr:List (List Nat)):List (List Int):=cE5 ((TT.rds (TT.trn dr) (m+3)).map cL)
def dJ6 (ds es:List PyData):Prop:=∃(m:Nat) (dr tr:List (List Nat)),Dw m dr tr/\ds=[.tuple (dr.map tN)]/\es=(U3 m dr).map tI
def dK6 (C:Addr)(ds:List PyData)(d:PyData):Prop:=ds=[xD C]/\d=.tuple [.bool true,.bool true,.bool false]
def dI8 (ds:List PyData)(d:PyData):Prop:=∃(dr:List (List Nat)) (p q:Int),(-1000000<p/\p<1000000)/\(-1000000<q/\q<1000000)/\td dr p q=false/\ds=[.tuple (dr.map tN),.int p,.int q]/\d=.bool true
def dK3 (ds:List PyData)(d:PyData):Prop:=∃(m:Nat) (dr tr:List (List Nat)) (p q:Int),Dw m dr tr/\(-1000000<p/\p<1000000)/\(-1000000<q/\q<1000000)/\ds=[.tuple (dr.map tN),.int p,.int q]/\d=.bool true
theorem dF2:typeOf (.type "ValueError")=pure (.type "type"):=by unfold typeOf;rfl
theorem Y3 {K:PySem.W.Frag}{C D:Addr}(q:XCl K D)(s:PySem.W.subIn K (.ref C) (.ref D)=some false)(s':PySem.W.subIn K (.ref C) (.ref C)=some true):XIs K C (.ref D) false:=⟨q,s,λe=>by rw[e,s']at s;cases s⟩
def lgL (k:Nat)(r:Nat->List Nat):List (List Nat):=((List.range k).map λp=>(r p).map λq=>TT.lnd r p q).flatten
theorem bM3 (k:Nat)(r:Nat->List Nat):lgL (k+1) r=lgL k r++(r k).map λq=>TT.lnd r k q:=by
 unfold lgL;rw[List.range_succ,Ad1,List.flatten_append];simp
theorem bX6 (n:Nat)(r:Nat->List Nat):lgL n r=(TT.gps r n).map λx=>TT.lnd r x.1 x.2:=by
 unfold lgL TT.gps;rw[List.map_flatten,Ae0]
 congr 1
 refine List.map_congr_left λp _=>?_
 show _=((r p).map λq=>(p,q)).map _
 rw[Ae0];rfl
theorem cR0 {r:Nat->List Nat}(h:∀p,(r p).length<=10):∀n,(lgL n r).length<=10*n
 | 0=>by simp[lgL]
 | n+1=>by
  have:=cR0 h n
  have h2:=h n
  rw[bM3,Ab7,Aa3];omega
theorem dD2 {m:Nat}{dr tr:List (List Nat)}(dw:Dw m dr tr){p q:Int}(h:td dr p q=true):∃p' q':Nat,p=(p':Int)/\q=(q':Int)/\q'∈TT.trn dr p':=by
 unfold td at h;simp only[Bool.and_eq_true,decide_eq_true_eq]at h;obtain ⟨⟨h1,h2⟩,h3⟩:=h;obtain ⟨q',hq,e⟩:=Aa8.mp h3;exact⟨p.toNat,q',by omega,e.symm,hq⟩
section
variable {P:Program}{w:World}{K:PySem.W.Frag}{mg:Str->Option Value}{base:Heap}{a:Ad}
theorem bW6 (T:Tx K mg a):E3 P w K mg base CX0 1 a.bO5 a.bP1 ["drawing", "p", "q"] (spV K cW5):=by
 refine T.bC9.ok cU7 (aE1 λds d ⟨_,_,_,e,_⟩=>by rw[e];rfl) (λcdv A outer s H vs Q E hr h=>?_)
 obtain ⟨ds,S,d,hS,r,⟨dr,p,q,rfl,rfl⟩,k⟩:=h;refine⟨_,(A9 (E2 (bD9 (bL8 cY5 bV0 A5 (pv 1) (B6 (aU5 K) (by rfl) T.Q8 PySem.boot_len (A0 (pv 0) A3))) (aU0 (aI7 (bS9 K hr) (pv 2) (B8 (ixK K) (pv 0) (pv 1) (λ_ _=>rfl)) rfl))))),S3 hS r ?_ k⟩
 refine U4 (d:=.bool (td dr p q)) ?_ rfl;have hl:(dr.map tN).length=dr.length:=Aa3 _;have h:=bV3 (K:=K) (m:=true) (ρ:=sl0 ["drawing", "p", "q"].length [.tuple (dr.map tN),.int p,.int q]) (b:=decide (q∈(TT.trn dr p.toNat).map λ(x:Nat)=>(x:Int))) (bW7 (r:=rI0 λi j=>.bl (decide (i<=j))) (r':=rI0 λi j=>.bl (decide (i<j))) (g:=λi j=>decide (i<=j)) (g':=λi j=>decide (i<j)) (A8 (i:=0)) (A1 (i:=1) rfl) (W6 (ds:=dr.map tN) (A2 (A1 (i:=0) rfl) A7))) (λh=>by
  rw[hl]at h;have h':=Bool.and_eq_true _ _▸h;have h1:(0:Int)<=p:=of_decide_eq_true h'.1;have h2:p<(dr.length:Int):=of_decide_eq_true h'.2;have e:=cK9 (K:=K) (m:=false) (ρ:=sl0 ["drawing", "p", "q"].length [.tuple (dr.map tN),.int p,.int q]) (A1 (i:=2) rfl) (E7 (d':=tN (TT.trn dr p.toNat)) (ds:=dr.map tN) (A1 (i:=0) rfl) (A1 (i:=1) rfl) rfl (aA3 p.toNat (by omega) (by rw[Aa9,bT7 (by omega)];rfl))) (ds:=nI (TT.trn dr p.toNat)) rfl (bB0 _) (by rw[aS0];exact(v6 _).fit)
  rw[bR6]at e;exact e)
 rw[hl]at h;exact h
theorem bY4 (T:Tx K mg a):E3 P w K mg base (CXe P w) 2 a.aL3 a.aL0 ["drawing", "p", "q"] (spE K dI6 (dH1 a.B1)):=by
 have G_tied:E3 P w K mg base CX0 1 _ _ _ _:=bW6 T
 have G_ahead_in:E3 P w K mg base CX0 1 _ _ _ _:=bJ6 T
 refine T.aM5.okX bP4 (dO1 (by rintro ds d ⟨_,_,_,_,_,_,_,e,_⟩;rw[e];rfl) (by rintro ds d ⟨_,_,_,e,_⟩;rw[e];rfl)) (λcdv A outer s H vs Q E hr h=>?_)
 obtain ⟨ds,S,hS,r,h⟩:=h;rcases h with ⟨d,⟨m,dr,tr,p,q',dw,hq,rfl,rfl⟩,q⟩ | ⟨C,⟨dr,p,q',rfl,bp,bq,ht,rfl⟩,q⟩
 ·refine⟨_,(A4 (Y2 (i6 (Z0 (C1 G_tied (hr.mono (by decide)) rfl T.bT4 T.bC9.kp T.bQ8 .nil G6 (A0 (pv 0) (A0 (pv 1) (A0 (pv 2) A3)))))) (A9 (bM2 rfl T.bB6 T.aA6 rfl (A0 (bW4 (bD8 (pv 1) (bF7 (bD8 (pv 2) (bF7 cO6))))) A3) cJ3)) N4)
    (A9 (E2 (C1 G_ahead_in (hr.mono (by decide)) rfl T.aF1 T.w6.kp T.aF3 .nil G6 (A0 (B8 (ixK K) (pv 0) (pv 2) (λ_ _=>rfl)) (A0 (pv 1) A3)))))),dE4 hS r ?_ q⟩
  have Gd:=dw.good
  have s1:=Gd.sym hq
  have lp:=dw.lt hq
  have lq:=dw.lt s1
  have htd:td dr (p:Int) (q':Int)=true:=by
   unfold td
   have:=dw.len
   simp only[Bool.and_eq_true,decide_eq_true_eq,Ac7];exact⟨⟨by omega,by omega⟩,Aa8.mpr ⟨q',hq,rfl⟩⟩
  refine cO9 (cY7 (b := !true) (aC7 (t_b (G1 (d:=.bool true) (A2 (A1 (i:=0) rfl) (A2 (A1 (i:=1) rfl) (A2 (A1 (i:=2) rfl) A7))) ⟨dr,p,q',rfl,by rw[htd]⟩))) (λh=>by cases h) (λh=>W.wb (R8 ?_)))
  exact W.wb (U4 (G1 (A2 (E7 (ds:=dr.map tN) (A1 (i:=0) rfl) (A1 (i:=2) rfl) rfl (dw.at_ lq)) (A2 (A1 (i:=1) rfl) A7)) ⟨TT.trn dr q',p,s1,by have:=dw.tle q';omega,rfl,rfl⟩) rfl)
 ·refine⟨_,(A4 (Y2 (i6 (Z0 (C1 G_tied (hr.mono (by decide)) rfl T.bT4 T.bC9.kp T.bQ8 .nil G6 (A0 (pv 0) (A0 (pv 1) (A0 (pv 2) A3)))))) (A9 (bM2 rfl T.bB6 T.aA6 rfl (A0 (bW4 (bD8 (pv 1) (bF7 (bD8 (pv 2) (bF7 cO6))))) A3) cJ3)) N4)
    (A9 (E2 (C1 G_ahead_in (hr.mono (by decide)) rfl T.aF1 T.w6.kp T.aF3 .nil G6 (A0 (B8 (ixK K) (pv 0) (pv 2) (λ_ _=>rfl)) (A0 (pv 1) A3)))))),cU0 hS r ?_⟩
  refine cO9 (cY7 (b := !false) (aC7 (t_b (G1 (d:=.bool false) (A2 (A1 (i:=0) rfl) (A2 (A1 (i:=1) rfl) (A2 (A1 (i:=2) rfl) A7))) ⟨dr,p,q',rfl,by rw[ht]⟩))) (λh=>cE2 rfl rfl bp bq q) (λh=>by cases h))
theorem cL9 (T:Tx K mg a):E3 P w K mg base CX0 5 a.i5 a.i4 ["drawing"] (spL K dN3):=by
 have G_lands:E3 P w K mg base CX0 4 _ _ _ _:=bL7 T
 refine T.aE4.ok aT4 (bS0 λds d ⟨_,_,_,_,e,_⟩=>by rw[e];rfl) (λcdv A outer s H vs Q E hr h=>?_)
 obtain ⟨ds,S,es,hS,r,⟨m,dr,tr,dw,rfl,rfl⟩,q⟩:=h;obtain ⟨ad,gF,sF⟩:=T.T3;refine⟨_,(A9 (E2 (Z7 (T:=["land"]) (N':=["land"]) (is:=[]) rfl (.of rfl rfl rfl (by exact trivial) rfl rfl rfl (by exact trivial)) (Z9 (C1 G_lands (hr.mono (by decide)) rfl T.bZ1 T.bD0.kp T.bZ5 .nil G6 (A0 (pv 0) A3))) (X1 (by decide)) λ_ _ _ _=>⟨(B9 (i:=0) (by decide +kernel:(["land"]:List Str).Nodup) rfl (Or.inl rfl)),(aR8 (G7 (bC6 K hr) (pv 0) (O3 (v:=.ref ad) rfl gF rfl) (M4 _))),(pv 0)⟩))),aF7 hS r ?_ q⟩
 have hl:=dw.good.rds_len
 have m7:=dw.m7
 generalize hL:cE5 ((TT.rds (TT.trn dr) (m+3)).map cL)=L;have hLl:L.length<=100:=by rw[<- hL,(V5 _).length_eq,Aa3];omega
 have cm:=X0 (K:=K) (m:=true) (ρ:=sl0 ["drawing"].length [.tuple (dr.map tN)]) (n:=1) (is:=[]) (g:=W7 0) (tt:=bH2 (tOp (cG0 K true) (L5 0) (tC (.ref ad)))) (te:=L5 0) fIn (aB4 (ds:=L.map tI) (EF.e' (Z4 (pre:=cY3) (X:=E0) (A2 (A1 (i:=0) rfl) A7) ⟨m,dr,tr,dw,rfl,by rw[hL]⟩))) (by rw[Aa3];unfold PySem.sizeLine;omega) (λd hd=>by
  obtain ⟨l,hl,rfl⟩:=Aa8.mp hd;refine⟨_,D1,?_⟩;have e:=bX7 (K:=K) (m:=false) (ρ:=(slC (sl0 ["drawing"].length [.tuple (dr.map tN)]) 1 []).set 0 (.val (tI l))) (d:=tI l) (d':=tI [0,2,1]) (A1 (i:=0) rfl) (cK8 λH=>.tup (sF H) (.cons (.int _) (.cons (.int _) (.cons (.int _) .nil)))) (FitN.fit (v6 _)) (FitN.fit (v6 _))
  show match (if PyData.eqv (tI l) (tI [0,2,1]) then none else some (tI l)) with | none=>_ | some y=>_
  cases h:PyData.eqv (tI l) (tI [0,2,1]) with
  | true=>rw[h]at e;exact G4 e
  | false=>rw[h]at e;exact⟨G4 e,A1 rfl⟩)
 rw[bX0]at cm;exact aP9 cm rfl
theorem dF4 (T:Tx K mg a):E3 P w K mg base CX0 1 a.v9 a.q8 ["drawing"] (spL K dF8):=by
 obtain ⟨tc,gc⟩:=T.m5;refine T.aJ8.ok sc_inner_ties (bS0 (by rintro ds d ⟨_,_,_,_,e,_⟩;rw[e];rfl)) (λcdv A outer s H vs Q E hr h=>?_)
 obtain ⟨ds,S,es,hS,r,⟨m,dr,tr,dw,rfl,rfl⟩,q⟩:=h;refine⟨_,(A4 (B5 (i:=1) sc_inner_ties.nd rfl (Or.inl rfl) (C5 A3))
   (A4 (L6 PassesOwn.never rfl (G0 rfl T.E5 (A0 (B6 (aU5 K) (by rfl) T.Q8 PySem.boot_len (A0 (pv 0) A3)) A3)) (B9 (i:=2) sc_inner_ties.nd rfl (Or.inr rfl)) (A9 (G3 (N6 Ab1 PySem.F.slot_list_extend PySem.F.type_list_extend cD2 (pv 1) (A0 (Z7 (T:=["q"]) (N':=["q", "p"]) (is:=[2]) rfl (.of rfl rfl rfl (by exact⟨rfl,trivial⟩) rfl rfl rfl (by exact⟨⟨_,rfl,by first | exact .inl rfl | exact .inr rfl,by first | exact .inl rfl | exact .inr rfl⟩,trivial⟩)) (Z9 (B6 (bL4 K) (by rfl) T.W0 boot_sorted (A0 (B8 (ixK K) (pv 0) (pv 2) (λ_ _=>rfl)) A3))) (X1 (by decide)) λ_ _ _ _=>⟨(B9 (i:=0) (by decide +kernel:(["q", "p"]:List Str).Nodup) rfl (Or.inl rfl)),(aR8 (PW.pt (bT6 (G7 bV0 (pv 1) (pv 0) (M4 _)) (aZ9 (G7 dL0 (pv 0) (O3 (v:=.int 3) rfl gc ⟨tc,rfl⟩) (M4 _)))))),(J0 (A0 (pv 1) (A0 (pv 0) A3)))⟩) A3)))))
   (A9 (E2 (pv 1))))),aF7 hS r ?_ q⟩
 have m7:=dw.m7
 have hdl:=dw.len
 have hln:((dr.map tN).length:Int)=((m+3:Nat):Int):=by rw[Aa3,hdl]
 have hle:=bS6 (TT.trn dr) dw.tle
 refine B0 (M2 (ds:=[]) (G8 A7) ?_ (show 1<3 by decide))
 refine B0 (R6 (S4 (j:=((m+3:Nat):Int)) (A2 (by rw[<- hln];exact W6 (ds:=dr.map tN) (A2 (A1 (i:=0) rfl) A7)) A7) (by omega) (by omega)) (λi ρ=>∃x2,x2.nb=true/\ρ=[.val (.tuple (dr.map tN)),.own ((((List.range i).map λp=>TT.iti (TT.trn dr) p).flatten).map λz=>pD (cI z)),x2]) ⟨.no,rfl,rfl⟩ ?_ ?_)
 ·rintro p d _ hd ⟨x2,_,rfl⟩;obtain ⟨rfl,hp⟩:=S2 hd;refine⟨_,D1,?_⟩;have hp:p<m+3:=by omega
  have tl:=dw.tle p
  have h0:=hle p
  show W K _ [.val (.tuple (dr.map tN)),.own ((((List.range p).map λp=>TT.iti (TT.trn dr) p).flatten).map λz=>pD (cI z)),.val (.int (p:Int))] _
  have so:=cD8 (K:=K) (ρ:=[.val (.tuple (dr.map tN)),.own ((((List.range p).map λp=>TT.iti (TT.trn dr) p).flatten).map λz=>pD (cI z)),.val (.int (p:Int))]) (l:=cL (TT.trn dr p)) (ss:=cL (TT.srN (TT.trn dr p))) (A2 (by rw[<- cZ5];exact E7 (m:=false) (ds:=dr.map tN) (A1 (i:=0) rfl) (A1 (i:=2) rfl) rfl (dw.at_ hp)) A7) (by unfold cL;rw[Aa3];omega) ((TT.Y7 _).map _) (Ad8.mpr ((TT.bN4 _).imp λh=>by omega))
  rw[dM7]at so;have cm:=X0 (K:=K) (m:=true) (n:=1) (is:=[2]) (g:=W7 0) (tt:=dE2 (bH2 (tOp (rI0 λi j=>.bl (decide (i<j))) (L5 1) (L5 0))) (bH2 (tOp (rI0 λi j=>.bl (decide (i≥j))) (L5 0) (tC (.int 3))))) (te:=bH7 (E9 (L5 1) (E9 (L5 0) W1))) (fIt p) (aB4 (EF.e' so)) (by rw[bV4,(TT.Y7 _).length_eq];unfold PySem.sizeLine;omega) (λd hd=>by
   obtain ⟨z,_,rfl⟩:=cM9 hd;refine⟨_,D1,?_⟩;have tt:=bH9 (K:=K) (ρ:=[.val (.int (z:Int)),.val (.int (p:Int))]) (G4 (bF5 (g:=λi j=>decide (i<j)) (A1 (i:=1) rfl) (A1 (i:=0) rfl))) λ_=>G4 (bF5 (g:=λi j=>decide (i≥j)) (A1 (i:=0) rfl) (A8 (i:=3)))
   show match (if decide ((p:Int)<(z:Int))&&decide ((z:Int)≥3) then some (pD ((p:Int),(z:Int))) else none) with | none=>_ | some y=>_
   cases h:decide ((p:Int)<(z:Int))&&decide ((z:Int)≥3) with
   | true=>rw[h]at tt;exact⟨tt,U5 (A2 (A1 (i:=1) rfl) (A2 (A1 (i:=0) rfl) A7))⟩
   | false=>rw[h]at tt;exact tt)
  rw[cV4]at cm;refine cE6 rfl cm ?_ ⟨.val (.int (p:Int)),rfl,?_⟩
  ·have h1:(TT.iti (TT.trn dr) p).length<=10:=by
    unfold TT.iti;rw[Aa3];exact Nat.le_trans (List.length_filter_le _ _) (by rw[(TT.Y7 _).length_eq];exact tl)
   unfold TT.iti at h1;rw[Aa3,Aa3];unfold PySem.sizeLine;omega
  ·show [_,Sl.own _,_]=[_,Sl.own _,_]
   rw[List.range_succ,Ad1,List.flatten_append,Ad1];simp only[Ac6,List.map_nil,List.flatten_cons,List.flatten_nil,List.append_nil];rfl
 ·rintro _ ⟨x2,_,rfl⟩;refine bO9 rfl ?_;rw[O2];rfl
theorem aW7 (T:Tx K mg a):E3 P w K mg base CX0 1 a.u7 a.aA5 ["_law_turn", "_law_place"] (spV K cY0):=by
 refine T.q9.ok aU4 (aE1 λds d ⟨_,_,_,_,e,_⟩=>by rw[e];rfl) (λcdv A outer s H vs Q E hr h=>?_)
 obtain ⟨ds,S,d,hS,r,⟨l,x,hx,hl,rfl,rfl⟩,q⟩:=h;refine⟨_,(A9 (E2 (B8 (ixK K) (pv 0) (B4 X8 (N6 PySem.F.plainAttrs_tuple PySem.F.slot_tuple_index PySem.F.type_tuple_index (aY0 K) (pv 0) (A0 (pv 1) A3)) A5) (λ_ _=>rfl)))),S3 hS r ?_ q⟩
 have h:=bL2 (K:=K) (m:=false) (ρ:=sl0 ["_law_turn", "_law_place"].length [tI (l.map λ(x:Nat)=>(x:Int)),.int (x:Int)]) (ta:=L5 0) (tb:=L5 1) (k:=(x:Int)) (A1 (i:=0) rfl) (A1 (i:=1) rfl) (Aa8.mpr ⟨x,hx,rfl⟩)
 rw[aH3 x l,<- aS0]at h;exact U4 (E7 (ds:=nI l) (A1 (i:=0) rfl) (O6 (g:=λi j=>i-j) h A8) rfl (cG2 hx)) rfl
theorem bI3 (T:Tx K mg a):E3 P w K mg base CX0 1 a.t7 a.w5 ["_law_found"] (spV K cS0):=by
 refine T.v3.ok aV6 (aE1 (by rintro ds d ⟨_,e,_⟩;rw[e];rfl)) (λcdv A outer s H vs Q E hr h=>?_)
 obtain ⟨ds,S,d,hS,r,⟨i,rfl,rfl⟩,q⟩:=h;refine⟨_,(A9 (E2 (bD9 (B6 (cM4 K) (by rfl) T.D2 boot_isinstance (A0 (pv 0) (A0 (aM8 rfl T.bN0 boot_int) A3))) (aU0 (dE9 (B6 (cM4 K) (by rfl) T.D2 boot_isinstance (A0 (pv 0) (A0 (aM8 rfl T.aM0 boot_bool) A3)))))))),S3 hS r ?_ q⟩
 exact U4 (bV3 (bH6 (T := "int") (d:=.int i) (A1 (i:=0) rfl)) λh=>(dM8 (bH6 (T := "bool") (d:=.int i) (A1 (i:=0) rfl)))) rfl
theorem cW0 (T:Tx K mg a):E3 P w K mg base CX0 2 a.Y5 a.X6 ["_law_found", "_law_many"] (spV K dJ8):=by
 have G__law_whole:E3 P w K mg base CX0 1 _ _ _ _:=bI3 T
 refine T.aB2.ok sc__law_rows_of (aE1 (by rintro ds d ⟨_,_,_,_,_,e,_⟩;rw[e];rfl)) (λcdv A outer s H vs Q E hr h=>?_)
 obtain ⟨ds,S,d,hS,r,⟨L,n,h1,h2,h3,rfl,rfl⟩,q⟩:=h;refine⟨_,(A4 (Y2 (i6 (Z0 (B6 (cF4 K) (by rfl) T.D2 boot_isinstance (A0 (pv 0) (A0 (J0 (A0 (aM8 rfl T.u4 boot_list) (A0 (aM8 rfl T.T5 boot_tuple) A3))) A3))))) (A9 (E2 Z8)) N4)
   (A4 (L6 PassesOwn.never rfl (Z9 (pv 0)) (B9 (i:=2) sc__law_rows_of.nd rfl (Or.inl rfl)) (A9 (Y2 (PW.pt (bG7 (i6 (Z0 (B6 (cM4 K) (by rfl) T.D2 boot_isinstance (A0 (pv 2) (A0 (aM8 rfl T.T5 boot_tuple) A3))))) (bG7 (G7 dI4 (B6 (aU5 K) (by rfl) T.Q8 PySem.boot_len (A0 (pv 2) A3)) (pv 1) (M4 _)) (bS7 (i6 (Z0 (B6 (cC1 K rfl) (by rfl) T.bK6 boot_all (A0 (Z7 (T:=["_law_place"]) (N':=["_law_place"]) (is:=[]) rfl (.of rfl rfl rfl (by exact trivial) rfl rfl rfl (by exact trivial)) (bP7 (pv 2)) (X1 (by decide)) λ_ _ _ _=>⟨(B9 (i:=0) (by decide +kernel:(["_law_place"]:List Str).Nodup) rfl (Or.inl rfl)),i9,(C1 G__law_whole (hr.mono (by decide)) rfl T.aH1 T.v3.kp T.aI5 .nil G6 (A0 (pv 0) A3))⟩) A3)))))))) (A9 (E2 Z8)) N4)))
   (A9 (E2 Z8)))),S3 hS r ?_ q⟩
 refine B0 (aE6 (b := !true) (aC7 (t_b (dG3 (ds:=L.map tI) (A1 (i:=0) rfl)))) (λh=>by cases h) (λ_=>R8 ?_))
 refine B0 (R6 (aB4 (ds:=L.map tI) (A1 (i:=0) rfl)) (λi ρ=>∃x2,ρ=[.val (.list (L.map tI)),.val (.int (n:Int)),x2]) ⟨.no,rfl⟩ ?_ ?_)
 ·rintro i d _ hd ⟨x2,rfl⟩;rw[Aa9]at hd;obtain ⟨l,hli,rfl⟩:=Option.map_eq_some_iff.mp hd;have hll:=h3 l (List.mem_of_getElem? hli);refine⟨_,D1,?_⟩;show W K _ [.val (.list (L.map tI)),.val (.int (n:Int)),.val (tI l)] _;have c2:=dL1 (K:=K) (m:=false) (ρ:=[.val (.list (L.map tI)),.val (.int (n:Int)),.val (tI l)]) (W6 (ds:=l.map PyData.int) (A2 (A1 (i:=2) rfl) A7)) (A1 (i:=1) rfl);rw[show((l.map PyData.int).length:Int)=(n:Int) by rw[Aa3,hll]]at c2
  refine aE6 (b := !true||((!decide ((n:Int)=(n:Int))) || !((l.map λ_=>true).all id))) (cJ2 (aC7 (t_b (bH6 (T := "tuple") (d:=tI l) (A1 (i:=2) rfl)))) λ_=>cJ2 (G4 c2) λ_=>aC7 (t_b (dJ1 (l:=l.map λ_=>true) (A2 (EF.e' (EF.to (X0 (m:=true) (λ_=>some (.bool true)) (cM3 (ds:=l.map PyData.int) (A1 (i:=2) rfl)) (by rw[Aa3];unfold PySem.sizeLine;omega) λd hd=>?_) ?_)) A7)))) (λh=>by simp at h) (λh=>R8 ⟨_,rfl⟩)
  ·obtain ⟨q',hq,rfl⟩:=Aa8.mp hd;exact⟨_,D1,aX5,G1 (A2 (A1 (i:=0) rfl) A7) ⟨q',rfl,rfl⟩⟩
  ·rw[List.filterMap_map,Ae0,<- List.filterMap_eq_map];exact aC3 λx _=>rfl
 ·rintro _ ⟨x2,rfl⟩;exact U4 aP7 rfl
theorem dG7 (T:Tx K mg a):E3 P w K mg base CX0 3 a.u5 a.o9 ["_law_drawing"] (spL K dJ6):=by
 have G__law_begun:E3 P w K mg base CX0 1 _ _ _ _:=bL0 T
 have G__law_ahead:E3 P w K mg base CX0 1 _ _ _ _:=aW7 T
 refine T.aI9.ok sc__law_lands (bS0 (by rintro ds d ⟨_,_,_,_,e,_⟩;rw[e];rfl)) (λcdv A outer s H vs Q E hr h=>?_)
 obtain ⟨ds,S,es,hS,r,⟨m,dr,tr,dw,rfl,rfl⟩,q⟩:=h;refine⟨_,(A4 (B5 (i:=1) sc__law_lands.nd rfl (Or.inl rfl) (C5 A3))
   (A4 (L6 PassesOwn.never rfl (G0 rfl T.E5 (A0 (B6 (aU5 K) (by rfl) T.Q8 PySem.boot_len (A0 (pv 0) A3)) A3)) (B9 (i:=2) sc__law_lands.nd rfl (Or.inl rfl)) (A9 (L6 PassesOwn.never rfl (bP7 (B8 (ixK K) (pv 0) (pv 2) (λ_ _=>rfl))) (B9 (i:=3) sc__law_lands.nd rfl (Or.inl rfl)) (A9 (G3 (N6 Ab1 PySem.F.slot_list_append PySem.F.type_list_append D5 (pv 1) (A0 (C1 G__law_begun (hr.mono (by decide)) rfl T.aK1 T.p9.kp T.aJ4 .nil G6 (A0 (C5 (A0 (pv 2) (A0 (pv 3) (A0 (C1 G__law_ahead (hr.mono (by decide)) rfl T.aG2 T.q9.kp T.aG1 .nil G6 (A0 (B8 (ixK K) (pv 0) (pv 3) (λ_ _=>rfl)) (A0 (pv 2) A3))) A3)))) A3)) A3)))))))
   (A9 (E2 (B6 (bO7 K rfl) (by rfl) T.W0 boot_sorted (A0 (U6 (cC8 K hr rfl) (by rfl) T.bN5 boot_set (A0 (pv 1) A3)) A3)))))),aF7 hS r ?_ q⟩
 have m7:=dw.m7
 have hdl:=dw.len
 have Gd:=dw.good
 have hle:=cR0 dw.tle
 have hln:((dr.map tN).length:Int)=((m+3:Nat):Int):=by rw[Aa3,hdl]
 refine B0 (M2 (ds:=[]) (G8 A7) ?_ (show 1<4 by decide))
 refine B0 (R6 (S4 (j:=((m+3:Nat):Int)) (A2 (by rw[<- hln];exact W6 (ds:=dr.map tN) (A2 (A1 (i:=0) rfl) A7)) A7) (by omega) (by omega)) (λi ρ=>∃x2 x3,(x2.nb=true/\x3.nb=true)/\ρ=[.val (.tuple (dr.map tN)),.own ((lgL i (TT.trn dr)).map tN),x2,x3]) ⟨.no,.no,⟨rfl,rfl⟩,rfl⟩ ?_ ?_)
 ·rintro p d _ hd ⟨x2,x3,⟨_,b3⟩,rfl⟩;obtain ⟨rfl,hp⟩:=S2 hd;have hp:p<m+3:=by omega
  have tl:=dw.tle p
  have h0:=hle p
  refine⟨_,D1,?_⟩;refine R6 (cM3 (ds:=nI (TT.trn dr p)) (E7 (ds:=dr.map tN) (A1 (i:=0) rfl) (A1 (i:=2) rfl) rfl (dw.at_ hp))) (λk ρ=>∃x3,x3.nb=true/\ρ=[.val (.tuple (dr.map tN)),.own ((lgL p (TT.trn dr)++((TT.trn dr p).take k).map λq=>TT.lnd (TT.trn dr) p q).map tN),.val (.int (p:Int)),x3]) ⟨x3,b3,by rw[List.take_zero,List.map_nil,List.append_nil];rfl⟩ ?_ ?_
  ·rintro k d _ hd ⟨y3,_,rfl⟩;unfold nI at hd;rw[Aa9]at hd;obtain ⟨q',hqk,rfl⟩:=Option.map_eq_some_iff.mp hd;have hq:=List.mem_of_getElem? hqk;have s1:=Gd.sym hq;have lq:=dw.lt s1;obtain ⟨n1,n2,n3⟩:=Gd.th_ne hq;refine⟨_,D1,?_⟩;show W K _ [.val (.tuple (dr.map tN)),.own ((lgL p (TT.trn dr)++((TT.trn dr p).take k).map λq=>TT.lnd (TT.trn dr) p q).map tN),.val (.int (p:Int)),.val (.int (q':Int))] _
   refine O0 (i:=1) (d:=tN (TT.lnd (TT.trn dr) p q')) rfl (G1 (A2 (EF.e' (G8 (ds:=[.int (p:Int),.int (q':Int),.int (TT.th (TT.trn dr) p q':Nat)]) (A2 (A1 (i:=2) rfl) (A2 (A1 (i:=3) rfl) (A2 (G1 (A2 (E7 (ds:=dr.map tN) (A1 (i:=0) rfl) (A1 (i:=3) rfl) rfl (dw.at_ lq)) (A2 (A1 (i:=2) rfl) A7)) ⟨TT.trn dr q',p,s1,by have:=dw.tle q';omega,rfl,rfl⟩) A7))))) A7) ⟨[p,q',TT.th (TT.trn dr) p q'],by simp,by simp,rfl,by rw[cE3 n1 n2 n3];rfl⟩) ?_ ⟨.val (.int (q':Int)),rfl,?_⟩
   ·rw[Aa3,Ab7,Aa3,Ad0];unfold PySem.sizeLine;omega
   ·show [_,Sl.own _,_,_]=[_,Sl.own _,_,_]
    rw[List.take_succ,hqk,Ad1 (f:=λq=>TT.lnd (TT.trn dr) p q),<- Ad5,Ad1 (l₁:=lgL p (TT.trn dr)++_)];rfl
  ·rintro _ ⟨y3,b3',rfl⟩;refine⟨.val (.int (p:Int)),y3,⟨rfl,b3'⟩,?_⟩;rw[bV4,bM3,List.take_length]
 ·rintro _ ⟨x2,x3,_,rfl⟩;rw[O2];have rl:=Gd.rds_len;have hal:(U3 m dr).length=(TT.rds (TT.trn dr) (m+3)).length:=by unfold U3;rw[(V5 _).length_eq,Aa3]
  refine aP9 (cA1 (l:=(lgL (m+3) (TT.trn dr)).map cL) (ss:=U3 m dr) (by rw[<- cJ4];exact N7 (i:=1) rfl) (λx hx=>?_) (by omega) (by omega) (aY5 _) ((V5 _).nodup_iff.mpr (TT.cQ4 Gd.rds_nd λx _ y _ e=>dE3 e)) λx=>?_) rfl
  ·obtain ⟨l,hl,rfl⟩:=Aa8.mp hx;rw[bX6]at hl;obtain ⟨y,_,rfl⟩:=Aa8.mp hl;unfold TT.lnd;rcases TT.X3 y.1 y.2 (TT.th (TT.trn dr) y.1 y.2) with e | e | e <;> rw[e] <;> simp[cL]
  ·unfold U3;rw[(V5 _).mem_iff,bX6,Aa8,Aa8];refine exists_congr λl=>and_congr_left λ_=>?_
   rw[Gd.rds_mem,Aa8];constructor
   ·rintro ⟨p,q',h1,rfl⟩;exact⟨(p,q'),Gd.gps_mem.mpr h1,rfl⟩
   ·rintro ⟨y,hy,rfl⟩;exact⟨y.1,y.2,Gd.gps_mem.mp hy,rfl⟩
theorem cJ7 (T:Tx K mg a):bY8 P w K mg base 1 a.r6 a.y0 ["_law_e"] (spV K (dK6 a.B1)):=by
 refine T.aI3.okU sc__law_kinds (aE1 λds d ⟨e,_⟩=>by rw[e];rfl) (λcdv A outer s H vs Q E hr h=>?_)
 obtain ⟨ds,S,d,hS,r,⟨rfl,rfl⟩,q⟩:=h;refine⟨_,(A4 (B5 (i:=1) sc__law_kinds.nd rfl (Or.inl rfl) (B6 (aH9 K) (by rfl) T.D2 boot_isinstance (A0 (pv 0) (A0 (J0 (A0 (O3 (v:=.ref a.J9) rfl T.bM5 rfl) (A0 (O3 (v:=.ref a.R4) rfl T.cN7 rfl) (A0 (O3 (v:=.ref a.Q9) rfl T.cI7 rfl) (A0 (O3 (v:=.ref a.d9) rfl T.dC5 rfl) (A0 (O3 (v:=.ref a.M3) rfl T.bP0 rfl) A3)))))) A3))))
   (A4 (B5 (i:=2) sc__law_kinds.nd rfl (Or.inl rfl) (B6 (aH9 K) (by rfl) T.D2 boot_isinstance (A0 (pv 0) (A0 (J0 (A0 (O3 (v:=.ref a.N1) rfl T.cN6 rfl) (A0 (O3 (v:=.ref a.K3) rfl T.cD5 rfl) (A0 (O3 (v:=.ref a.M6) rfl T.cI9 rfl) (A0 (O3 (v:=.ref a.K0) rfl T.cF2 rfl) (A0 (O3 (v:=.ref a.M7) rfl T.cM5 rfl) (A0 (O3 (v:=.ref a.C9) rfl T.aV5 rfl) A3))))))) A3))))
   (A9 (E2 (J0 (A0 (B6 (aH9 K) (by rfl) T.D2 boot_isinstance (A0 (pv 0) (A0 (aM8 rfl T.T4 PyProof.Rows.Boot.«ValueError») A3))) (A0 (B6 (aH9 K) (by rfl) T.D2 boot_isinstance (A0 (pv 0) (A0 (O3 (v:=.ref a.B1) rfl T.bB6 rfl) A3))) (A0 (dK1 (pv 1) (aU0 (pv 2))) A3)))))))),S3 hS r ?_ q⟩
 have sr:=T.R7
 refine B0 (L4 (d:=.bool false) (cP0 (bs:=[false,false,false,false,false]) (A1 rfl) T.aO5 T.aH6 (λσ H Q h=>h) ⟨Y3 T.bH3 T.L9 sr,Y3 T.cK5 T.P0 sr,Y3 T.cQ3 T.O7 sr,Y3 T.dH0 T.T0 sr,Y3 T.bP2 T.M8 sr,trivial⟩ (show 5<=sizeLine by decide)) ?_)
 refine B0 (L4 (d:=.bool false) (cP0 (ys:=[.ref a.N1,.ref a.K3,.ref a.M6,.ref a.K0,.ref a.M7,.ref a.C9]) (bs:=[false,false,false,false,false,false]) (A1 rfl) T.aO5 T.aH6 (λσ H Q h=>h) ⟨Y3 T.cK2 T.O9 sr,Y3 T.cC2 T.N9 sr,Y3 T.cN8 T.P1 sr,Y3 T.cC3 T.N8 sr,Y3 T.cO8 T.P2 sr,Y3 T.aV1 T.G9 sr,trivial⟩ (show 6<=sizeLine by decide)) ?_)
 show W K _ [.val (xD a.B1),.val (.bool false),.val (.bool false)] _
 exact U4 (U5 (A2 (cY9 (b:=true) (A1 rfl) T.aO5 T.aH6 ⟨dF2,T.K9⟩) (A2 (cY9 (b:=true) (A1 rfl) T.aO5 T.aH6 ⟨T.aH6,sr,λ_=>rfl⟩) (A2 (dN9 (a:=false) (b:=false) (A1 rfl) λ_=>A1 rfl) A7)))) rfl
theorem cP6 (b1 b2 b3:Bool):Fit (.tuple [.bool b1,.bool b2,.bool b3]):=(aS3 (n:=0) λd hd=>by
 simp only[Aa1,Ac2,or_false]at hd;rcases hd with rfl | rfl | rfl <;> exact⟨rfl,by simp[PyData.depth]⟩).fit
theorem dD9 (T:Tx K mg a):E3 P w K mg base CX0 3 a.Y8 a.Y1 ["_law_drawing", "_law_p", "_law_q"] (spV K dI8):=by
 have G_left_of:E3 P w K mg base (CXe P w) 2 _ _ _ _:=bY4 T
 have G__law_kinds:bY8 P w K mg base 1 _ _ _ _:=cJ7 T
 refine T.aB8.ok sc__law_refused (aE1 (by rintro ds d ⟨_,_,_,_,_,_,e,_⟩;rw[e];rfl)) (λcdv A outer s H vs Q E hr h=>?_)
 obtain ⟨ds,S,d,hS,r,⟨dr,p,q',bp,bq,ht,rfl,rfl⟩,q⟩:=h;refine⟨_,(A4 (B5 (i:=3) sc__law_refused.nd rfl (Or.inl rfl) (J0 (A0 Z8 (A0 Z8 (A0 Z8 A3)))))
   (A4 (dB4 (j:=4) (cU3 G_left_of (hr.mono (by decide)) rfl T.aV9 T.aM5.kp T.aY9 .nil (A0 (pv 0) (A0 (pv 1) (A0 (pv 2) A3)))) rfl T.bD2 T.U0 sc__law_refused.nd rfl rfl rfl rfl λe=>A9 (B5 (i:=3) sc__law_refused.nd rfl (Or.inl rfl) (cI6 G__law_kinds (hr.u.mark.mono (by decide)) rfl T.bG3 T.aI3.kp T.bC7 .nil (A0 (pv 4) A3))))
   (A9 (E2 (aI7 (cR6 K hr) (pv 3) (J0 (A0 Z8 (A0 Z8 (A0 Z8 A3)))) (M4 _)))))),S3 hS r ?_ q⟩
 refine B0 (L4 (U5 (A2 aP7 (A2 aP7 (A2 aP7 A7)))) ?_);refine B0 (bQ6 (C:=a.B1) (A2 (A1 (i:=0) rfl) (A2 (A1 (i:=1) rfl) (A2 (A1 (i:=2) rfl) A7))) ⟨dr,p,q',rfl,bp,bq,ht,rfl⟩ T.aA6 (dG9 T.K5) ?_);refine L4 (d:=.tuple [.bool true,.bool true,.bool false]) (G1 (A2 (A1 (i:=4) rfl) A7) ⟨rfl,rfl⟩) ?_;exact U4 (dA4 (A1 (i:=3) rfl) (U5 (A2 aP7 (A2 aP7 (A2 aP7 A7)))) (cP6 _ _ _) (cP6 _ _ _)) rfl
theorem dH6 (T:Tx K mg a):E3 P w K mg base CX0 4 a.V3 a.U7 ["_law_drawing", "_law_p", "_law_q"] (spV K dK3):=by
 have G_tied:E3 P w K mg base CX0 1 _ _ _ _:=bW6 T
 have G_left_of:E3 P w K mg base (CXe P w) 2 _ _ _ _:=bY4 T
 have G__law_refused:E3 P w K mg base CX0 3 _ _ _ _:=dD9 T
 have G__law_ahead:E3 P w K mg base CX0 1 _ _ _ _:=aW7 T
 have G__law_whole:E3 P w K mg base CX0 1 _ _ _ _:=bI3 T
 refine T.j7.ok sc__law_tie_right (aE1 (by rintro ds d ⟨_,_,_,_,_,_,_,_,e,_⟩;rw[e];rfl)) (λcdv A outer s H vs Q E hr h=>?_)
 obtain ⟨ds,S,d,hS,r,⟨m,dr,tr,p,q',dw,bp,bq,rfl,rfl⟩,k⟩:=h;refine⟨_,(A4 (B5 (i:=3) sc__law_tie_right.nd rfl (Or.inl rfl) (bD9 (bL8 cY5 bV0 A5 (pv 1) (B6 (aU5 K) (by rfl) T.Q8 PySem.boot_len (A0 (pv 0) A3))) (aU0 (aI7 (bS9 K hr) (pv 2) (B8 (ixK K) (pv 0) (pv 1) (λ_ _=>rfl)) rfl))))
   (A4 (B5 (i:=4) sc__law_tie_right.nd rfl (Or.inl rfl) (C1 G_tied (hr.mono (by decide)) rfl T.bT4 T.bC9.kp T.bQ8 .nil G6 (A0 (pv 0) (A0 (pv 1) (A0 (pv 2) A3)))))
   (A4 (Y2 (PW.pt (bG7 (i6 (Z0 (B6 (cM4 K) (by rfl) T.D2 boot_isinstance (A0 (pv 4) (A0 (aM8 rfl T.aM0 boot_bool) A3))))) (bS7 (G7 (bC6 K hr) (pv 4) (pv 3) (M4 _))))) (A9 (E2 Z8)) N4)
   (A4 (Y2 (i6 (Z0 (pv 3))) (A9 (E2 (C1 G__law_refused (hr.mono (by decide)) rfl T.aP3 T.aB8.kp T.aS9 .nil G6 (A0 (pv 0) (A0 (pv 1) (A0 (pv 2) A3)))))) N4)
   (A4 (B5 (i:=5) sc__law_tie_right.nd rfl (Or.inl rfl) (C1 G_left_of (hr.mono (by decide)) rfl T.aV9 T.aM5.kp T.aY9 .nil dH7 (A0 (pv 0) (A0 (pv 1) (A0 (pv 2) A3)))))
   (A9 (E2 (bD9 (C1 G__law_whole (hr.mono (by decide)) rfl T.aH1 T.v3.kp T.aI5 .nil G6 (A0 (pv 5) A3)) (aU0 (aI7 bN9 (pv 5) (C1 G__law_ahead (hr.mono (by decide)) rfl T.aG2 T.q9.kp T.aG1 .nil G6 (A0 (B8 (ixK K) (pv 0) (pv 2) (λ_ _=>rfl)) (A0 (pv 1) A3))) (M4 _))))))))))),S3 hS r ?_ k⟩
 have hl:(dr.map tN).length=dr.length:=Aa3 _
 have h:=bV3 (K:=K) (m:=true) (ρ:=sl0 6 [.tuple (dr.map tN),.int p,.int q']) (b:=decide (q'∈(TT.trn dr p.toNat).map λ(x:Nat)=>(x:Int))) (bW7 (r:=rI0 λi j=>.bl (decide (i<=j))) (r':=rI0 λi j=>.bl (decide (i<j))) (g:=λi j=>decide (i<=j)) (g':=λi j=>decide (i<j)) (A8 (i:=0)) (A1 (i:=1) rfl) (W6 (ds:=dr.map tN) (A2 (A1 (i:=0) rfl) A7))) (λh=>by
  rw[hl]at h;have h':=Bool.and_eq_true _ _▸h;have h1:(0:Int)<=p:=of_decide_eq_true h'.1;have h2:p<(dr.length:Int):=of_decide_eq_true h'.2;have e:=cK9 (K:=K) (m:=false) (ρ:=sl0 6 [.tuple (dr.map tN),.int p,.int q']) (A1 (i:=2) rfl) (E7 (d':=tN (TT.trn dr p.toNat)) (ds:=dr.map tN) (A1 (i:=0) rfl) (A1 (i:=1) rfl) rfl (aA3 p.toNat (by omega) (by rw[Aa9,bT7 (by omega)];rfl))) (ds:=nI (TT.trn dr p.toNat)) rfl (bB0 _) (by rw[aS0];exact(v6 _).fit)
  rw[bR6]at e;exact e)
 rw[hl]at h;refine B0 (L4 (d:=.bool (td dr p q')) h ?_);refine B0 (L4 (d:=.bool (td dr p q')) (G1 (A2 (A1 (i:=0) rfl) (A2 (A1 (i:=1) rfl) (A2 (A1 (i:=2) rfl) A7))) ⟨dr,p,q',rfl,rfl⟩) ?_);show W K _ [.val (.tuple (dr.map tN)),.val (.int p),.val (.int q'),.val (.bool (td dr p q')),.val (.bool (td dr p q')),.no] _;refine B0 (aE6 (b:=(!true)||(!PyData.eqv (.bool (td dr p q')) (.bool (td dr p q')))) (cJ2 (aC7 (t_b (bH6 (T := "bool") (d:=.bool (td dr p q')) (A1 (i:=4) rfl)))) λ_=>G4 (bX7 (A1 (i:=4) rfl) (A1 (i:=3) rfl) (bM7 _) (bM7 _))) (λh=>by simp[PyData.eqv]at h) (λ_=>R8 ?_))
 cases ht:td dr p q' with
 | false=>exact B0 (aE6 (b := !false) (aC7 (t_b (A1 (i:=3) rfl))) (λ_=>U4 (G1 (A2 (A1 (i:=0) rfl) (A2 (A1 (i:=1) rfl) (A2 (A1 (i:=2) rfl) A7))) ⟨dr,p,q',bp,bq,ht,rfl,rfl⟩) rfl) (λh=>by cases h))
 | true=>
  obtain ⟨p1,q1,rfl,rfl,hq⟩:=dD2 dw ht;have s1:=dw.good.sym hq;have lq:=dw.lt s1;refine B0 (aE6 (b := !true) (aC7 (t_b (A1 (i:=3) rfl))) (λh=>by cases h) (λ_=>R8 ?_))
  refine B0 (L4 (d:=.int (TT.th (TT.trn dr) p1 q1:Nat)) (cW6 (A2 (A1 (i:=0) rfl) (A2 (A1 (i:=1) rfl) (A2 (A1 (i:=2) rfl) A7))) ⟨m,dr,tr,p1,q1,dw,hq,rfl,rfl⟩) ?_);refine U4 (bV3 (a:=true) (b:=decide ((TT.th (TT.trn dr) p1 q1:Int)=(TT.th (TT.trn dr) p1 q1:Int))) (G1 (A2 (A1 (i:=5) rfl) A7) ⟨_,rfl,rfl⟩) λ_=>aJ3 (A1 (i:=5) rfl) (G1 (A2 (E7 (ds:=dr.map tN) (A1 (i:=0) rfl) (A1 (i:=2) rfl) rfl (dw.at_ lq)) (A2 (A1 (i:=1) rfl) A7)) ⟨TT.trn dr q1,p1,s1,by have:=dw.tle q1;omega,rfl,rfl⟩)) (by simp)
end
end K01
namespace LV
open PySem PyProof.Rows L2
section
variable {K:PySem.W.Frag}{ρ:List Sl}{m:Bool}{ds:List PyData}
theorem bN7 {Z H:Hp}:∀{ds:List PyData} {vs:List V},Reps K Z vs ds->Dps K Z H vs (ds.map OT.leaf) []
 | [],_,r=>by cases r;exact .nil
 | d::ds,_,r=>by
  cases r with
  | cons a b=>exact Dps.cons (L:=[]) (L':=[]) (.leaf a) (bN7 b)
end
end LV
set_option maxHeartbeats 1000000
namespace LV
open PySem L2 PyProof.Rows
section
variable {K:PySem.W.Frag}{ρ:List Sl}{t:TE}{ds:List PyData}
theorem bS4 (h:EF K t ρ ds):EFT K t ρ (.lst (ds.map OT.leaf)):=λS B σ H o I Q q=>h S B σ H o I _ λp xs H' s hp hx r=>
 q _ [p] H' s (λb hb=>by rw[Ad6.mp hb];exact hp) (by simp) (.lst (L:=[]) hx (bN7 (r.mono (C6 (L2.Same.rf _) λb z _=>z.imp id Ad6.mp))))
end
end LV
namespace K01
open PySem L2 LV PyProof.Rows
theorem sc_law:D6 ["_law_script", "_law_m", "_law_drawing", "_law_due", "_law_inner", "_law_ties", "_law_p", "_law_q", "_law_turn", "_law_found", "_law_row", "_law_right", "_law_size"] ["_law_script"] (A6 aW5):=⟨rfl,rfl,rfl,by decide +kernel,rfl,by decide +kernel,by decide +kernel⟩
def bV7 (K:PySem.W.Frag):Sp:=λvs H Q _=>∃(a:Addr) (ns:List Int),vs=[.ref a]/\SqL K H a (ns.map V.int)/\ns.length<=63/\∀H',Q (.bl true) H'
def cL2 (xs:List Int)(lo hi:Option Int):List Int:=List.take (HT.sIx xs.length xs.length hi-HT.sIx xs.length 0 lo) (List.drop (HT.sIx xs.length 0 lo) xs)
theorem cZ3 (xs:List Int)(lo hi:Option Int):LV.aU2 (xs.map PyData.int) lo hi=(cL2 xs lo hi).map PyData.int:=by
 unfold LV.aU2 cL2;rw[Aa3,List.map_take,List.map_drop]
theorem dJ0 {l:List PyData}(h:∀d∈l,PyData.eqv d d=true):PyData.eqvAll l l=true:=by
 induction l with
 | nil=>rfl
 | cons d l ih=>simp only[PyData.eqvAll,h d List.mem_cons_self,ih λe he=>h e (Ad3 _ he),Bool.and_self]
theorem dO3 (l:List Nat):PyData.eqvAll (nI l) (nI l)=true:=dJ0 λd hd=>by
 obtain ⟨q,_,rfl⟩:=cM9 hd;rw[aO4];exact decide_eq_true rfl
theorem dO4 (R:List (List Nat)):PyData.eqv (.tuple (R.map tN)) (.tuple (R.map tN))=true:=by
 simp only[PyData.eqv];exact dJ0 λd hd=>by
  obtain ⟨l,_,rfl⟩:=Aa8.mp hd;show PyData.eqv (.tuple (nI l)) (.tuple (nI l))=true;simp only[PyData.eqv];exact dO3 l
theorem dJ4 (R:List (List Nat)):Fit (.tuple (R.map tN)):=(aS3 (n:=1) λd hd=>by
 obtain ⟨l,_,rfl⟩:=Aa8.mp hd;rw[aS0];exact v6 _).fit
theorem bF9 {lo:Int}{n i:Nat}{d:PyData}(h:(X7 lo n)[i]? = some d):d=.int (lo+(i:Int))/\i<n:=by
 have hi:=(Ab0.mp h).1
 have hn:i<n:=by simpa[X7]using hi
 unfold X7 at h;rw[Aa9,List.getElem?_range hn]at h;exact⟨(Ab4 h).symm,hn⟩
theorem cJ6 (L:List (List Int)):Fit (.list (L.map tI)):=(cF8 (n:=1) λd hd=>by obtain ⟨x,_,rfl⟩:=Aa8.mp hd;exact v6 _).fit
def aB7 (m:Nat)(dr:List (List Nat)):List (List Int):=(U3 m dr).filter λl=>decide (l≠[0,2,1])
def i7 (r:Nat->List Nat)(k:Nat):List (Nat×Nat):=((List.range k).map λp=>TT.iti r p).flatten
def zL (z:Nat×Nat):List Int:=[(z.1:Int),(z.2:Int)]
theorem dM0 (L:List (Nat×Nat)):(L.map λz=>pD (cI z))=(L.map zL).map tI:=by rw[Ae0];rfl
def tq (r:Nat->List Nat)(p k:Nat):List (Nat×Nat):=(((List.range k).map λj=>p+1+j).filter λq=>decide (q∈r p)&&decide (3<=q)).map λq=>(p,q)
theorem cX6 (r:Nat->List Nat)(p k:Nat):tq r p (k+1)=tq r p k++if(decide (p+1+k∈r p)&&decide (3<=p+1+k))=true then [(p,p+1+k)] else []:=by
 unfold tq;rw[List.range_succ,Ad1,List.filter_append,Ad1]
 congr 1
 rw[Ac6,List.map_nil,List.filter_cons];split <;> rfl
theorem dB1 {l l':List Nat}(h1:l.Pairwise (· < ·))(h2:l'.Pairwise (· < ·))(h:∀x,x∈l↔x∈l'):l=l':=by
 have p:l.Perm l':=TT.aZ4 (Ac5.mpr (h1.imp λz=>Ab9 z)) (Ac5.mpr (h2.imp λz=>Ab9 z)) h
 exact p.eq_of_pairwise (le:=λa b=>a<b) (λa b _ _ z z'=>absurd z (Nat.lt_asymm z')) h1 h2
theorem dG8 {n:Nat}{r:Nat->List Nat}(G:TT.Good n r){p:Nat}(hp:p<n):TT.iti r p=tq r p (n-(p+1)):=by
 unfold TT.iti tq
 congr 1
 have s1:(TT.srN (r p)).Pairwise (· < ·):=by
  have h1:=TT.bN4 (r p)
  have h2:=Ac5.mp ((TT.Y7 (r p)).nodup_iff.mpr (G.nd p))
  exact(h1.and h2).imp λ⟨a,b⟩=>Nat.lt_of_le_of_ne a b
 have s2:((List.range (n-(p+1))).map λj=>p+1+j).Pairwise (· < ·):=Ad8.mpr (List.pairwise_lt_range.imp λh=>by omega)
 refine dB1 (s1.sublist List.filter_sublist) (s2.sublist List.filter_sublist) λx=>?_
 simp only[List.mem_filter,(TT.Y7 (r p)).mem_iff,Bool.and_eq_true,decide_eq_true_eq,Aa8,Ab5];constructor
 ·rintro ⟨h1,h2,h3⟩
  have:=G.lt p x h1
  exact⟨⟨x-(p+1),by omega,by omega⟩,h1,h3⟩
 ·rintro ⟨⟨j,hj,rfl⟩,h1,h3⟩;exact⟨h1,by omega,h3⟩
theorem cC0 (r:Nat->List Nat)(k:Nat):i7 r (k+1)=i7 r k++TT.iti r k:=by
 unfold i7;rw[List.range_succ,Ad1,List.flatten_append];simp
theorem dM1 (r:Nat->List Nat)(p k:Nat):(tq r p k).length<=k:=by
 unfold tq;rw[Aa3];exact Nat.le_trans (List.length_filter_le _ _) (by simp)
theorem aZ2 {m:Nat}{dr tr:List (List Nat)}(dw:Dw m dr tr){t:List Int}(h:t∈U3 m dr):t.length=3:=by
 obtain ⟨l,hl,rfl⟩:=Aa8.mp ((V5 _).mem_iff.mp h);obtain ⟨p,q',_,rfl⟩:=dw.good.rds_mem.mp hl;unfold TT.lnd;rcases TT.X3 p q' (TT.th (TT.trn dr) p q') with e | e | e <;> rw[e] <;> rfl
def rl (ns:List Int)(m:Nat)(dr:List (List Nat))(x3 x4 x5 x6 x7 x8 x9 x10 x11 x12:Sl):List Sl:=[.val (lI ns),.val (.int (m:Int)),.val (.tuple (dr.map tN)),x3,x4,x5,x6,x7,x8,x9,x10,x11,x12]
theorem dA8 {ns:List Int}{m:Nat}{dr:List (List Nat)}{x3 x4 x5 x6 x7 x8 x9 x10 x11 x12:Sl}(h3:x3.nb=true)(h4:x4.nb=true)(h5:x5.nb=true)(h6:x6.nb=true)(h7:x7.nb=true)(h8:x8.nb=true)(h9:x9.nb=true)(h10:x10.nb=true)(h11:x11.nb=true)(h12:x12.nb=true):S6 (rl ns m dr x3 x4 x5 x6 x7 x8 x9 x10 x11 x12)=true:=by
 unfold rl;simp only[Z1,h3,h4,h5,h6,h7,h8,h9,h10,h11,h12,Bool.true_and];rfl
section
variable {P:Program}{w:World}{K:PySem.W.Frag}{mg:Str->Option Value}{base:Heap}{a:Ad}
theorem dG1 (T:Tx K mg a):E3 P w K mg base CX0 6 a.bM8 a.aY1 ["_law_script"] (bV7 K):=by
 have G__law_cell_at:E3 P w K mg base CX0 1 _ _ _ _:=bW3 T
 have G__law_mixed:E3 P w K mg base CX0 1 _ _ _ _:=aQ2 T
 have G__law_built:E3 P w K mg base CX0 3 _ _ _ _:=cK3 T
 have G__law_lands:E3 P w K mg base CX0 3 _ _ _ _:=dG7 T
 have G_lands:E3 P w K mg base CX0 4 _ _ _ _:=bL7 T
 have G_inner_lands:E3 P w K mg base CX0 5 _ _ _ _:=cL9 T
 have G_inner_ties:E3 P w K mg base CX0 1 _ _ _ _:=dF4 T
 have G__law_rows_of:E3 P w K mg base CX0 2 _ _ _ _:=cW0 T
 have G__law_tie_right:E3 P w K mg base CX0 4 _ _ _ _:=dH6 T
 refine T.dN0.ok sc_law (λvs H Q E ⟨_,_,e,_⟩=>by rw[e];rfl) (λcdv A outer s H vs Q E hr h=>?_)
 obtain ⟨ad,ns,rfl,hS,hl,q⟩:=h;have r:Reps K (hid (λ_=>False) H) [V.ref ad] [lI ns]:=by rw[bG0];exact .cons (.lst hS (X2 ns)) .nil
 refine⟨_,(A4 (B5 (i:=1) sc_law.nd rfl (Or.inl rfl) (B4 d7 (C1 G__law_mixed (hr.mono (by decide)) rfl T.w9 T.W9.kp T.v7 .nil G6 (A0 (C1 G__law_cell_at (hr.mono (by decide)) rfl T.T7 T.O8.kp T.U2 .nil G6 (A0 (pv 0) (A0 A5 A3))) (A0 A5 A3))) A5))
   (A4 (B5 (i:=2) sc_law.nd rfl (Or.inl rfl) (B8 (ixK K) (C1 G__law_built (hr.mono (by decide)) rfl T.aH0 T.v4.kp T.aJ0 .nil G6 (A0 (C1 G__law_cell_at (hr.mono (by decide)) rfl T.T7 T.O8.kp T.U2 .nil G6 (A0 (pv 0) (A0 A5 A3))) (A0 (aJ1 (dN1 K) (pv 0) (aD8 A5) (aD8 A5)) (A0 (pv 1) A3)))) A5 (λ_ _=>rfl)))
   (A4 (B5 (i:=3) sc_law.nd rfl (Or.inl rfl) (C1 G__law_lands (hr.mono (by decide)) rfl T.bB7 T.aI9.kp T.bG4 .nil G6 (A0 (pv 2) A3)))
   (A4 (bS3 (i:=4) sc_law.nd rfl rfl (T:=["_law_land"]) (N':=["_law_land"]) (is:=[]) rfl (.of rfl rfl rfl (by exact trivial) rfl rfl rfl (by exact trivial)) (Z9 (pv 3)) (X1 (by decide)) λ_ _ _ _=>⟨(B9 (i:=0) (by decide +kernel:(["_law_land"]:List Str).Nodup) rfl (Or.inl rfl)),(aR8 (G7 (bC6 K hr) (pv 0) (J0 (A0 A5 (A0 A5 (A0 A5 A3)))) (M4 _))),(pv 0)⟩)
   (A4 (B5 (i:=5) sc_law.nd rfl (Or.inl rfl) (C5 A3))
   (A4 (L6 PassesOwn.never rfl (G0 rfl T.E5 (A0 (B6 (aU5 K) (by rfl) T.Q8 PySem.boot_len (A0 (pv 2) A3)) A3)) (B9 (i:=6) sc_law.nd rfl (Or.inl rfl)) (A9 (L6 PassesOwn.never rfl (aL5 rfl T.E5 (A0 (B4 J8 (pv 6) A5) (A0 (B6 (aU5 K) (by rfl) T.Q8 PySem.boot_len (A0 (pv 2) A3)) A3))) (B9 (i:=7) sc_law.nd rfl (Or.inl rfl)) (A9 (Y2 (PW.pt (bT6 (G7 (bS9 K hr) (pv 7) (B8 (ixK K) (pv 2) (pv 6) (λ_ _=>rfl)) rfl) (aZ9 (G7 aW9 (pv 7) A5 (M4 _))))) (A9 (G3 (N6 Ab1 PySem.F.slot_list_append PySem.F.type_list_append D5 (pv 5) (A0 (J0 (A0 (pv 6) (A0 (pv 7) A3))) A3)))) N4)))))
   (A4 (L6 PassesOwn.never rfl (G0 rfl T.E5 (A0 A5 A3)) (B9 (i:=8) sc_law.nd rfl (Or.inl rfl)) (A4 (B5 (i:=9) sc_law.nd rfl (Or.inl rfl) (J0 (A0 (C1 G_lands (hr.mono (by decide)) rfl T.bZ1 T.bD0.kp T.bZ5 .nil G6 (A0 (pv 2) A3)) (A0 (C1 G_inner_lands (hr.mono (by decide)) rfl T.aU9 T.aE4.kp T.aV2 .nil G6 (A0 (pv 2) A3)) (A0 (C1 G_inner_ties (hr.mono (by decide)) rfl T.aZ6 T.aJ8.kp T.bA7 .nil G6 (A0 (pv 2) A3)) A3)))))
   (A9 (L6 PassesOwn.never rfl (cX2 K rfl T.bI8 (A0 (pv 9) (A0 (J0 (A0 (pv 3) (A0 (pv 4) (A0 (pv 5) A3)))) (A0 (J0 (A0 A5 (A0 A5 (A0 A5 A3)))) A3)))) (bQ4 (n:=3) rfl (Y9 (B9 (i:=10) sc_law.nd rfl (Or.inl rfl)) (Y9 (B9 (i:=11) sc_law.nd rfl (Or.inl rfl)) (Y9 (B9 (i:=12) sc_law.nd rfl (Or.inl rfl)) bE6)))) (A4 (Y2 (PW.pt (bG7 (i6 (Z0 (B6 (cM4 K) (by rfl) T.D2 boot_isinstance (A0 (pv 10) (A0 (aM8 rfl T.u4 boot_list) A3))))) (bG7 (i6 (Z0 (C1 G__law_rows_of (hr.mono (by decide)) rfl T.aP4 T.aB2.kp T.aS5 .nil G6 (A0 (pv 10) (A0 (pv 12) A3))))) (bS7 (G7 (bC6 K hr) (pv 10) (pv 11) (M4 _)))))) (A9 (E2 Z8)) N4)
   (A9 (G3 (N6 Ab1 PySem.F.slot_list_append PySem.F.type_list_append D5 (pv 10) (A0 (J0 (A0 A5 (A0 A5 (A0 A5 A3)))) A3)))))))))
   (A4 (L6 PassesOwn.never rfl (aL5 rfl T.E5 (A0 (aI0 p8 A5) (A0 (B4 J8 (B6 (aU5 K) (by rfl) T.Q8 PySem.boot_len (A0 (pv 2) A3)) A5) A3))) (B9 (i:=6) sc_law.nd rfl (Or.inl rfl)) (A9 (L6 PassesOwn.never rfl (aL5 rfl T.E5 (A0 (aI0 p8 A5) (A0 (B4 J8 (B6 (aU5 K) (by rfl) T.Q8 PySem.boot_len (A0 (pv 2) A3)) A5) A3))) (B9 (i:=7) sc_law.nd rfl (Or.inl rfl)) (A9 (Y2 (i6 (Z0 (C1 G__law_tie_right (hr.mono (by decide)) rfl T.aL7 T.j7.kp T.aL8 .nil G6 (A0 (pv 2) (A0 (pv 6) (A0 (pv 7) A3)))))) (A9 (E2 Z8)) N4)))))
   (A9 (E2 (aI7 (cR6 K hr) (pv 2) (B8 (ixK K) (C1 G__law_built (hr.mono (by decide)) rfl T.aH0 T.v4.kp T.aJ0 .nil G6 (A0 (C1 G__law_cell_at (hr.mono (by decide)) rfl T.T7 T.O8.kp T.U2 .nil G6 (A0 (pv 0) (A0 A5 A3))) (A0 (aJ1 (dN1 K) (pv 0) (aD8 A5) (aD8 A5)) (A0 (pv 1) A3)))) A5 (λ_ _=>rfl)) (M4 _)))))))))))),S3 (S:=λ_=>False) (λ_ z=>z.elim) r ?_ (d:=.bool true) (λv H' _ rv=>by cases rv;exact q H')⟩
 obtain ⟨m,hm,hm7⟩:∃m:Nat,mx (cl ns 0) 90 % 8=(m:Int)/\m<=7:=⟨(mx (cl ns 0) 90 % 8).toNat,by omega,by omega⟩
 obtain ⟨dr,tr,B⟩:=dM9 (TT.r9 (nu (cl ns 1) (cL2 ns (some 2) (some 9))) m) (dK9 (cl ns 1) m);have dw:Dw m dr tr:=⟨hm7,B.dl,B.good⟩;have hdl:=B.dl;have Gd:=dw.good;have rl2:=Gd.rds_len;have hal:(U3 m dr).length=(TT.rds (TT.trn dr) (m+3)).length:=by unfold U3;rw[(V5 _).length_eq,Aa3]
 have hil:(aB7 m dr).length<=(U3 m dr).length:=List.length_filter_le _ _
 have htl:(i7 (TT.trn dr) (m+3)).length+9=3*(m+3):=Gd.iti_len
 have hln:((dr.map tN).length:Int)=((m+3:Nat):Int):=by rw[Aa3,hdl]
 have hle:=bS6 (TT.trn dr) dw.tle
 refine B0 (L4 (d:=.int (m:Int)) (by rw[<- hm];exact e_i (G1 (A2 (G1 (A2 (A1 (i:=0) rfl) (A2 A8 A7)) ⟨ns,0,by omega,rfl,rfl⟩) (A2 A8 A7)) ⟨cl ns 0,90,⟨by omega,by omega⟩,rfl,rfl⟩) A8 (by decide)) ?_)
 refine B0 (L4 (d:=.tuple (dr.map tN)) (E7 (ds:=[.tuple (dr.map tN),.tuple (tr.map tN)]) (G1 (A2 (G1 (A2 (A1 (i:=0) rfl) (A2 A8 A7)) ⟨ns,1,by omega,rfl,rfl⟩) (A2 (EF.e' (bY7 (ds:=ns.map PyData.int) (A1 (i:=0) rfl) (aL1 A8) (aL1 A8) (j9 ns))) (A2 (A1 (i:=1) rfl) A7))) ⟨cl ns 1,cL2 ns (some 2) (some 9),m,dr,tr,hm7,B,by rw[cZ3],rfl⟩) A8 rfl rfl) ?_)
 refine B0 (M2 (ds:=(U3 m dr).map tI) (Z4 (A2 (A1 (i:=2) rfl) A7) ⟨m,dr,tr,dw,rfl,rfl⟩) ?_ (show 3<13 by decide))
 refine aY7 (i:=3) rfl ?_;show W K _ (rl ns m dr (.val (.list ((U3 m dr).map tI))) .no .no .no .no .no .no .no .no .no) _;refine B0 (M2 (ds:=(aB7 m dr).map tI) (EF.to (X0 (m:=true) fIn (aB4 (ds:=(U3 m dr).map tI) (A1 (i:=3) rfl)) (by rw[Aa3];unfold PySem.sizeLine;omega) λd hd=>?_) (bX0 _)) ?_ (show 4<13 by decide))
 ·obtain ⟨l,_,rfl⟩:=Aa8.mp hd;refine⟨_,D1,?_⟩;have e:=bX7 (K:=K) (m:=false) (ρ:=[.val (tI l)]) (d:=tI l) (d':=tI [0,2,1]) (A1 (i:=0) rfl) (U5 (ds:=[.int 0,.int 2,.int 1]) (A2 A8 (A2 A8 (A2 A8 A7)))) (FitN.fit (v6 _)) (FitN.fit (v6 _));show match (if PyData.eqv (tI l) (tI [0,2,1]) then none else some (tI l)) with | none=>_ | some y=>_
  cases h:PyData.eqv (tI l) (tI [0,2,1]) with
  | true=>rw[h]at e;exact G4 e
  | false=>rw[h]at e;exact⟨G4 e,A1 rfl⟩
 refine aY7 (i:=4) rfl ?_;refine B0 (M2 (ds:=[]) (G8 A7) ?_ (show 5<13 by decide))
 show W K _ (rl ns m dr (.val (.list ((U3 m dr).map tI))) (.val (.list ((aB7 m dr).map tI))) (.own []) .no .no .no .no .no .no .no) _
 refine B0 (R6 (S4 (j:=((m+3:Nat):Int)) (A2 (by rw[<- hln];exact W6 (ds:=dr.map tN) (A2 (A1 (i:=2) rfl) A7)) A7) (by omega) (by omega)) (λi ρ=>∃x6 x7,(x6.nb=true/\x7.nb=true)/\ρ=rl ns m dr (.val (.list ((U3 m dr).map tI))) (.val (.list ((aB7 m dr).map tI))) (.own (((i7 (TT.trn dr) i).map zL).map tI)) x6 x7 .no .no .no .no .no) ⟨.no,.no,⟨rfl,rfl⟩,rfl⟩ ?_ ?_)
 ·rintro p d _ hd ⟨x6,x7,⟨_,b7⟩,rfl⟩;obtain ⟨rfl,hp⟩:=S2 hd;have hp:p<m+3:=by omega
  have h0:(i7 (TT.trn dr) p).length<=10*p:=hle p
  refine⟨_,D1,?_⟩;refine R6 (bR2 (i:=((p+1:Nat):Int)) (j:=((m+3:Nat):Int)) (A2 (by rw[Int.natCast_add];exact O6 (g:=λi j=>i+j) (A1 (i:=6) rfl) (A8 (i:=1))) (A2 (by rw[<- hln];exact W6 (ds:=dr.map tN) (A2 (A1 (i:=2) rfl) A7)) A7)) (by omega)) (λk ρ=>∃x7,x7.nb=true/\ρ=rl ns m dr (.val (.list ((U3 m dr).map tI))) (.val (.list ((aB7 m dr).map tI))) (.own (((i7 (TT.trn dr) p++tq (TT.trn dr) p k).map zL).map tI)) (.val (.int (p:Int))) x7 .no .no .no .no .no) ⟨x7,b7,by show _=rl _ _ _ _ _ (.own (((i7 (TT.trn dr) p++[]).map zL).map tI)) _ _ _ _ _ _ _;rw[List.append_nil];rfl⟩ ?_ ?_
  ·rintro k d _ hd ⟨y7,_,rfl⟩;obtain ⟨rfl,hk⟩:=bF9 hd;have hk:p+1+k<m+3:=by omega
   have ek:((p+1:Nat):Int)+(k:Int)=((p+1+k:Nat):Int):=by omega
   rw[ek];refine⟨_,D1,?_⟩;show W K _ (rl ns m dr (.val (.list ((U3 m dr).map tI))) (.val (.list ((aB7 m dr).map tI))) (.own (((i7 (TT.trn dr) p++tq (TT.trn dr) p k).map zL).map tI)) (.val (.int (p:Int))) (.val (.int ((p+1+k:Nat):Int))) .no .no .no .no .no) _;have e1:=cK9 (K:=K) (m:=false) (ρ:=rl ns m dr (.val (.list ((U3 m dr).map tI))) (.val (.list ((aB7 m dr).map tI))) (.own (((i7 (TT.trn dr) p++tq (TT.trn dr) p k).map zL).map tI)) (.val (.int (p:Int))) (.val (.int ((p+1+k:Nat):Int))) .no .no .no .no .no) (A1 (i:=7) rfl) (E7 (d':=tN (TT.trn dr p)) (ds:=dr.map tN) (A1 (i:=2) rfl) (A1 (i:=6) rfl) rfl (dw.at_ hp)) (ds:=nI (TT.trn dr p)) rfl (bB0 _) (by rw[aS0];exact(v6 _).fit)
   rw[bR6]at e1;have tt:=bH9 (G4 e1) λ_=>G4 (bF5 (K:=K) (m:=false) (ρ:=rl ns m dr (.val (.list ((U3 m dr).map tI))) (.val (.list ((aB7 m dr).map tI))) (.own (((i7 (TT.trn dr) p++tq (TT.trn dr) p k).map zL).map tI)) (.val (.int (p:Int))) (.val (.int ((p+1+k:Nat):Int))) .no .no .no .no .no) (g:=λi j=>decide (i>j)) (A1 (i:=7) rfl) (A8 (i:=2)))
   have eb:(decide (((p+1+k:Nat):Int)∈(TT.trn dr p).map λ(x:Nat)=>(x:Int))&&decide (((p+1+k:Nat):Int)>2))=(decide (p+1+k∈TT.trn dr p)&&decide (3<=p+1+k)):=by
    rw[Bool.eq_iff_iff];simp only[Bool.and_eq_true,decide_eq_true_eq,Aa8];constructor
    ·rintro ⟨⟨x,hx,e⟩,h⟩;have e:x=p+1+k:=by omega
     exact⟨e▸hx,by omega⟩
    ·rintro ⟨h1,h2⟩;exact⟨⟨_,h1,rfl⟩,by omega⟩
   rw[eb]at tt;have hq:=dM1 (TT.trn dr) p k;have ts:=cX6 (TT.trn dr) p k;refine aE6 tt (λh=>?_) (λh=>R8 ⟨.val (.int ((p+1+k:Nat):Int)),rfl,?_⟩)
   ·rw[if_pos h]at ts;refine O0 (i:=5) (d:=tI (zL (p,p+1+k))) rfl (U5 (ds:=[.int (p:Int),.int ((p+1+k:Nat):Int)]) (A2 (A1 (i:=6) rfl) (A2 (A1 (i:=7) rfl) A7))) ?_ ⟨.val (.int ((p+1+k:Nat):Int)),rfl,?_⟩ (dA8 rfl rfl rfl rfl rfl rfl rfl rfl rfl rfl)
    ·rw[Aa3,Aa3,Ab7];unfold PySem.sizeLine;omega
    ·rw[ts];show rl _ _ _ _ _ (.own _) _ _ _ _ _ _ _=_;rw[<- Ad5,Ad1 (l₁:=i7 _ _++_),Ad1 (f:=tI)];rfl
   ·rw[if_neg (by rw[h];decide),List.append_nil]at ts
    rw[ts]
  ·rintro _ ⟨y7,b7',rfl⟩;refine⟨.val (.int (p:Int)),y7,⟨rfl,b7'⟩,?_⟩;rw[O2,show(((m+3:Nat):Int)-((p+1:Nat):Int)).toNat=m+3-(p+1) by omega,cC0,dG8 Gd hp]
 rintro _ ⟨x6,x7,⟨b6,b7⟩,rfl⟩;rw[O2,Ac7];refine aY7 (i:=5) rfl ?_;refine B0 (R6 (S4 (j:=2) (A2 A8 A7) (by omega) (by omega)) (λ_ ρ=>∃x8 x9 x10 x11 x12,(x8.nb=true/\x9.nb=true/\x10.nb=true/\x11.nb=true/\x12.nb=true)/\ρ=rl ns m dr (.val (.list ((U3 m dr).map tI))) (.val (.list ((aB7 m dr).map tI))) (.val (.list (((i7 (TT.trn dr) (m+3)).map zL).map tI))) x6 x7 x8 x9 x10 x11 x12) ⟨.no,.no,.no,.no,.no,⟨rfl,rfl,rfl,rfl,rfl⟩,rfl⟩ ?_ ?_)
 ·rintro i d _ hd ⟨x8,x9,x10,x11,x12,⟨b8,b9,b10,b11,b12⟩,rfl⟩;obtain ⟨rfl,hi⟩:=S2 hd;refine⟨_,D1,?_⟩;refine B0 (bA4 (u:=.tup (lsT [(U3 m dr).map tI,(aB7 m dr).map tI,((i7 (TT.trn dr) (m+3)).map zL).map tI])) (aG7 (E1 (bS4 (Z4 (A2 (A1 (i:=2) rfl) A7) ⟨m,dr,tr,dw,rfl,rfl⟩)) (E1 (bS4 (Z4 (A2 (A1 (i:=2) rfl) A7) ⟨m,dr,tr,dw,rfl,rfl⟩)) (E1 (bS4 (Z4 (A2 (A1 (i:=2) rfl) A7) ⟨m,dr,tr,dw,rfl,(dM0 _).symm⟩)) G5))) (by show 3<=sizeLine;decide)) ?_ (show 9<13 by decide))
  refine dF5 (i:=9) (j:=10) (As:=[(U3 m dr).map tI,(aB7 m dr).map tI,((i7 (TT.trn dr) (m+3)).map zL).map tI]) (es:=[.list ((U3 m dr).map tI),.list ((aB7 m dr).map tI),.list (((i7 (TT.trn dr) (m+3)).map zL).map tI)]) (fs:=[.int 3,.int 3,.int 2]) rfl (λA hA=>?_) (λlk=>A2 (A1 (i:=9) rfl) (A2 (U5 (A2 (A1 (i:=3) rfl) (A2 (A1 (i:=4) rfl) (A2 (A1 (i:=5) rfl) A7)))) (A2 (U5 (A2 A8 (A2 A8 (A2 A8 A7)))) A7))) rfl rfl (λlk _ ρ=>∃x10 x11 x12,(x10.nb=true/\x11.nb=true/\x12.nb=true)/\ρ=rl ns m dr (.val (.list ((U3 m dr).map tI))) (.val (.list ((aB7 m dr).map tI))) (.val (.list (((i7 (TT.trn dr) (m+3)).map zL).map tI))) x6 x7 (.val (.int (i:Int))) (.val (.tuple lk)) x10 x11 x12) (λlk=>⟨x10,x11,x12,⟨b10,b11,b12⟩,rfl⟩) ?_ ?_
  ·simp only[Aa1,Ac2,or_false]at hA;rcases hA with rfl | rfl | rfl <;> exact aC0 bQ7 _
  ·rintro lk k l e f A _ hl1 he hf hA ⟨y10,y11,y12,⟨c10,c11,c12⟩,rfl⟩;obtain ⟨L,n,rfl,rfl,rfl,hL,hn,h3⟩:∃(L:List (List Int)) (n:Nat),A=L.map tI/\e=.list (L.map tI)/\f=.int (n:Int)/\L.length<=100/\n<=100/\∀l∈L,l.length=n:=by
    rcases k with _ | _ | _ | k
    ·exact⟨U3 m dr,3,(Ab4 hA).symm,(Ab4 he).symm,(Ab4 hf).symm,by omega,by decide,λl hl=>aZ2 dw hl⟩
    ·exact⟨aB7 m dr,3,(Ab4 hA).symm,(Ab4 he).symm,(Ab4 hf).symm,by omega,by decide,λl hl=>aZ2 dw (List.mem_filter.mp hl).1⟩
    ·exact⟨(i7 (TT.trn dr) (m+3)).map zL,2,(Ab4 hA).symm,(Ab4 he).symm,(Ab4 hf).symm,by rw[Aa3];omega,by decide,λl hl=>by obtain ⟨z,_,rfl⟩:=Aa8.mp hl;rfl⟩
    ·cases hA
   refine⟨_,cF7 (aA0 D1 (aA0 D1 (aA0 D1 bR3))),rfl,?_⟩;show W K _ (rl ns m dr (.val (.list ((U3 m dr).map tI))) (.val (.list ((aB7 m dr).map tI))) (.val (.list (((i7 (TT.trn dr) (m+3)).map zL).map tI))) x6 x7 (.val (.int (i:Int))) (.val (.tuple lk)) (.own (L.map tI)) (.val (.list (L.map tI))) (.val (.int (n:Int)))) _;refine B0 (aE6 (b:=(!true)||((!true)||(!PyData.eqv (.list (L.map tI)) (.list (L.map tI))))) (cJ2 (aC7 (t_b (bH6 (T := "list") (d:=.list (L.map tI)) (N7 (i:=10) rfl)))) λ_=>cJ2 (aC7 (t_b (cU8 (A2 (N7 (i:=10) rfl) (A2 (A1 (i:=12) rfl) A7)) ⟨L,n,hL,hn,h3,rfl,rfl⟩ rfl))) λ_=>G4 (bX7 (N7 (i:=10) rfl) (A1 (i:=11) rfl) (cJ6 L) (cJ6 L))) (λh=>by rw[LV.dB8]at h;simp at h) (λ_=>R8 ?_))
   exact O0 (i:=10) (d:=tI [0,1,2]) rfl (U5 (ds:=[.int 0,.int 1,.int 2]) (A2 A8 (A2 A8 (A2 A8 A7)))) (by rw[Aa3];unfold PySem.sizeLine;omega) ⟨.own (L.map tI++[tI [0,1,2]]),.val (.list (L.map tI)),.val (.int (n:Int)),⟨rfl,rfl,rfl⟩,rfl⟩ (dA8 rfl rfl rfl b6 b7 rfl rfl rfl rfl rfl)
  ·rintro lk _ ⟨y10,y11,y12,⟨c10,c11,c12⟩,rfl⟩;exact⟨.val (.int (i:Int)),.val (.tuple lk),y10,y11,y12,⟨rfl,rfl,c10,c11,c12⟩,rfl⟩
 rintro _ ⟨x8,x9,x10,x11,x12,_,rfl⟩;have hrn:∀{ρ:List Sl},ρ[2]? = some (.val (.tuple (dr.map tN)))->LV.A K false (E9 (tUn (rU λi=>.int (-i)) (tC (.int 1))) (E9 (tOp (rI0 λi j=>.int (i+j)) (tCB (λxs H Q=>∃p ys,xs=[.ref p]/\(SqL K H p ys\/SqT K H p ys)/\Q (.int ys.length) H) (E9 (L5 2) W1)) (tC (.int 1))) W1)) ρ [.int (-1),.int ((m+4:Nat):Int)]:=λ{ρ} h2=>A2 (aN1 A8) (A2 (by
  rw[show((m+4:Nat):Int)=((dr.map tN).length:Int)+1 by rw[hln];omega]
  exact O6 (g:=λi j=>i+j) (W6 (ds:=dr.map tN) (A2 (A1 (i:=2) h2) A7)) A8) A7)
 refine B0 (R6 (bR2 (hrn rfl) (by omega)) (λ_ ρ=>∃y6 y7,ρ=rl ns m dr (.val (.list ((U3 m dr).map tI))) (.val (.list ((aB7 m dr).map tI))) (.val (.list (((i7 (TT.trn dr) (m+3)).map zL).map tI))) y6 y7 x8 x9 x10 x11 x12) ⟨x6,x7,rfl⟩ ?_ ?_)
 ·rintro i d _ hd ⟨y6,y7,rfl⟩;obtain ⟨rfl,hi⟩:=bF9 hd;refine⟨_,D1,?_⟩;refine R6 (bR2 (hrn rfl) (by omega)) (λ_ ρ=>∃y7,ρ=rl ns m dr (.val (.list ((U3 m dr).map tI))) (.val (.list ((aB7 m dr).map tI))) (.val (.list (((i7 (TT.trn dr) (m+3)).map zL).map tI))) (.val (.int (-1+(i:Int)))) y7 x8 x9 x10 x11 x12) ⟨y7,rfl⟩ ?_ ?_
  ·rintro k d _ hd ⟨z7,rfl⟩;obtain ⟨rfl,hk⟩:=bF9 hd;refine⟨_,D1,?_⟩;exact aE6 (b := !true) (aC7 (t_b (G1 (A2 (A1 (i:=2) rfl) (A2 (A1 (i:=6) rfl) (A2 (A1 (i:=7) rfl) A7))) ⟨m,dr,tr,-1+(i:Int),-1+(k:Int),dw,⟨by omega,by omega⟩,⟨by omega,by omega⟩,rfl,rfl⟩))) (λh=>by cases h) (λ_=>R8 ⟨_,rfl⟩)
  ·rintro _ ⟨z7,rfl⟩;exact⟨_,_,rfl⟩
 ·rintro _ ⟨y6,y7,rfl⟩;exact U4 (dA4 (A1 (i:=2) rfl) (E7 (ds:=[.tuple (dr.map tN),.tuple (tr.map tN)]) (G1 (A2 (G1 (A2 (A1 (i:=0) rfl) (A2 A8 A7)) ⟨ns,1,by omega,rfl,rfl⟩) (A2 (EF.e' (bY7 (ds:=ns.map PyData.int) (A1 (i:=0) rfl) (aL1 A8) (aL1 A8) (j9 ns))) (A2 (A1 (i:=1) rfl) A7))) ⟨cl ns 1,cL2 ns (some 2) (some 9),m,dr,tr,hm7,B,by rw[cZ3],rfl⟩) A8 rfl rfl) (dJ4 dr) (dJ4 dr)) (by rw[dO4])
end
theorem fin_of {l:PySem.W.OpenLaw}{w:World}{fa f:Addr}{K:PySem.W.Frag}{mg:Str->Option Value}(hfa:mg "law" = some (.ref fa))(h:∃a:Ad,Tx K mg a/\a.bM8=f/\∀(s:Shared) (v:Value),BindsTo s a.aY1 ⟨[v],[]⟩ [("_law_script",v)])
  : ∃fd:FuncData,(∀(s:Shared) (v:Value),BindsTo s fd ⟨[v],[]⟩ [("_law_script",v)])/\∀base:Heap,K.In base->base.Ns mainGlobals mg->E3 l.prog w K mg base CX0 6 fa fd ["_law_script"] (bV7 K):=by
 obtain ⟨a,T,ea,hb⟩:=h;have e:=hfa.symm.trans T.dH9;cases e;exact⟨a.aY1,hb,λbase _ _=>dG1 T⟩
theorem walk {l:PySem.W.OpenLaw}{q:Program}{loose:List Str}{XP:(Str->Option Value)->Heap->Prop}{YP:World->Heap->Prop}{d:DefRec}{K:Params->PySem.W.Frag}(hn:l.most=some 63)(hdf:d.params.defaults=[])
  (hY:∀(w:World) (h:Heap),YP w h->(K w.params).In h)
  (F:∀(w:World) (mg:Str->Option Value) (fa:Addr) (h:Heap),(K w.params).In h->h.Ns mainGlobals mg->mg d.name=some (.ref fa) ->
   ∃fd:FuncData,(∀(s:Shared) (u:Value),BindsTo s fd ⟨[u],[]⟩ [("_law_script",u)])/\∀base:Heap,(K w.params).In base->base.Ns mainGlobals mg->E3 l.prog w (K w.params) mg base CX0 6 fa fd ["_law_script"] (bV7 (K w.params))) :
  PySem.W.WalkO q loose XP YP l.row.toRowW d [] (λf vs=>PySem.call f vs):=
 L2.cT0 (n:=63) (k:=6) (x := "_law_script") (CX:=λ_=>CX0) (sp:=λw=>bV7 (K w.params)) hn (by decide) hdf ⟨rfl,by decide,by decide⟩ hY F (λ_ _ a ns hl _ hS=>⟨a,ns,rfl,hS,hl,λ_=>rfl⟩) λ_ _ _ _ _ z=>z
end K01
namespace PySem.W.Fast
def tw9013538371612779808:=0
def tw12675028977881139166:=0
def tw9552688820100455282:=0
def tw9769564784353633533:=0
def tw14165640813821944611:=0
def tw12773388974768357887:=0
def tw8422350064971270818:=0
def tw14543481066510721748:=0
def tw1364312331056745485:=0
def tw9919668396349346471:=0
def tw8545384572410440071:=0
def tw17457644397496058931:=0
def tw5911605438059197007:=0
def tw3531103772350115130:=0
def tw6985420544552634116:=0
def tw13647627548410687455:=0
def tw683093494522746273:=0
def tw5787746510612253790:=0
def tw16336604186151778918:=0
def tw16277024343210409184:=0
def tw17646808478271528742:=0
def tw15241190041535040383:=0
def tw8381058229851906221:=0
def tw8742119926566212362:=0
def tw15760411507645930773:=0
def tw5770762859745638668:=0
def tw14256534505754800982:=0
def tw4662422170129117682:=0
def tw17757051196813151003:=0
def tw5368980829498903073:=0
def tw10110848208016465604:=0
def tw9870977825610086028:=0
def tw1148628167052945376:=0
def tw1056114102417031035:=0
def tw11972253915828490931:=0
def tw18264059061350356213:=0
def tw7919114537121539312:=0
def tw5196879584369417124:=0
def tw566220569969483279:=0
def tw2347302283452829224:=0
def tw11751790816119522783:=0
def tw7011946505248660715:=0
def tw18246268920328632734:=0
def tw13722995803836294261:=0
def tw9885245620377488756:=0
def tw2686924765120910065:=0
def tw9226761910748338833:=0
def tw1598086574256019679:=0
def tw3395856580852492860:=0
def tw8105761374024275405:=0
def tw11088535924701761237:=0
def tw4000490191455379673:=0
def tw2418417700873537534:=0
def tw8130241651912976662:=0
def tw16993883782030925578:=0
def tw14494239733445489427:=0
def tw8787992320301319859:=0
def tw12496485786726596179:=0
def tw178305941310168546:=0
def tw7803214450725445578:=0
def tw16494170385268080261:=0
def tw11090286733987438234:=0
def tw10222992930670155226:=0
def tw10127832531665690970:=0
def tw1851120035826273314:=0
def tw9877029147794778666:=0
def tw14384681141775031903:=0
def tw17791476566853565810:=0
def tw871282757336117522:=0
def tw3958080707163265939:=0
def tw11277052790444900575:=0
def tw5245640716429903302:=0
def tw15129583968429329896:=0
def tw15809387544617449422:=0
def tw14025929359682971659:=0
def tw6509929043912172922:=0
def tw16415029814659405662:=0
def tw6971873898851566527:=0
def tw12540939447596535090:=0
def tw4580394153344517399:=0
def tw836153475269757547:=0
def tw13053987249360717286:=0
def tw5486668464072346181:=0
def tw6234923294205842093:=0
def tw114288131685850455:=0
def tw4252645273100643977:=0
def tw4326578834608831753:=0
def tw5953731113773275878:=0
def tw11938667667619500131:=0
def tw4540880792033096603:=0
def tw5524653680514706123:=0
def tw1264287431113312670:=0
def tw1023620485030534667:=0
def tw330449400554970721:=0
def tw9292486126522702192:=0
def tw559131236590311002:=0
def tw8042759614829469720:=0
def tw10091110305705112775:=0
def tw13765073446718066570:=0
def tw859264616449228914:=0
def tw6559841235703911310:=0
def tw15955199576776268383:=0
def tw5933383822574623102:=0
def tw2733675482046624091:=0
def tw6075246397476596930:=0
def tw8845629473565600266:=0
def tw5896893646210023827:=0
def tw18381638940400595242:=0
def tw8322018134296538174:=0
def tw10947078581748132949:=0
def tw17348007725096787973:=0
def tw9203364197968696076:=0
def tw5624268831063488012:=0
def tw8915125657761825151:=0
def tw504240620791389158:=0
def tw17219404178126131586:=0
def tw5646454285667945050:=0
def tw2416501244125053881:=0
def tw14487922902483850746:=0
def tw2230323422004912840:=0
end PySem.W.Fast
open PySem PySem.W PyProof.Rows
set_option maxRecDepth 100000 in
set_option maxHeartbeats 0 in
theorem PySem.Challenge.cw_threetrees_k01_lands_and_ties_holds : PySem.Challenge.rw_threetrees_k01_lands_and_ties.Holds := by
 w_on;o_law;k_head;(case hw=>w_witness2)
 k_fill
 refine K01.walk (l:=PySem.Challenge.rw_threetrees_k01_lands_and_ties) rfl rfl (λw h Y=>PySem.W.kIn_of Y) ?F
 case F=>
  intro w mg fa h KX G hmg;refine' K01.fin_of hmg (K01.tx_mk KX G ?a0 ?l0 ?c0 ?k0 ?a1 ?l1 ?c1 ?k1 ?a2 ?l2 ?c2 ?k2 ?a3 ?l3 ?c3 ?k3 ?a4 ?l4 ?c4 ?k4 ?a5 ?l5 ?c5 ?k5 ?a6 ?l6 ?c6 ?k6 ?a7 ?l7 ?c7 ?k7 ?a8 ?l8 ?c8 ?k8 ?a9 ?l9 ?c9 ?k9 ?a10 ?l10 ?c10 ?k10 ?a11 ?l11 ?c11 ?k11 ?a12 ?l12 ?c12 ?k12 ?a13 ?l13 ?c13 ?k13 ?a14 ?l14 ?c14 ?k14 ?a15 ?l15 ?c15 ?k15 ?a16 ?l16 ?c16 ?k16 ?a17 ?l17 ?c17 ?k17 ?a18 ?l18 ?c18 ?k18 ?a19 ?l19 ?c19 ?k19 ?a20 ?l20 ?c20 ?k20 ?a21 ?l21 ?c21 ?k21 ?a22 ?l22 ?c22 ?k22 ?T4 ?bK6 ?aM0 ?W3 ?bN0 ?D2 ?Q8 ?u4 ?bL6 ?E5 ?V1 ?bN5 ?W0 ?T5 ?bI8 ?m5 ?T3 ?h_OUTER_LAND ?n_TreesError ?y_TreesError ?t_TreesError ?n_NoDrawing ?y_NoDrawing ?t_NoDrawing ?n_NoRows ?y_NoRows ?t_NoRows ?n_NoText ?y_NoText ?t_NoText ?n_Tied ?y_Tied ?t_Tied ?n_NoArrows ?y_NoArrows ?t_NoArrows ?n_NoLand ?y_NoLand ?t_NoLand ?n_NoPlace ?y_NoPlace ?t_NoPlace ?n_NoTie ?y_NoTie ?t_NoTie ?n_NoRing ?y_NoRing ?t_NoRing ?n_TooMany ?y_TooMany ?t_TooMany ?n_NoLine ?y_NoLine ?t_NoLine ?n_NothingDone ?y_NothingDone ?t_NothingDone ?U0 ?aG6 ?aD4 ?aA6 ?aI8 ?aD7 ?aH7 ?V6 ?xo_NoTie ?xb_NoTie ?xg_NoTie ?xt_NoTie ?xc_NoTie ?K5 ?L9 ?P0 ?O7 ?T0 ?M8 ?O9 ?N9 ?R7 ?P1 ?N8 ?P2 ?G9 ?K9)
  (case a0=>k_is)
  (case l0=>k_is)
  (case c0=>k_is)
  (case k0=>k_is)
  (case a1=>k_is)
  (case l1=>k_is)
  (case c1=>k_is)
  (case k1=>k_is)
  (case a2=>k_is)
  (case l2=>k_is)
  (case c2=>k_is)
  (case k2=>k_is)
  (case a3=>k_is)
  (case l3=>k_is)
  (case c3=>k_is)
  (case k3=>k_is)
  (case a4=>k_is)
  (case l4=>k_is)
  (case c4=>k_is)
  (case k4=>k_is)
  (case a5=>k_is)
  (case l5=>k_is)
  (case c5=>k_is)
  (case k5=>k_is)
  (case a6=>k_is)
  (case l6=>k_is)
  (case c6=>k_is)
  (case k6=>k_is)
  (case a7=>k_is)
  (case l7=>k_is)
  (case c7=>k_is)
  (case k7=>k_is)
  (case a8=>k_is)
  (case l8=>k_is)
  (case c8=>k_is)
  (case k8=>k_is)
  (case a9=>k_is)
  (case l9=>k_is)
  (case c9=>k_is)
  (case k9=>k_is)
  (case a10=>k_is)
  (case l10=>k_is)
  (case c10=>k_is)
  (case k10=>k_is)
  (case a11=>k_is)
  (case l11=>k_is)
  (case c11=>k_is)
  (case k11=>k_is)
  (case a12=>k_is)
  (case l12=>k_is)
  (case c12=>k_is)
  (case k12=>k_is)
  (case a13=>k_is)
  (case l13=>k_is)
  (case c13=>k_is)
  (case k13=>k_is)
  (case a14=>k_is)
  (case l14=>k_is)
  (case c14=>k_is)
  (case k14=>k_is)
  (case a15=>k_is)
  (case l15=>k_is)
  (case c15=>k_is)
  (case k15=>k_is)
  (case a16=>k_is)
  (case l16=>k_is)
  (case c16=>k_is)
  (case k16=>k_is)
  (case a17=>k_is)
  (case l17=>k_is)
  (case c17=>k_is)
  (case k17=>k_is)
  (case a18=>k_is)
  (case l18=>k_is)
  (case c18=>k_is)
  (case k18=>k_is)
  (case a19=>k_is)
  (case l19=>k_is)
  (case c19=>k_is)
  (case k19=>k_is)
  (case a20=>k_is)
  (case l20=>k_is)
  (case c20=>k_is)
  (case k20=>k_is)
  (case a21=>k_is)
  (case l21=>k_is)
  (case c21=>k_is)
  (case k21=>k_is)
  (case a22=>k_is)
  (case l22=>k_is)
  (case c22=>k_is)
  (case k22=>k_is)
  (case T4=>k_is)
  (case bK6=>k_is)
  (case aM0=>k_is)
  (case W3=>k_is)
  (case bN0=>k_is)
  (case D2=>k_is)
  (case Q8=>k_is)
  (case u4=>k_is)
  (case bL6=>k_is)
  (case E5=>k_is)
  (case V1=>k_is)
  (case bN5=>k_is)
  (case W0=>k_is)
  (case T5=>k_is)
  (case bI8=>k_is)
  (case m5=>k_is)
  (case T3=>k_is)
  (case h_OUTER_LAND=>k_is)
  (case n_TreesError=>k_is)
  (case y_TreesError=>k_is)
  (case t_TreesError=>k_is)
  (case n_NoDrawing=>k_is)
  (case y_NoDrawing=>k_is)
  (case t_NoDrawing=>k_is)
  (case n_NoRows=>k_is)
  (case y_NoRows=>k_is)
  (case t_NoRows=>k_is)
  (case n_NoText=>k_is)
  (case y_NoText=>k_is)
  (case t_NoText=>k_is)
  (case n_Tied=>k_is)
  (case y_Tied=>k_is)
  (case t_Tied=>k_is)
  (case n_NoArrows=>k_is)
  (case y_NoArrows=>k_is)
  (case t_NoArrows=>k_is)
  (case n_NoLand=>k_is)
  (case y_NoLand=>k_is)
  (case t_NoLand=>k_is)
  (case n_NoPlace=>k_is)
  (case y_NoPlace=>k_is)
  (case t_NoPlace=>k_is)
  (case n_NoTie=>k_is)
  (case y_NoTie=>k_is)
  (case t_NoTie=>k_is)
  (case n_NoRing=>k_is)
  (case y_NoRing=>k_is)
  (case t_NoRing=>k_is)
  (case n_TooMany=>k_is)
  (case y_TooMany=>k_is)
  (case t_TooMany=>k_is)
  (case n_NoLine=>k_is)
  (case y_NoLine=>k_is)
  (case t_NoLine=>k_is)
  (case n_NothingDone=>k_is)
  (case y_NothingDone=>k_is)
  (case t_NothingDone=>k_is)
  (case U0=>k_exc)
  (case aG6=>k_exc)
  (case aD4=>k_exc)
  (case aA6=>k_exc)
  (case aI8=>k_exc)
  (case aD7=>k_exc)
  (case aH7=>k_exc)
  (case V6=>k_exc)
  (case xo_NoTie=>k_is)
  (case xb_NoTie=>k_is)
  (case xg_NoTie=>k_is)
  (case xt_NoTie=>k_is)
  (case xc_NoTie=>k_is)
  (case K5=>k_is)
  (case L9=>k_is)
  (case P0=>k_is)
  (case O7=>k_is)
  (case T0=>k_is)
  (case M8=>k_is)
  (case O9=>k_is)
  (case N9=>k_is)
  (case R7=>k_is)
  (case P1=>k_is)
  (case N8=>k_is)
  (case P2=>k_is)
  (case G9=>k_is)
  (case K9=>k_is)
